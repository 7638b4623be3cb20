import PyProof.Rows.All
import Wide.All
import OpenK.AllK
import Wide.FinOn
import Lean
import PyProof.EqAt
import PyProof.EqKinds
import PyProof.TupleCall
import KE.KSortTup
import PyProof.TupleKey
import PyProof.DictRoadsH
import KE.KLam
import KE.KNestM
import KE.KDflt
import KE.KMinKey
import PyProof.Rows.FactsExc_ValueError
import PyProof.StationsW
import PyProof.RulesAs
import PyProof.InstStoreFacts
import PySem.Challenge.RW_figurebook_k40_whole_ways_lead
noncomputable section
section
open PySem PySem.Spec PyProof.Rows
abbrev YFr:=PySem.W.Frag
def Yb:=@List.length_map
def Yc:=@wpAny_bind
def Yd:=@Heap.get?_push_of_some
def Ye:=@Bool.and_eq_true
def Yg:=@List.getElem?_eq_getElem
def Yh:=@Nat.le_refl
def Yi:=@wpAny_pure
def Yj:=@List.length_append
def Yk:=@List.size_toArray
def Yl:=@List.getElem?_map
def Ym:=@Heap.lt_size
def Yn:=@List.getD_eq_getElem?_getD
def Yo:=@List.map_append
def Yp:=@Heap.get?_push_size
def Yq:=@List.getElem?_eq_some_iff
def Yr:=@Bool.false_ne_true
def Ys:=@Bool.and_true
def Yt:=@List.mem_map
def Yu:=@PySem.F.plainAttrs_list
def Yv:=@List.mem_cons
def Yw:=@List.mem_append_right
def Yx:=@Nat.ne_of_lt
def Yy:=@decide_eq_true_eq
def Yz:=@PySem.W.mg_of
def YA:=@Bool.and_false
def YB:=@beq_self_eq_true
def YC:=@Bool.true_and
def YD:=@Bool.false_and
def YE:=@List.map_cons
def YF:=@wpAny_loadPart'
def YG:=@List.mem_of_getElem?
def YH:=@Nat.le_trans
def YI:=@Nat.lt_of_lt_of_le
def YJ:=@List.mem_singleton
def YK:=@PySem.W.mg_none_of
def YL:=@List.length_take
def YM:=@List.append_assoc
def YN:=@PyProof.Rows.callWith_type1
def YO:=@wpAny_field
def YQ:=@decide_eq_false
def YR:=@wpAny_mono
def YS:=@wpAny_holding
def YT:=@List.map_map
def YU:=@List.not_mem_nil
def YV:=@List.getElem?_eq_none
def YW:=@List.take_append_drop
def YX:=@List.drop_eq_getElem_cons
def YY:=@Nat.zero_le
def YZ:=@Bool.false_eq_true
def Y0:=@wpAny_setField_rec
def Y1:=@PySem.F.slot_list_append
def Y2:=@PySem.F.type_list_append
def Y3:=@Option.some.inj
def Y4:=@List.append_nil
def Y5:=@List.length_reverse
def Y6:=@wpAny_callSpecial?_slot
def Y7:=@List.getElem?_eq_none_iff
def Y8:=@Option.map_eq_some_iff
def Y9:=@wpAny_seqItems
def Yaa:=@List.mem_append
def Yab:=@PySem.W.kia_one
def Yac:=@Heap.SameBut.update
def Yad:=@List.reverse_cons
def Yae:=@PyProof.Rows.slot_tuple_getitem
def Yaf:=@List.map_take
def Yag:=@List.map_drop
def Yah:=@wpAny_Call_Name_kw
def Yai:=@List.length_drop
def Yaj:=@List.take_length
def Yak:=@decide_eq_true
def Yal:=@PySem.F.slot_list_pop
def Yam:=@PySem.F.type_list_pop
def Yan:=@PassesOwn.never
def Yao:=@List.take_of_length_le
def Yap:=@wpAny_truthy_bool
def Yaq:=@wpAny_newObj_type
def Yar:=@beq_eq_false_iff_ne
def Yas:=@PySem.mem_of_lookup
def Yat:=@List.cons.injEq
def Yau:=@wpAny_call_entry
def Yav:=@Array.toList_inj
def Yaw:=@List.mem_cons_of_mem
def Yax:=@List.length_range
def Yay:=@of_decide_eq_true
def Yaz:=@List.length_set
def YaA:=@Int.emod_nonneg
def YaB:=@List.map_congr_left
def YaC:=@sizeLine_eq
def YaD:=@List.getElem?_append_right
def YaE:=@if_false
def YaF:=@List.mem_cons_self
def YaG:=@Array.getElem?_toList
def YaH:=@Heap.size_push
def YaI:=@List.getElem?_append_left
def YaJ:=@wpAny_letGo
def YaK:=@Nat.ne_of_gt
def YaL:=@or_false
def YaM:=@Around.under_plainId
def YaN:=@plainId_quiet
def YaO:=@wpAny_passesOwn
def YaP:=@List.mem_iff_getElem?
def YaQ:=@Nat.min_eq_left
def YaR:=@Nat.lt_irrefl
def YaS:=@F.slot_tuple_iterator_next
def YaT:=@Array.perm_iff_toList_perm
def YaU:=@wpAny_pyIter_list
def YaV:=@Nat.lt_succ_of_lt
def YaW:=@call_meets
def YaX:=@wpAny_typeOf
def YaY:=@List.getElem_mem
def YaZ:=@Int.eq_ofNat_of_zero_le
def Ya0:=@List.length_eq_zero_iff
def Ya1:=@wpAny_standAt
def Ya2:=@Calls.spliced_cons
def Ya3:=@List.nodup_cons
def Ya4:=@codeAny_builtin
def Ya5:=@wpAny_specialOf
def Ya6:=@wpAny_updateSeq
def Ya7:=@Nat.le_max_left
def Ya8:=@PyData.tuple.injEq
def Ya9:=@PySem.W.cellsFrom_some
def Yba:=@List.drop_eq_nil_of_le
def Ybb:=@Calls.spliced_nil
def Ybc:=@List.take_add_one
def Ybd:=@List.mem_range
def Ybe:=@List.getElem?_reverse
def Ybf:=@F.slot_enumerate_next
def Ybg:=@List.eq_nil_or_concat
def Ybh:=@List.mem_append_left
def Ybi:=@wpAny_rule
def Ybj:=@List.map_reverse
def Ybk:=@wpAny_newFunctionEnv_cells
def Ybl:=@Bool.eq_iff_iff
def Ybm:=@Nat.min_le_left
def Ybn:=@Array.getElem?_eq_getElem
def Ybo:=@get?_update_seq
def Ybp:=@codeAny_mono
def Ybq:=@wpAny_evalAll_cons
def Ybr:=@Option.isSome_iff_exists
def Ybs:=@List.getElem?_take_of_lt
def Ybt:=@PySem.F.args_tuple_add_2
def Ybu:=@Array.forIn_toList
def Ybv:=@List.pairwise_cons
def Ybw:=@PySem.F.slot_list_extend
def Ybx:=@PySem.F.type_list_extend
def Yby:=@Int.emod_lt_of_pos
def Ybz:=@wpAny_tryCatch
def YbA:=@Nat.mul_le_mul
def YbB:=@PySem.F.entry_tuple_add
def YbC:=@wpAny_evalAll_nil
def YbD:=@wpAny_pyIter_enum
def YbE:=@List.getElem?_set_self
def YbF:=@wpAny_pyNext_list_item
def YbG:=@PySem.F.slot_tuple_add
def YbH:=@List.all_eq_true
def YbI:=@wpAny_isInstance
def YbJ:=@Nat.le_max_right
def YbK:=@Nat.mod_eq_of_lt
def YbL:=@List.eraseIdxIfInBounds_toArray
def YbM:=@wpAny_execs_nil
def YbN:=@List.map_nil
def YbO:=@Heap.IsTuple.at
def YbP:=@Nat.mod_lt
def YbQ:=@List.forIn_cons
def YbR:=@wpAny_updateSeq_pair
def YbS:=@F.slot_zip_next
def YbT:=@List.reverse_reverse
def YbU:=@PyProof.Rows.lt_int
def YbV:=@List.getElem?_range
def YbW:=@List.drop_zero
def YbX:=@F.args_tuple_iterator_next_1
def YbY:=@wpAny_newTuple
def YbZ:=@List.take_succ
def Yb0:=@Nat.lt_of_le_of_lt
def Yb1:=@F.entry_tuple_iterator_next
def Yb2:=@PySem.W.KFB.if_not
def Yb3:=@Calls.Name_function_global
def Yb4:=@wpAny_letOwnedTupleGo_enum
def Yb5:=@listUpdate_at
def Yb6:=@wpAny_onRaise
def Yb7:=@List.length_eraseIdx_of_lt
def Yb8:=@PySem.W.kitx_list
def Yb9:=@wpAny_sequenceKey
def Yca:=@List.reverse_perm
def Ycb:=@Nat.le_of_lt
def Ycc:=@concat_meets
def Ycd:=@Nat.le_of_not_lt
def Yce:=@Nat.lt_succ_self
def Ycf:=@Nat.le_add_right
def Ycg:=@wpAny_forIn_list
def Ych:=@List.ext_getElem
def Yci:=@Nat.sub_self
def Ycj:=@PyData.int.injEq
def Yck:=@PySem.F.plainAttrs_tuple
def Ycl:=@PySem.F.slot_tuple_index
def Ycm:=@PySem.F.type_tuple_index
def Ycn:=@List.getElem?_replicate
def Yco:=@decide_eq_false_iff_not
def Ycp:=@F.args_enumerate_next_1
def Ycq:=@List.of_mem_zip
def Ycr:=@eq_of_beq
def Ycs:=@Nat.not_lt_zero
def Yct:=@wpAny_pyNext_range_end
def Ycu:=@wpAny_pyIter_rangeiter
def Ycv:=@PyProof.noPylong_small
def Ycw:=@subscriptTail_builtinR
def Ycx:=@Calls.callWith_builtin
def Ycy:=@Nat.le_succ
def Ycz:=@Heap.get?_update_other
def YcA:=@List.range_succ_eq_map
def YcB:=@Int.le_refl
def YcC:=@richCompare_meets_room
def YcD:=@F.entry_enumerate_next
def YcE:=@wpAny_pyNext_list_end
def YcF:=@List.length_replicate
def YcG:=@fitsIndex_both
def YcH:=@Heap.get?_update_self
def YcI:=@builtinLookup_eq_fast
def YcJ:=@wpAny_listPart
def YcK:=@List.dropLast_eq_take
def YcL:=@List.getElem?_set_ne
def YcM:=@wpAny_loadName_local
def YcN:=@wpAny_call
def YcO:=@F.args_list_extend_2
def YcP:=@List.mem_iff_getElem
def YcQ:=@codeAny_extend_loopS
def YcR:=@Array.toList_reverse
def YcS:=@F.args_object_init_2
def YcT:=@wpAny_pyIter_revIter
def YcU:=@Bool.and_eq_true_iff
def YcV:=@wpAny_attempt
def YcW:=@wpAny_newList
def YcX:=@wpAny_loadName_cell
def YcY:=@F.entry_list_extend
def YcZ:=@F.plain_extend_loop
def Yc0:=@List.filter_eq_self
def Yc1:=@Heap.IsTupleIter.at
def Yc2:=@PyProof.Rows.lt_str
def Yc3:=@Array.toList_append
def Yc4:=@List.reverse_append
def Yc5:=@Int.toNat_of_nonneg
def Yc6:=@SeqAt.EqAt.int_str
def Yc7:=@SeqAt.EqAt.str_int
def Yc8:=@wpAny_pyIter_range
def Yc9:=@List.mem_filterMap
def Yda:=@PySem.W.kitx_tuple
def Ydb:=@PySem.W.callWith_K
def Ydc:=@Int.ediv_one
def Ydd:=@Heap.IsSliceOf.new
def Yde:=@IsTup.new
def Ydf:=@F.slot_list_extend
def Ydg:=@Obj.data_mapFields
def Ydh:=@callType_new
def Ydi:=@Nat.add_sub_cancel
def Ydj:=@List.filter_append
def Ydk:=@Heap.IsListIter.at
def Ydl:=@wpAny_pyIter_tuple
def Ydm:=@Nat.le_of_eq
def Ydn:=@List.getElem?_drop
def Ydo:=@wpAny_assign_Name
def Ydp:=@PySem.W.kitx_dict
def Ydq:=@slot_list_getitem
def Ydr:=@List.ext_getElem?
def Yds:=@F.plain_list_iadd
def Ydt:=@Array.size_append
def Ydu:=@slot_list_setitem
def Ydv:=@PyData.list.injEq
def Ydw:=@List.pairwise_map
def Ydx:=@F.args_zip_next_1
def Ydy:=@wpAny_of_eq
def Ydz:=@callWith_kw
def YdA:=@Nat.mul_add
def YdB:=@wpAny_execs_cons
def YdC:=@noFill_tuple_add
def YdD:=@F.entry_list_pop
def YdE:=@PySem.IsL.isList
def YdF:=@SeqAt.eqAt_reads
def YdG:=@List.mem_reverse
def YdH:=@and_true
def YdI:=@List.perm_middle
def YdJ:=@List.drop_append
def YdK:=@F.entry_zip_next
def YdL:=@wpAny_pyIter_zip
def YdM:=@wpAny_Name
def YdN:=@Walks.list
def YdO:=@boot_range
end
set_option Elab.async false
set_option compiler.extract_closed false
set_option bootstrap.genMatcherCode false
set_option linter.all false
set_option maxRecDepth 100000
namespace L2
open PySem PySem.Spec PyProof.Rows
noncomputable abbrev Key:=Sum Int Str
noncomputable def keyIs:Key->Value->Bool
 | .inl k,v=>Value.isInt k v
 | .inr x,v=>Value.isStrOf x v
noncomputable def keyH (w:World):Key->Int
 | .inl k=>hashInt k
 | .inr x=>hashStr w x
theorem keyIs_shape:∀ {k:Key} {v:Value},keyIs k v=true->(∃ i t,k=Sum.inl i/\v=Value.int i t)\/(∃ x t,k=Sum.inr x/\v=Value.str x t)
 | .inl i,v,h=>by
  obtain ⟨t,e⟩:=Value.isInt_shape (k:=i) (v:=v) h
  exact .inl ⟨i,t,rfl,e⟩
 | .inr x,v,h=>by
  obtain ⟨t,e⟩:=Value.isStrOf_shape (x:=x) (v:=v) h
  exact .inr ⟨x,t,rfl,e⟩
theorem key_ll (a b:Int):decide ((Sum.inl a:Key)=Sum.inl b)=(a == b):=by
 by_cases e:a=b
 ·subst e;simp
 ·have h:¬ (Sum.inl a:Key)=Sum.inl b:=fun q=>e (Sum.inl.inj q)
  rw [YQ h]
  exact (Yar.mpr e).symm
theorem key_rr (a b:Str):decide ((Sum.inr a:Key)=Sum.inr b)=decide (a=b):=by
 by_cases e:a=b
 ·subst e;simp
 ·have h:¬ (Sum.inr a:Key)=Sum.inr b:=fun q=>e (Sum.inr.inj q)
  rw [YQ h,YQ e]
theorem key_lr (a:Int) (b:Str):decide ((Sum.inl a:Key)=Sum.inr b)=false:=YQ (fun q=>nomatch q)
theorem key_rl (a:Str) (b:Int):decide ((Sum.inr a:Key)=Sum.inl b)=false:=YQ (fun q=>nomatch q)
noncomputable def ZfJ (prog:Program) (w:World):PySem.KeyKind prog w Key where
 is:=keyIs
 hash:=keyH w
 inj := fun v a b ha hb=>by
  rcases keyIs_shape ha with ⟨i,t,rfl,rfl⟩ | ⟨x,t,rfl,rfl⟩
  ·rcases keyIs_shape hb with ⟨j,u,rfl,e⟩ | ⟨y,u,rfl,e⟩
   ·injection e with e1 _;rw [e1]
   ·exact nomatch e
  ·rcases keyIs_shape hb with ⟨j,u,rfl,e⟩ | ⟨y,u,rfl,e⟩
   ·exact nomatch e
   ·injection e with e1 _;rw [e1]
 byValue:=fun k v h=>by
  rcases keyIs_shape h with ⟨i,t,rfl,rfl⟩ | ⟨x,t,rfl,rfl⟩ <;> rfl
 pyHash:=fun hv h=>by
  rcases keyIs_shape hv with ⟨i,t,rfl,rfl⟩ | ⟨x,t,rfl,rfl⟩
  ·exact wpAny_pyHash_int h
  ·exact wpAny_pyHash_str h
 eqBool:=fun hu hv h=>by
  rcases keyIs_shape hu with ⟨i,t,rfl,rfl⟩ | ⟨x,t,rfl,rfl⟩
  ·rcases keyIs_shape hv with ⟨j,u,rfl,rfl⟩ | ⟨y,u,rfl,rfl⟩
   ·rw [key_ll] at h;exact wpAny_eqBool_int h
   ·rw [key_lr] at h;exact Yc6 i t y u _ _ _ _ h
  ·rcases keyIs_shape hv with ⟨j,u,rfl,rfl⟩ | ⟨y,u,rfl,rfl⟩
   ·rw [key_rl] at h;exact Yc7 x t j u _ _ _ _ h
   ·rw [key_rr] at h;exact wpAny_eqBool_str h
 «strs»:=fun k x t v h=>by
  rcases keyIs_shape h with ⟨i,u,rfl,e⟩ | ⟨y,u,rfl,e⟩
  ·exact nomatch e
  ·injection e with e1 _
   subst e1
   cases v <;> rfl
inductive V where
 | non | bl (b:Bool) | int (i:Int) | str (x:Str) | byt (b:Array UInt8) | flt (b:UInt64) | ref (a:Addr) | ty (n:String)
 deriving DecidableEq
noncomputable def RelV:V->Value->Prop
 | .non,u=>u=Value.none
 | .bl b,u=>u=Value.bool b
 | .int i,u=>∃ t,u=Value.int i t
 | .str x,u=>∃ t,u=Value.str x t
 | .byt b,u=>∃ t,u=Value.bytes b t
 | .flt b,u=>∃ t,u=Value.float b t
 | .ref a,u=>u=Value.ref a
 | .ty n,u=>u=Value.type n
noncomputable abbrev Vals:List V->List Value->Prop:=Paired RelV
theorem Vals.length {xs:List V} {us:List Value} (r:Vals xs us):xs.length=us.length:=Paired.length r
theorem Vals.get:∀ {xs:List V} {us:List Value} {i:Nat} {x:V},Vals xs us->xs[i]? = some x->∃ u,us[i]? = some u/\RelV x u
 | _,_,_,_,.nil,e=>by simp at e
 | _,_,0,_,.cons r _,e=>by simp at e;subst e;exact ⟨_,rfl,r⟩
 | _, _,i + 1,x,.cons _ t,e=>by
  obtain ⟨u,h1,h2⟩:=Vals.get (i:=i) (x:=x) t (by simpa using e)
  exact ⟨u,by simpa using h1,h2⟩
theorem Vals.set {x:V} {u:Value} (r:RelV x u):∀ {xs:List V} {us:List Value} (i:Nat),Vals xs us->Vals (xs.set i x) (us.set i u)
 | _,_,_,.nil=>.nil
 | _,_,0,.cons _ t=>.cons r t
 | _,_,i + 1,.cons q t=>.cons q (Vals.set r i t)
theorem Vals.append:∀ {xs ys:List V} {us ws:List Value},Vals xs us->Vals ys ws->Vals (xs++ys) (us++ws)
 | _,_,_,_,.nil,s=>s
 | _,_,_,_,.cons r t,s=>.cons r (Vals.append t s)
theorem Vals.take:∀ {xs:List V} {us:List Value} (n:Nat),Vals xs us->Vals (xs.take n) (us.take n)
 | _,_,0,_=>.nil
 | _,_,_ + 1,.nil=>.nil
 | _,_,n + 1,.cons r t=>.cons r (Vals.take n t)
theorem Vals.drop:∀ {xs:List V} {us:List Value} (n:Nat),Vals xs us->Vals (xs.drop n) (us.drop n)
 | _,_,0,r=>r
 | _,_,_ + 1,.nil=>.nil
 | _,_,n + 1,.cons _ t=>Vals.drop n t
theorem Vals.none_of:∀ {xs:List V} {us:List Value} {i:Nat},Vals xs us->xs[i]? = none->us[i]? = none:=fun {xs us i} r e=>by
 have h1:=r.length
 have h2:xs.length<=i:=Y7.mp e
 exact Y7.mpr (by lia)
noncomputable def RelO:Option V->Option Value->Prop
 | some v,some u=>RelV v u
 | none,none=>True
 | _,_=>False
noncomputable def KV {κ:Type}:List (κ × V)->List (κ × Value)->Prop:=Paired fun (p:κ × V) (q:κ × Value)=>p.1=q.1/\RelV p.2 q.2
noncomputable def kV:Key->V
 | .inl i=>.int i
 | .inr x=>.str x
inductive HO where
 /-- a list -/
 | lst (xs:List V)
 /-- a tuple (never changes) -/
 | tup (xs:List V)
 /-- a dict whose keys are ints and texts;one whose keys are tuples of ints and texts (the empty one is both) -/
 | dK (kvs:List (Key × V)) | dT (kvs:List (List Key × V))
 /-- a set of ints: its members,its size -/
 | set (S:Int->Bool) (n:Nat)
 /-- an instance of the class at C,its dict at dx,its attributes -/
 | ins (C dx:Addr) (fs:List (Str × V))
 /-- the dict of the instance at x -/
 | own (x:Addr)
 /-- the dict of an exception -/
 | xd (fs:List (Str × V))
 /-- a bound method,f of x -/
 | met (f x:Addr)
 /-- a range object lo,lo + 1,.. below hi -/
 | rng (lo hi:Int)
 /-- a thing that is known to the object (the script;a dict while a loop walks it): read,never written while it is so -/
 | frz (o:Obj) (u:HO)
 /-- a code object's table -/
 | tbl (ps:Array Value)
 /-- any other thing,by what is true of its one object (a def of one's own: SetO a S n:=HO.ext fun h=>..) -/
 | ext (φ:Heap->Prop)
noncomputable abbrev Hp:=Addr->Option HO
noncomputable def upd (H:Hp) (a:Addr) (o:HO):Hp:=fun b=>if b=a then some o else H b
theorem Z3 {H:Hp} {a:Addr} {o:HO}:upd H a o a=some o:=by unfold upd;rw [if_pos rfl]
theorem Zs {H:Hp} {a b:Addr} {o:HO} (h:b≠a):upd H a o b=H b:=by unfold upd;rw [if_neg h]
theorem Zct {H:Hp} {a b:Addr} {o u:HO} (h:H a=some o) (h':H b=some u) (d:o≠u):a≠b:=by
 intro e;subst e;rw [h] at h';exact d (Y3 h')
theorem ZaB {H:Hp} {a b:Addr} {o:HO} (h:H a=some o) (h':H b=none):a≠b:=by
 intro e;subst e;rw [h] at h';cases h'
section
variable (P:Program) (w:World)
noncomputable def Zbt (H:Hp) (h:Heap) (a:Addr):HO->Prop
 | .lst xs=>xs.length<=sizeLine/\∃ (its:List Value) (n:Nat),Vals xs its/\h.get? a=some { cls:=.type "list",data:=.seq its.toArray n }
 | .tup xs=>xs.length<=sizeLine/\∃ its:List Value,Vals xs its/\IsTup h a its.toArray
 | .dK kvs=>kvs.length<=sizeLine/\(a == sysModules)=false/\∃ vs,KV kvs vs/\h.DictOf (ZfJ P w) a vs
 | .dT kvs=>kvs.length<=sizeLine/\(a == sysModules)=false/\∃ xs:List (List Key × Addr × Value),
   Paired (fun (p:List Key × V) (q:List Key × Addr × Value)=>p.1=q.1/\H q.2.1=some (.tup (p.1.map kV))/\RelV p.2 q.2.2) kvs xs /\
   ∃ o es ep,h.get? a=some o/\o.ExactDict/\o.data=.dict es ep/\es.toList=xs.map (entryOfKey (tupleKind (ZfJ P w)))/\(xs.map (·.1)).Nodup
 | .set S n=>h.SetOf (intKind P w) a S n
 | .ins C dx fs=>H dx=some (.own a)/\fs.length<=1000/\dx≠a/\h.get? a=some (PySem.W.instObj C dx) /\
   ∃ mA,h.Ns1 dx mA/\(∀ f,RelO (fs.lookup f) (mA f))/\PySem.Within mA (fs.map (·.1))
 | .own _=>∃ o,h.get? a=some o
 | .xd fs=>∃ mA,h.Ns1 a mA/\∀ f,RelO (fs.lookup f) (mA f)
 | .rng lo hi=>∃ t u v,h.get? a=some { cls:=.type "range",data:=.fields #[.int lo t,.int hi u,.int 1 v] }
 | .frz o u=>h.get? a=some o/\Zbt H h a u
 | .tbl ps=>h.get? a=some { cls:=.none,data:=.fields ps }
 | .met f x=>h.get? a=some (PySem.W.methodObj (.ref f) (.ref x))
 | .ext φ=>φ h/\(∃ o,h.get? a=some o)/\∀ h1 h2:Heap,φ h1->(∀ o,h1.get? a=some o->h2.get? a=some o)->φ h2
noncomputable def HOk (H:Hp) (h:Heap):Prop:=∀ a o,H a=some o->Zbt P w H h a o
end
section
variable {P:Program} {w:World} {H H':Hp} {h h':Heap} {a:Addr} {o:HO}
theorem Zbt.lt (x:Zbt P w H h a o):a < h.objs.size:=by
 cases o with
 | lst xs=>obtain ⟨_,_,_,_,e⟩:=x;exact Ym e
 | tup xs=>obtain ⟨_,_,_,p⟩:=x;exact p.lt
 | dK kvs=>obtain ⟨_,_,_,_,o,_,_,e,_⟩:=x;exact Ym e
 | dT kvs=>obtain ⟨_,_,_,_,o,_,_,e,_⟩:=x;exact Ym e
 | set S n=>obtain ⟨o,_,_,_,e,_⟩:=x;exact Ym e
 | ins C dx fs=>obtain ⟨_,_,_,e,_⟩:=x;exact Ym e
 | own y=>obtain ⟨_,e⟩:=x;exact Ym e
 | xd fs=>obtain ⟨_,⟨_,_,_,e,_⟩,_⟩:=x;exact Ym e
 | rng lo hi=>obtain ⟨_,_,_,e⟩:=x;exact Ym e
 | frz ob u=>obtain ⟨e,_⟩:=x;exact Ym e
 | tbl ps=>exact Ym (show h.get? a=some _ from x)
 | met f y=>exact Ym (show h.get? a=some _ from x)
 | ext φ=>obtain ⟨_,⟨_,e⟩,_⟩:=x;exact Ym e
theorem Paired.mapP {α β:Type} {F G:α->β->Prop}:∀ {l₁:List α} {l₂:List β},Paired F l₁ l₂->(∀ a b,F a b->G a b)->Paired G l₁ l₂
 | _,_,.nil,_=>.nil
 | _,_,.cons r t,f=>.cons (f _ _ r) (Paired.mapP t f)
theorem Zbt.stay (x:Zbt P w H h a o) (k:∀ b u,(b=a\/H b=some (.own a))->h.get? b=some u->h'.get? b=some u)
  (ho:∀ b,H b=some (.own a)->H' b=some (.own a)) (ht:∀ b xs,H b=some (.tup xs)->H' b=some (.tup xs)):Zbt P w H' h' a o:=by
 induction o with
 | lst xs=>obtain ⟨z,its,n,r,e⟩:=x;exact ⟨z,its,n,r,k _ _ (.inl rfl) e⟩
 | tup xs=>obtain ⟨z,its,r,ob,e,c⟩:=x;exact ⟨z,its,r,ob,k _ _ (.inl rfl) e,c⟩
 | dK kvs=>obtain ⟨z,y,vs,r,ob,es,ep,e,c⟩:=x;exact ⟨z,y,vs,r,ob,es,ep,k _ _ (.inl rfl) e,c⟩
 | dT kvs =>
  obtain ⟨z,y,xs,r,ob,es,ep,e,c⟩:=x
  exact ⟨z,y,xs,Paired.mapP r fun p q z=>⟨z.1,ht _ _ z.2.1,z.2.2⟩,ob,es,ep,k _ _ (.inl rfl) e,c⟩
 | set S n=>obtain ⟨ob,es,ep,t,e,c⟩:=x;exact ⟨ob,es,ep,t,k _ _ (.inl rfl) e,c⟩
 | ins C dx fs =>
  obtain ⟨d,z,ne,e,mA,⟨od,es,ep,e2,c⟩,r⟩:=x
  exact ⟨ho _ d,z,ne,k _ _ (.inl rfl) e,mA,⟨od,es,ep,k _ _ (.inr d) e2,c⟩,r⟩
 | own y=>obtain ⟨ob,e⟩:=x;exact ⟨ob,k _ _ (.inl rfl) e⟩
 | xd fs=>obtain ⟨mA,⟨od,es,ep,e,c⟩,r⟩:=x;exact ⟨mA,⟨od,es,ep,k _ _ (.inl rfl) e,c⟩,r⟩
 | rng lo hi=>obtain ⟨t,u,v,e⟩:=x;exact ⟨t,u,v,k _ _ (.inl rfl) e⟩
 | frz ob u ih=>obtain ⟨e,q⟩:=x;exact ⟨k _ _ (.inl rfl) e,ih q⟩
 | tbl ps =>
  have e:h.get? a=some { cls:=.none,data:=.fields ps }:=x
  show h'.get? a=some { cls:=.none,data:=.fields ps }
  exact k a _ (.inl rfl) e
 | met f y =>
  have e:h.get? a=some (PySem.W.methodObj (.ref f) (.ref y)):=x
  show h'.get? a=some (PySem.W.methodObj (.ref f) (.ref y))
  exact k a _ (.inl rfl) e
 | ext φ=>obtain ⟨p,⟨o,e⟩,st⟩:=x;exact ⟨st _ _ p fun o q=>k _ _ (.inl rfl) q,⟨o,k _ _ (.inl rfl) e⟩,st⟩
theorem HOk.lt (x:HOk P w H h) (e:H a=some o):a < h.objs.size:=(x a o e).lt
theorem HOk.fresh (x:HOk P w H h) (e:h.objs.size<=a):H a=none:=by
 cases q:H a with
 | none=>rfl
 | some u=>exact absurd (YI (x.lt q) e) (YaR _)
theorem HOk.kept (x:HOk P w H h) (k:∀ b u,h.get? b=some u->h'.get? b=some u):HOk P w H h':=fun a o e =>
 (x a o e).stay (fun b u _ q=>k b u q) (fun _ q=>q) fun _ _ q=>q
theorem HOk.laid (x:HOk P w H h) (k:∀ b u,h.get? b=some u->h'.get? b=some u) (hp:h.objs.size<=a) (new:Zbt P w (upd H a o) h' a o):HOk P w (upd H a o) h':=fun b u e=>by
 have hn:=x.fresh hp
 by_cases hb:b=a
 ·subst hb;rw [Z3] at e;cases e;exact new
 ·rw [Zs hb] at e
  exact (x b u e).stay (fun c v _ q=>k c v q) (fun c q=>by rw [Zs (ZaB q hn)];exact q) fun c xs q=>by rw [Zs (ZaB q hn)];exact q
end
noncomputable def Rd (H:Hp) (a:Addr) (u:HO):Prop:=H a=some u\/∃ o,H a=some (.frz o u)
theorem Rd.ok {P:Program} {w:World} {H:Hp} {h:Heap} {a:Addr} {u:HO} (r:Rd H a u) (x:HOk P w H h):Zbt P w H h a u:=by
 rcases r with r | ⟨o,r⟩
 ·exact x a u r
 ·obtain ⟨_,q⟩:=x a _ r
  exact q
noncomputable def Mut:Option HO->Prop
 | some (.lst _)=>True
 | some (.dK _)=>True
 | some (.dT _)=>True
 | some (.set _ _)=>True
 | some (.ins _ _ _)=>True
 | some (.ext _)=>True
 | _=>False
section
variable {P:Program} {w:World} {H:Hp} {h h':Heap} {x e:Addr} {o':HO}
theorem HOk.write (ok:HOk P w H h) (mu:Mut (H x)) (he:e=x\/H e=some (.own x)) (k:∀ b u,b≠e->h.get? b=some u->h'.get? b=some u) (heo:∃ u,h'.get? e=some u)
  (new:Zbt P w (upd H x o') h' x o'):HOk P w (upd H x o') h':=fun b u q=>by
 have nown:∀ c y,H c=some (.own y)->c≠x:=fun c y r z=>by subst z;rw [r] at mu;exact mu
 have ntup:∀ c xs,H c=some (.tup xs)->c≠x:=fun c xs r z=>by subst z;rw [r] at mu;exact mu
 by_cases hb:b=x
 ·subst hb;rw [Z3] at q;cases q;exact new
 ·rw [Zs hb] at q
  by_cases hbe:b=e
  ·have q':H b=some (.own x):=by
    rcases he with z | z
    ·exact absurd (hbe.trans z) hb
    ·rw [hbe];exact z
   rw [q] at q';cases q'
   obtain ⟨v,hv⟩:=heo
   exact ⟨v,by rw [hbe];exact hv⟩
  ·refine (ok b u q).stay (fun c v hc r=>k c v ?_ r) (fun c r=>by rw [Zs (nown c b r)];exact r) fun c xs r=>by rw [Zs (ntup c xs r)];exact r
   rcases hc with rfl | hc
   ·exact hbe
   ·rintro rfl
    rcases he with z | z
    ·exact nown c b hc z
    ·rw [hc] at z;cases z;exact hb rfl
end
structure Un (fs ex:List Addr) (H H':Hp) (h h':Heap):Prop where
 keep:∀ b o,h.get? b=some o->H b=none->b ∉ fs->b ∉ ex->h'.get? b=some o
 slot:∀ b o,h.get? b=some o->H b=none->b∈fs->b ∉ ex->∃ sl,h'.get? b=some { o with slots:=sl }
 free:∀ b o,h.get? b=some o->H b=none->b ∉ ex->H' b=none
 there:∀ b o,h.get? b=some o->b ∉ ex->∃ o',h'.get? b=some o'
 tups:∀ b xs,H b=some (.tup xs)->H' b=some (.tup xs)
 frzs:∀ b o u,H b=some (.frz o u)->H' b=some (.frz o u)
 tbls:∀ b ps,H b=some (.tbl ps)->∃ more,H' b=some (.tbl (ps++more))
section
variable {fs fs' ex ex':List Addr} {H H1 H2:Hp} {h h1 h2 h':Heap} {a x e:Addr} {o:HO}
theorem Un.any (u:Un fs ex H H1 h h1) {b:Addr} {ob:Obj} (q:h.get? b=some ob) (n:H b=none) (hx:b ∉ ex):∃ sl,h1.get? b=some { ob with slots:=sl }:=by
 by_cases hb:b∈fs
 ·exact u.slot b ob q n hb hx
 ·exact ⟨ob.slots,u.keep b ob q n hb hx⟩
theorem Un.kept (k:∀ b u,h.get? b=some u->h'.get? b=some u):Un fs ex H H h h' :=
 ⟨fun b ob q _ _ _=>k b ob q,fun b ob q _ _ _=>⟨ob.slots,k b ob q⟩,fun _ _ _ n _=>n,fun b ob q _=>⟨ob,k b ob q⟩,fun _ _ q=>q,fun _ _ _ q=>q,fun _ ps q=>⟨#[],by rw [q];simp⟩⟩
theorem Un.refl:Un fs ex H H h h:=Un.kept fun _ _ q=>q
theorem Un.laid (k:∀ b u,h.get? b=some u->h'.get? b=some u) (hp:h.objs.size<=a) (hn:H a=none):Un fs ex H (upd H a o) h h' where
 keep:=fun b u q _ _ _=>k b u q
 slot:=fun b u q _ _ _=>⟨u.slots,k b u q⟩
 free:=fun b u q n _=>by rw [Zs (Yx (YI (Ym q) hp))];exact n
 there:=fun b u q _=>⟨u,k b u q⟩
 tups:=fun b xs q=>by rw [Zs (ZaB q hn)];exact q
 frzs:=fun b u xs q=>by rw [Zs (ZaB q hn)];exact q
 tbls:=fun b ps q=>⟨#[],by rw [Zs (ZaB q hn),q];simp⟩
theorem Un.write (mu:Mut (H x)) (he:e=x\/H e=some (.own x)) (k:∀ b u,b≠e->h.get? b=some u->h'.get? b=some u) (heo:∃ u,h'.get? e=some u):Un fs ex H (upd H x o) h h':=by
 have hx:∀ b,H b=none->b≠x:=fun b n z=>by subst z;rw [n] at mu;exact mu
 have hb:∀ b,H b=none->b≠e:=fun b n z=>by
  subst z
  rcases he with r | r
  ·exact hx b n r
  ·rw [n] at r;cases r
 have hm:∀ b u,H b=some u->¬ Mut (some u)->b≠x:=fun b u q nm z=>by subst z;rw [q] at mu;exact nm mu
 refine ⟨fun b u q n _ _=>k b u (hb b n) q,fun b u q n _ _=>⟨u.slots,k b u (hb b n) q⟩,fun b u q n _=>by rw [Zs (hx b n)];exact n,fun b u q _=>?_,
  fun b xs q=>by rw [Zs (hm b _ q fun z=>z)];exact q,fun b u xs q=>by rw [Zs (hm b _ q fun z=>z)];exact q,fun b ps q=>⟨#[],by rw [Zs (hm b _ q fun z=>z),q];simp⟩⟩
 by_cases hbe:b=e
 ·subst hbe;exact heo
 ·exact ⟨u,k b u hbe q⟩
end
noncomputable def trk (h:Heap) (H:Hp):List Addr:=(List.range h.objs.size).filter fun a=>(H a).isSome
noncomputable def hidT (h:Heap) (H:Hp):Heap:=PySem.W.hideAll h (trk h H)
theorem Zja (h:Heap) (H:Hp):(hidT h H).objs.size=h.objs.size:=PySem.W.hideAll_size _ _
theorem hidT_get {h:Heap} {H:Hp} {b:Addr} {o:Obj} (e:h.get? b=some o) (n:H b=none):(hidT h H).get? b=some o :=
 PySem.W.hideAll_get _ e fun hm=>by
  have q:(H b).isSome=true:=(List.mem_filter.mp hm).2
  rw [n] at q;simp at q
theorem of_hidT {h:Heap} {H:Hp} {b:Addr} {o:Obj} (e:(hidT h H).get? b=some o):h.get? b=some o/\H b=none:=by
 have e':h.get? b=some o:=PySem.W.of_hideAll (trk h H) e
 refine ⟨e',?_⟩
 cases q:H b with
 | none=>rfl
 | some x =>
  have hm:b∈trk h H:=List.mem_filter.mpr ⟨Ybd.mpr (Ym e'),by simp [q]⟩
  have z:(hidT h H).get? b=none:=PySem.W.hideAll_none (trk h H) hm
  rw [z] at e;cases e
noncomputable def allNews (g h:Heap) (L:Addr):List (Addr × Obj):=(List.range h.objs.size).filterMap fun a=>if a=L\/(g.get? a).isSome=true then none else (h.get? a).map fun o=>(a,o)
noncomputable def rest (g h:Heap) (L d:Addr):List (Addr × Obj):=(allNews g h L).filter fun p=>decide (p.1≠d)
structure Mod (K:YFr) (mg:Str->Option Value) (base:Heap):Prop where
 kin:K.In base
 glob:base.Ns mainGlobals mg
 blt:∃ mb,base.Ns builtinsNs mb/\∀ x:Str,x≠"__name__"->mb x=bootBuiltins x
 nolimit:base.NoLimit
structure Cx where
 prog:Program
 w : World
 K : YFr
 mg:Str->Option Value
 base:Heap
 A : Around
 N : List Str
 s₀:Shared
 H₀:Hp
 env:Env
 outer:List Env
 stack:List Env
 ex:List Addr
 fn:Str->Bool
 calm:Bool
 pn:List (Addr × Obj)
 xe:Value->Shared->Prop
noncomputable def frs (l:List Env):List Addr:=l.filterMap (·.frame)
noncomputable abbrev Cx.fs (X:Cx):List Addr:=frs X.outer
noncomputable def Vis (sc:Scope) (x:Str):Prop:=sc.names.lookup x=some .local\/sc.names.lookup x=some .cell\/sc.names.lookup x=some .free
noncomputable def Loc (sc:Scope) (x:Str):Prop:=sc.names.lookup x=some .local\/sc.names.lookup x=some .cell
noncomputable def Look (env:Env) (h:Heap) (m:Str->Option Value) (x:Str) (u:Value):Prop :=
 (env.kindOf x=some .local/\m x=some u)\/((env.kindOf x=some .cell\/env.kindOf x=some .free)/\∃ c,env.cells.lookup x=some c/\h.IsCell c (some u))
structure Cx.Ok (X:Cx):Prop where
 mod:Mod X.K X.mg X.base
 kind:X.env.scope.kind=.function
 glob:X.env.globals=mainGlobals
 blt:X.env.builtins=builtinsNs
 above:X.s₀.heap.objs.size<=X.env.locals
 inj:∀ x y c,X.env.cells.lookup x=some c->X.env.cells.lookup y=some c->x=y
 has:∀ x,(X.env.kindOf x=some .cell\/X.env.kindOf x=some .free)->∃ c,X.env.cells.lookup x=some c
 cab:∀ x c,X.fn x=true->X.env.cells.lookup x=some c->X.s₀.heap.objs.size<=c
 hd:X.calm=true->X.A.handled=none
 frames:X.A.frames=some X.stack
 stk:X.stack=X.outer\/(X.stack=X.env::X.outer/\X.env.frame=some X.env.locals)
 exf:∀ b∈X.ex,b≠X.env.locals/\∀ x c,X.env.cells.lookup x=some c->c≠b
 bs:∀ b o,X.base.get? b=some o->X.s₀.heap.get? b=some o/\X.H₀ b=none
 bsz:X.base.objs.size<=X.s₀.heap.objs.size
 noex:∀ b o,X.base.get? b=some o->b ∉ X.ex
 exfs:∀ b∈X.ex,b ∉ X.fs
 funs:X.s₀.heap.FunFrames X.base X.outer
 frf:∀ b∈X.fs,X.H₀ b=none
structure Inv (X:Cx) (pins:List (Addr × Obj)) (σ:List (Option V)) (H:Hp) (s:Shared):Prop where
 ok:X.Ok
 os:s.os=X.s₀.os
 bare:AllBare s.gens
 base:Un X.fs X.ex X.H₀ H X.s₀.heap s.heap
 loc:∃ m,s.heap.Ns X.env.locals m/\∀ (i:Nat) (x:Str) (v:V),X.N[i]? = some x->σ[i]? = some (some v)->Vis X.env.scope x->∃ u,RelV v u/\Look X.env s.heap m x u
 cell:∀ x c,X.env.cells.lookup x=some c->∃ v,s.heap.IsCell c v
 free:H X.env.locals=none
 freeC:∀ x c,X.env.cells.lookup x=some c->H c=none
 pin:∀ p∈X.pn++pins,s.heap.get? p.1=some p.2/\H p.1=none/\p.1≠X.env.locals/\p.1 ∉ X.fs/\∀ v,p.2.data≠.cell v
 hok:HOk X.prog X.w H s.heap
 len:σ.length=X.N.length
section
variable {X:Cx} {pins:List (Addr × Obj)} {σ:List (Option V)} {H H':Hp} {s:Shared} {h':Heap}
theorem Cx.Ok.nofr (ok:X.Ok) {b:Addr} {o:Obj} (e:X.base.get? b=some o):b ∉ X.fs:=fun hb=>by
 have:=(ok.funs.mem hb).1
 rw [e] at this;cases this
theorem Inv.bs (I:Inv X pins σ H s):∀ b o,X.base.get? b=some o->s.heap.get? b=some o/\H b=none:=fun b o e =>
 ⟨I.base.keep b o (I.ok.bs b o e).1 (I.ok.bs b o e).2 (I.ok.nofr e) (I.ok.noex b o e),I.base.free b o (I.ok.bs b o e).1 (I.ok.bs b o e).2 (I.ok.noex b o e)⟩
theorem Inv.bk (I:Inv X pins σ H s):∀ b o,X.base.get? b=some o->s.heap.get? b=some o:=fun b o e=>(I.bs b o e).1
theorem Inv.mod (I:Inv X pins σ H s):Mod X.K X.mg X.base:=I.ok.mod
theorem Inv.kIn (I:Inv X pins σ H s):X.K.In s.heap:=I.ok.mod.kin.keeps I.bk
theorem Inv.lt (I:Inv X pins σ H s):X.env.locals < s.heap.objs.size:=let ⟨_,hn,_⟩:=I.loc;hn.lt
theorem Inv.sz (I:Inv X pins σ H s):X.s₀.heap.objs.size<=s.heap.objs.size:=YH I.ok.above (Ycb I.lt)
theorem Inv.nofs (I:Inv X pins σ H s) {a:Addr} (h:s.heap.objs.size<=a):a ∉ X.fs:=fun hb=>by
 obtain ⟨_,o,ho,_⟩:=I.ok.funs.mem hb
 exact absurd (YI (Ym ho) (YH I.sz h)) (YaR _)
theorem Inv.cne (I:Inv X pins σ H s):∀ x c,X.env.cells.lookup x=some c->c≠X.env.locals:=fun x c e z=>by
 obtain ⟨v,o,ho,hd⟩:=I.cell x c e
 obtain ⟨m,⟨o',es,ep,ho',hd',_⟩,_⟩:=I.loc
 rw [z,ho'] at ho;cases ho;rw [hd'] at hd;cases hd
theorem Inv.funs (I:Inv X pins σ H s):s.heap.FunFrames X.base X.outer:=by
 have all:∀ (l:List Env),(∀ b∈frs l,b∈X.fs)->X.s₀.heap.FunFrames X.base l->s.heap.FunFrames X.base l:=by
  intro l
  induction l with
  | nil=>intro _ _;trivial
  | cons env r ih =>
   intro hs hl
   obtain ⟨hk,⟨L,o,hf,hn,ho,hd⟩,hr⟩:=hl
   have hL:L∈X.fs:=hs L (by unfold frs;rw [List.filterMap_cons,hf];exact YaF)
   obtain ⟨sl,e⟩:=I.base.slot L o ho (I.ok.frf L hL) hL fun z=>I.ok.exfs L z hL
   exact ⟨hk,⟨L,_,hf,hn,e,hd⟩,ih (fun b hb=>hs b (by unfold frs;rw [List.filterMap_cons,hf];exact Yaw _ hb)) hr⟩
 exact all X.outer (fun _ hb=>hb) I.ok.funs
theorem Inv.stack (I:Inv X pins σ H s):s.heap.FunFrames X.base X.stack:=by
 rcases I.ok.stk with e | ⟨e,hf⟩
 ·rw [e];exact I.funs
 ·rw [e]
  obtain ⟨m,hn,_⟩:=I.loc
  refine .cons (by rw [I.ok.kind];decide) hf hn ?_ I.funs
  exact Heap.get?_none_of_le (YH I.ok.bsz I.ok.above)
theorem Inv.stkSub (I:Inv X pins σ H s):∀ b∈frs X.stack,b∈X.env.locals::X.fs:=fun b hb=>by
 rcases I.ok.stk with e | ⟨e,hf⟩
 ·rw [e] at hb;exact Yaw _ hb
 ·rw [e] at hb
  unfold frs at hb
  rw [List.filterMap_cons,hf] at hb
  exact hb
theorem Inv.stkFree (I:Inv X pins σ H s):∀ b∈frs X.stack,H b=none:=fun b hb=>by
 rcases Yv.mp (I.stkSub b hb) with e | hb
 ·rw [e];exact I.free
 ·obtain ⟨_,o,ho,_⟩:=I.ok.funs.mem hb
  exact I.base.free b o ho (I.ok.frf b hb) fun z=>I.ok.exfs b z hb
theorem Inv.step {g':Array GenState} {t':Nat} {d':Drawn} {ch:List Addr} (I:Inv X pins σ H s)
  (hch:∀ b∈ch,(b∈X.ex\/X.s₀.heap.objs.size<=b)/\b≠X.env.locals/\(∀ x c,X.env.cells.lookup x=some c->c≠b)/\∀ p∈X.pn++pins,p.1≠b)
  (keep:∀ b o,b≠X.env.locals->b ∉ X.fs->b ∉ ch->s.heap.get? b=some o->H b=none->h'.get? b=some o)
  (slot:∀ b o,b≠X.env.locals->b∈X.fs->b ∉ ch->s.heap.get? b=some o->H b=none->∃ sl,h'.get? b=some { o with slots:=sl }) (free:∀ b o,b ∉ ch->s.heap.get? b=some o->H b=none->H' b=none)
  (there:∀ b o,b ∉ ch->s.heap.get? b=some o->∃ o',h'.get? b=some o')
  (tups:∀ b xs,H b=some (.tup xs)->H' b=some (.tup xs)) (frzs:∀ b o u,H b=some (.frz o u)->H' b=some (.frz o u)) (tbls:∀ b ps,H b=some (.tbl ps)->∃ more,H' b=some (.tbl (ps++more)))
  (ns:∀ m,s.heap.Ns X.env.locals m->h'.Ns X.env.locals m) (hok:HOk X.prog X.w H' h') (hg:AllBare g') :
  Inv X pins σ H' { s with heap:=h',gens:=g',drawn:=d',toks:=t' }:=by
 have neL:∀ b o,X.s₀.heap.get? b=some o->b≠X.env.locals:=fun b o e=>Yx (YI (Ym e) I.ok.above)
 have neC:∀ b o,X.s₀.heap.get? b=some o->b ∉ X.ex->b ∉ ch:=fun b o e hx hb=>by
  rcases (hch b hb).1 with z | z
  ·exact hx z
  ·exact absurd (YI (Ym e) z) (YaR _)
 have cellK:∀ x c,X.env.cells.lookup x=some c->∀ v,s.heap.IsCell c v->h'.IsCell c v:=fun x c e v hq0=>by
  obtain ⟨o,ho,hd⟩:=hq0
  have nch:c ∉ ch:=fun z=>(hch c z).2.2.1 x c e rfl
  by_cases hc:c∈X.fs
  ·obtain ⟨sl,q⟩:=slot c o (I.cne x c e) hc nch ho (I.freeC x c e)
   exact ⟨_,q,hd⟩
  ·exact ⟨o,keep c o (I.cne x c e) hc nch ho (I.freeC x c e),hd⟩
 refine ⟨I.ok,I.os,hg,⟨fun b o e n hb hx=>?_,fun b o e n hb hx=>?_,fun b o e n hx=>?_,fun b o e hx=>?_,fun b xs e=>tups b xs (I.base.tups b xs e),fun b o xs e=>frzs b o xs (I.base.frzs b o xs e),fun b ps e=>?_⟩,?_,fun x c e=>?_,?_,fun x c e=>?_,fun p hp=>?_,hok,I.len⟩
 ·exact keep b o (neL b o e) hb (neC b o e hx) (I.base.keep b o e n hb hx) (I.base.free b o e n hx)
 ·obtain ⟨sl,e1⟩:=I.base.slot b o e n hb hx
  obtain ⟨sl',e2⟩:=slot b _ (neL b o e) hb (neC b o e hx) e1 (I.base.free b o e n hx)
  exact ⟨sl',e2⟩
 ·obtain ⟨o',e1⟩:=I.base.there b o e hx
  exact free b o' (neC b o e hx) e1 (I.base.free b o e n hx)
 ·obtain ⟨o',e1⟩:=I.base.there b o e hx
  exact there b o' (neC b o e hx) e1
 ·obtain ⟨m1,e1⟩:=I.base.tbls b ps e
  obtain ⟨m2,e2⟩:=tbls b _ e1
  exact ⟨m1++m2,by rw [e2,Array.append_assoc]⟩
 ·obtain ⟨m,hn,hl⟩:=I.loc
  refine ⟨m,ns m hn,fun i x v e1 e2 e3=>?_⟩
  obtain ⟨u,r,l⟩:=hl i x v e1 e2 e3
  refine ⟨u,r,?_⟩
  rcases l with l | ⟨k,c,e,z⟩
  ·exact .inl l
  ·exact .inr ⟨k,c,e,cellK x c e _ z⟩
 ·obtain ⟨v,z⟩:=I.cell x c e
  exact ⟨v,cellK x c e v z⟩
 ·obtain ⟨m,⟨o,_,_,ho,_⟩,_⟩:=I.loc
  exact free _ o (fun z=>(hch _ z).2.1 rfl) ho I.free
 ·obtain ⟨v,o,ho,hd⟩:=I.cell x c e
  exact free c o (fun z=>(hch c z).2.2.1 x c e rfl) ho (I.freeC x c e)
 ·obtain ⟨e,n,ne,nf,d⟩:=I.pin p hp
  have nch:p.1 ∉ ch:=fun z=>(hch p.1 z).2.2.2 p hp rfl
  exact ⟨keep p.1 p.2 ne nf nch e n,free p.1 p.2 nch e n,ne,nf,d⟩
theorem Inv.un {t':Nat} (I:Inv X pins σ H s) (u:Un X.fs [] H H' s.heap h') (hok:HOk X.prog X.w H' h'):Inv X pins σ H' { s with heap:=h',toks:=t' }:=by
 obtain ⟨m,⟨o,es,ep,ho,r⟩,_⟩:=id I.loc
 obtain ⟨sl,hL⟩:=u.any ho I.free (by simp)
 exact I.step (g':=s.gens) (d':=s.drawn) (ch:=[]) (fun _ z=>nomatch z) (fun b o _ hb _ e n=>u.keep b o e n hb (by simp)) (fun b o _ hb _ e n=>u.slot b o e n hb (by simp)) (fun b o _ e n=>u.free b o e n (by simp)) (fun b o _ e=>u.there b o e (by simp)) u.tups u.frzs u.tbls (fun m' hm=>by
  obtain ⟨o',es',ep',ho',r'⟩:=hm
  rw [ho] at ho';cases ho'
  exact ⟨_,es',ep',hL,r'⟩) hok I.bare
theorem Inv.call {g':Array GenState} {t':Nat} {d':Drawn} {ch:List Addr} (I:Inv X pins σ H s) (u:Un (frs X.stack) ch H H' s.heap h') (hok:HOk X.prog X.w H' h') (hg:AllBare g')
  (hch:∀ b∈ch,(b∈X.ex\/X.s₀.heap.objs.size<=b)/\b≠X.env.locals/\(∀ x c,X.env.cells.lookup x=some c->c≠b)/\∀ p∈X.pn++pins,p.1≠b) :
  Inv X pins σ H' { s with heap:=h',gens:=g',drawn:=d',toks:=t' }:=by
 obtain ⟨m,⟨o,es,ep,ho,r⟩,_⟩:=id I.loc
 obtain ⟨sl,hL⟩:=u.any ho I.free fun z=>(hch _ z).2.1 rfl
 exact I.step (ch:=ch) hch (fun b o hL hb hc e n=>u.keep b o e n (fun z=>(Yv.mp (I.stkSub b z)).elim hL hb) hc) (fun b o _ _ hc e n=>u.any e n hc) (fun b o hc e n=>u.free b o e n hc) (fun b o hc e=>u.there b o e hc) u.tups u.frzs u.tbls (fun m' hm=>by
  obtain ⟨o',es',ep',ho',r'⟩:=hm
  rw [ho] at ho';cases ho'
  exact ⟨_,es',ep',hL,r'⟩) hok hg
theorem Inv.turned {t':Nat} {it:Addr} (I:Inv X pins σ H s) (k:∀ b o,b≠it->s.heap.get? b=some o->h'.get? b=some o) (hn:H it=none) (hL:it≠X.env.locals)
  (h1:it∈X.ex\/X.s₀.heap.objs.size<=it) (h2:∀ x c,X.env.cells.lookup x=some c->c≠it) (h3:∀ p∈X.pn++pins,p.1≠it):Inv X pins σ H { s with heap:=h',toks:=t' }:=by
 have nit:∀ b u,H b=some u->b≠it:=fun b u e z=>by rw [z,hn] at e;cases e
 refine I.step (g':=s.gens) (d':=s.drawn) (ch:=[it]) (fun b hb=>?_) (fun b o _ _ hc e _=>k b o (fun z=>hc (by simp [z])) e) (fun b o _ _ hc e _=>⟨o.slots,k b o (fun z=>hc (by simp [z])) e⟩) (fun _ _ _ _ n=>n)
  (fun b o hc e=>⟨o,k b o (fun z=>hc (by simp [z])) e⟩) (fun _ _ e=>e) (fun _ _ _ e=>e) (fun b ps e=>⟨#[],by rw [e];simp⟩) (fun m hm=>?_) (fun b u e=>?_) I.bare
 ·have e:b=it:=by simpa using hb
  subst e
  exact ⟨h1,hL,h2,h3⟩
 ·obtain ⟨o,es,ep,ho,r⟩:=hm
  exact ⟨o,es,ep,k _ o (Ne.symm hL) ho,r⟩
 ·refine (I.hok b u e).stay (fun c v hc q=>k c v ?_ q) (fun _ q=>q) fun _ _ q=>q
  rcases hc with z | z
  ·rw [z];exact nit b u e
  ·exact nit c _ z
theorem Inv.tok (I:Inv X pins σ H s) (t:Nat):Inv X pins σ H { s with toks:=t }:=I.un (h':=s.heap) (t':=t) Un.refl I.hok
theorem Inv.kept {t':Nat} (I:Inv X pins σ H s) (k:∀ b u,s.heap.get? b=some u->h'.get? b=some u):Inv X pins σ H { s with heap:=h',toks:=t' }:=I.un (Un.kept k) (I.hok.kept k)
theorem Inv.laid {a:Addr} {o:HO} {t':Nat} (I:Inv X pins σ H s) (k:∀ b u,s.heap.get? b=some u->h'.get? b=some u) (hp:s.heap.objs.size<=a) (new:Zbt X.prog X.w (upd H a o) h' a o) :
  Inv X pins σ (upd H a o) { s with heap:=h',toks:=t' }:=I.un (Un.laid k hp (I.hok.fresh hp)) (I.hok.laid k hp new)
theorem Inv.write {x e:Addr} {o:HO} {t':Nat} (I:Inv X pins σ H s) (mu:Mut (H x)) (he:e=x\/H e=some (.own x)) (k:∀ b u,b≠e->s.heap.get? b=some u->h'.get? b=some u) (heo:∃ u,h'.get? e=some u)
  (new:Zbt X.prog X.w (upd H x o) h' x o):Inv X pins σ (upd H x o) { s with heap:=h',toks:=t' }:=I.un (Un.write mu he k heo) (I.hok.write mu he k heo new)
theorem Inv.pins_of {pins':List (Addr × Obj)} (I:Inv X pins σ H s) (h:∀ p∈pins',s.heap.get? p.1=some p.2/\H p.1=none/\p.1≠X.env.locals/\p.1 ∉ X.fs/\∀ v,p.2.data≠.cell v):Inv X pins' σ H s :=
 ⟨I.ok,I.os,I.bare,I.base,I.loc,I.cell,I.free,I.freeC,fun p hp=>(Yaa.mp hp).elim (fun z=>I.pin p (Ybh _ z)) (h p),I.hok,I.len⟩
theorem Zgt {N:List Str} (hN:N.Nodup) {i j:Nat} {x:Str} (a:N[i]? = some x) (b:N[j]? = some x):i=j:=by
 obtain ⟨h1,e1⟩:=Yq.mp a
 obtain ⟨h2,e2⟩:=Yq.mp b
 exact (List.getElem_inj hN).mp (e1.trans e2.symm)
theorem ZeV {M:Model} {A:Around} {E:Value->Shared->Prop} {i:Nat} {x:Str} {v:V} {u:Value} {Q:Unit->Shared->Prop} (I:Inv X pins σ H s) (hN:X.N.Nodup) (hi:X.N[i]? = some x) (hx:Loc X.env.scope x) (r:RelV v u)
  (h:∀ s',Inv X pins (σ.set i (some v)) H s'->(∃ a,Heap.SameBut a s.heap s'.heap/\(a=X.env.locals\/X.env.cells.lookup x=some a))->Q () s') (hf:X.fn x=true\/X.env.scope.names.lookup x=some .local:=by first | exact .inl rfl | exact .inr rfl | assumption):wpAny M A (storeName X.env x u) Q E s:=by
 obtain ⟨m,hn,hl⟩:=id I.loc
 have hcls:(X.env.scope.kind == .class || (X.env.scope.kind == .module && X.env.locals != X.env.globals))=false:=by rw [I.ok.kind];rfl
 have hiσ:i < σ.length:=by rw [I.len];exact (Yq.mp hi).1
 have cne:=I.cne
 have tracked:∀ {a:Addr} {h':Heap},(∃ o,s.heap.get? a=some o/\H a=none)->Heap.SameBut a s.heap h'->HOk X.prog X.w H h':=fun {a h'} ha hs b ob e=>by
  obtain ⟨_,_,hfree⟩:=ha
  refine (I.hok b ob e).stay (fun c w' hc q=>(hs.2 c ?_).trans q) (fun _ q=>q) fun _ _ q=>q
  rintro rfl
  rcases hc with rfl | hc
  ·rw [hfree] at e;cases e
  ·rw [hfree] at hc;cases hc
 rcases hx with hk | hk
 ·refine wpAny_storeName_local hk hn (fun h' hn' hs=>?_) hcls
  obtain ⟨oL,_,_,hoL,_⟩:=id hn
  refine h _ ⟨I.ok,I.os,I.bare,⟨fun b o e n hb hx=>?_,fun b o e n hb hx=>?_,I.base.free,fun b o e hx=>?_,I.base.tups,I.base.frzs,I.base.tbls⟩,⟨_,hn',fun j y v' e1 e2 e3=>?_⟩,fun y c e=>?_,I.free,I.freeC,fun p hp=>?_,tracked ⟨oL,hoL,I.free⟩ hs,by simpa using I.len⟩ ⟨_,hs,.inl rfl⟩
  ·exact (hs.2 b (Yx (YI (Ym e) I.ok.above))).trans (I.base.keep b o e n hb hx)
  ·obtain ⟨sl,e1⟩:=I.base.slot b o e n hb hx
   exact ⟨sl,(hs.2 b (Yx (YI (Ym e) I.ok.above))).trans e1⟩
  ·obtain ⟨o',e1⟩:=I.base.there b o e hx
   exact ⟨o',(hs.2 b (Yx (YI (Ym e) I.ok.above))).trans e1⟩
  ·by_cases hj:j=i
   ·subst hj
    rw [hi] at e1;cases e1
    rw [YbE hiσ] at e2
    cases e2
    exact ⟨u,r,.inl ⟨hk,by simp⟩⟩
   ·rw [YcL (Ne.symm hj)] at e2
    obtain ⟨u',r',q⟩:=hl j y v' e1 e2 e3
    refine ⟨u',r',?_⟩
    rcases q with ⟨k,e⟩ | ⟨k,c,e,z⟩
    ·refine .inl ⟨k,?_⟩
     have:y≠x:=fun e=>hj (Zgt hN e1 (e ▸ hi))
     simp [this,e]
    ·exact .inr ⟨k,c,e,z.sameBut hs (cne y c e)⟩
  ·obtain ⟨w',z⟩:=I.cell y c e
   exact ⟨w',z.sameBut hs (cne y c e)⟩
  ·obtain ⟨e,n,ne,nf,d⟩:=I.pin p hp
   exact ⟨(hs.2 p.1 ne).trans e,n,ne,nf,d⟩
 ·have hfn:X.fn x=true:=by
   rcases hf with z | z
   ·exact z
   ·rw [z] at hk;cases hk
  obtain ⟨c,hc⟩:=I.ok.has x (.inl hk)
  obtain ⟨w',z⟩:=I.cell x c hc
  refine wpAny_storeName_cell I.ok.kind hk hc z (fun h' hc' hs=>?_)
  obtain ⟨oc,hoc,hocd⟩:=id z
  refine h { s with heap:=h' } ⟨I.ok,I.os,I.bare,⟨fun b o e n hb hx=>?_,fun b o e n hb hx=>?_,I.base.free,fun b o e hx=>?_,I.base.tups,I.base.frzs,I.base.tbls⟩,⟨m,hn.sameBut hs (Ne.symm (cne x c hc)),fun j y v' e1 e2 e3=>?_⟩,fun y c' e=>?_,I.free,I.freeC,fun p hp=>?_,tracked ⟨oc,hoc,I.freeC x c hc⟩ hs,by simpa using I.len⟩ ⟨c,hs,.inr hc⟩
  ·exact (hs.2 b (Yx (YI (Ym e) (I.ok.cab x c hfn hc)))).trans (I.base.keep b o e n hb hx)
  ·obtain ⟨sl,e1⟩:=I.base.slot b o e n hb hx
   exact ⟨sl,(hs.2 b (Yx (YI (Ym e) (I.ok.cab x c hfn hc)))).trans e1⟩
  ·obtain ⟨o',e1⟩:=I.base.there b o e hx
   exact ⟨o',(hs.2 b (Yx (YI (Ym e) (I.ok.cab x c hfn hc)))).trans e1⟩
  ·by_cases hj:j=i
   ·subst hj
    rw [hi] at e1;cases e1
    rw [YbE hiσ] at e2
    cases e2
    exact ⟨u,r,.inr ⟨.inl hk,c,hc,hc'⟩⟩
   ·rw [YcL (Ne.symm hj)] at e2
    obtain ⟨u',r',q⟩:=hl j y v' e1 e2 e3
    refine ⟨u',r',?_⟩
    rcases q with q | ⟨k,c',e,z'⟩
    ·exact .inl q
    ·refine .inr ⟨k,c',e,z'.sameBut hs ?_⟩
     rintro rfl
     exact hj (Zgt hN e1 (I.ok.inj _ _ _ e hc ▸ hi))
  ·by_cases hcc:c'=c
   ·subst hcc;exact ⟨_,hc'⟩
   ·obtain ⟨w2,z2⟩:=I.cell y c' e
    exact ⟨w2,z2.sameBut hs hcc⟩
  ·obtain ⟨e,n,ne,nf,d⟩:=I.pin p hp
   refine ⟨(hs.2 p.1 ?_).trans e,n,ne,nf,d⟩
   intro q
   rw [q,hoc] at e
   have q':oc=p.2:=Y3 e
   exact d w' (by rw [<- q'];exact hocd)
theorem ZdF {M:Model} {A:Around} {E:Value->Shared->Prop} {i:Nat} {x:Str} {v:V} {u:Value} {Q:Unit->Shared->Prop} (I:Inv X pins σ H s) (hN:X.N.Nodup) (hi:X.N[i]? = some x) (hx:Loc X.env.scope x) (r:RelV v u)
  (h:∀ s',Inv X pins (σ.set i (some v)) H s'->Q () s') (hf:X.fn x=true\/X.env.scope.names.lookup x=some .local:=by first | exact .inl rfl | exact .inr rfl | assumption):wpAny M A (storeName X.env x u) Q E s :=
 ZeV I hN hi hx r (fun s' I' _=>h s' I') hf
theorem Inv.call' {s':Shared} {ch:List Addr} (I:Inv X pins σ H s) (ho:s'.os=s.os) (u:Un (frs X.stack) ch H H' s.heap s'.heap) (hok:HOk X.prog X.w H' s'.heap) (hg:AllBare s'.gens)
  (hch:∀ b∈ch,(b∈X.ex\/X.s₀.heap.objs.size<=b)/\b≠X.env.locals/\(∀ x c,X.env.cells.lookup x=some c->c≠b)/\∀ p∈X.pn++pins,p.1≠b):Inv X pins σ H' s':=by
 obtain ⟨h',g',d',t',o'⟩:=s'
 have e:o'=s.os:=ho
 subst e
 exact I.call (g':=g') (t':=t') (d':=d') u hok hg hch
end
noncomputable abbrev XK:=Value->Option Addr->Hp->Prop
noncomputable abbrev St:=List (Option V)
noncomputable abbrev VK:=V->Hp->Prop
noncomputable abbrev TE:=St->Hp->VK->Prop
noncomputable abbrev TT:=St->Hp->(Bool->Hp->Prop)->Prop
noncomputable abbrev TA:=St->Hp->(List V->Hp->Prop)->Prop
structure Ends where
 nx:St->Hp->Prop
 rt:VK
 bk:St->Hp->Prop:=fun _ _=>False
 ct:St->Hp->Prop:=fun _ _=>False
noncomputable abbrev TS:=Ends->St->Hp->Prop
noncomputable def EP (X:Cx) (pins:List (Addr × Obj)) (σ:St) (Q:VK) (u:Value) (s':Shared):Prop:=∃ v H',Inv X pins σ H' s'/\RelV v u/\Q v H'
noncomputable def TP (X:Cx) (pins:List (Addr × Obj)) (σ:St) (Q:Bool->Hp->Prop) (b:Bool) (s':Shared):Prop:=∃ H',Inv X pins σ H' s'/\Q b H'
noncomputable def AP (X:Cx) (pins:List (Addr × Obj)) (σ:St) (Q:List V->Hp->Prop) (us:List Value) (s':Shared):Prop:=∃ vs H',Inv X pins σ H' s'/\Vals vs us/\Q vs H'
noncomputable def SP (X:Cx) (pins:List (Addr × Obj)) (D:Ends) (f:Flow) (s':Shared):Prop :=
 match f with
 | .next=>∃ σ' H',Inv X pins σ' H' s'/\D.nx σ' H'
 | .brk=>∃ σ' H',Inv X pins σ' H' s'/\D.bk σ' H'
 | .cont=>∃ σ' H',Inv X pins σ' H' s'/\D.ct σ' H'
 | .ret u=>∃ v σ' H',Inv X pins σ' H' s'/\RelV v u/\D.rt v H'
noncomputable def PE (X:Cx) (e:Expr) (t:TE):Prop :=
 ∀ (pins:List (Addr × Obj)) (s:Shared) (σ:St) (H:Hp) (Q:VK),Inv X pins σ H s->t σ H Q->wpAny (model X.prog X.w) X.A (eval e X.env) (EP X pins σ Q) X.xe s
noncomputable def PT (X:Cx) (e:Expr) (t:TT):Prop :=
 ∀ (pins:List (Addr × Obj)) (s:Shared) (σ:St) (H:Hp) (Q:Bool->Hp->Prop),Inv X pins σ H s->t σ H Q->wpAny (model X.prog X.w) X.A (isTrue e X.env (eval e X.env)) (TP X pins σ Q) X.xe s
noncomputable def PW (X:Cx) (e:Expr) (t:TT):Prop :=
 ∀ (whole:Sem Value) (pins:List (Addr × Obj)) (s:Shared) (σ:St) (H:Hp) (Q:Bool->Hp->Prop),Inv X pins σ H s->t σ H Q->wpAny (model X.prog X.w) X.A (isTrue e X.env whole) (TP X pins σ Q) X.xe s
theorem PW.pt {X:Cx} {e:Expr} {t:TT} (h:PW X e t):PT X e t:=h _
noncomputable def PA (X:Cx) (es:List Expr) (t:TA):Prop :=
 ∀ (pos:Pos) (pins:List (Addr × Obj)) (s:Shared) (σ:St) (H:Hp) (Q:List V->Hp->Prop),Inv X pins σ H s->t σ H Q->wpAny (model X.prog X.w) X.A (spliced (backTo pos (starEach es X.env))) (AP X pins σ Q) X.xe s
noncomputable def PS (X:Cx) (st:Stmt) (t:TS):Prop :=
 ∀ (pins:List (Addr × Obj)) (s:Shared) (σ:St) (H:Hp) (D:Ends),Inv X pins σ H s->t D σ H->wpAny (model X.prog X.w) X.A (exec st X.env) (SP X pins D) X.xe s
noncomputable def PSs (X:Cx) (st:List Stmt) (t:TS):Prop :=
 ∀ (pins:List (Addr × Obj)) (s:Shared) (σ:St) (H:Hp) (D:Ends),Inv X pins σ H s->t D σ H->wpAny (model X.prog X.w) X.A (execs st X.env) (SP X pins D) X.xe s
theorem thn {α:Type} {t:Sem α} {Q Q':α->Shared->Prop} {M:Model} {A:Around} {E:Value->Shared->Prop} {s:Shared} (h:wpAny M A t Q E s) (hQ:∀ a s,Q a s->Q' a s):wpAny M A t Q' E s:=YR h hQ fun _ _ x=>x
section
variable {X:Cx}
noncomputable def tVar (i:Nat):TE:=fun σ H Q=>∃ v,σ[i]? = some (some v)/\Q v H
noncomputable def tC (v:V):TE:=fun _ H Q=>Q v H
theorem pe_var {i:Nat} {x:Str} {pos:Pos} (hN:X.N[i]? = some x) (hv:Vis X.env.scope x) (hd:(x == ("__debug__":Str))=false:=by decide) (hcd:(x == ("__classdict__":Str))=false:=by decide):PE X (.Name x pos) (tVar i):=by
 intro pins s σ H Q I h
 obtain ⟨v,e,h⟩:=h
 obtain ⟨m,hn,hl⟩:=I.loc
 obtain ⟨u,r,l⟩:=hl i x v hN e hv
 have fin:EP X pins σ Q u s:=⟨v,H,I,r,h⟩
 rcases l with ⟨hk,hm⟩ | ⟨hk,c,hc,hcell⟩
 ·exact YdM (YcM I.ok.kind hk hn hm fin) hd
 ·rcases hk with hk | hk
  ·exact YdM (YcX I.ok.kind hk hc hcell fin) hd
  ·exact YdM (wpAny_loadName_free I.ok.kind hk hc hcell fin hcd) hd
theorem Zh {i j pos}:PE X (.Constant (.int i) j pos) (tC (.int i)):=fun _ _ _ H _ I h=>wpAny_Constant_int ⟨.int i,H,I.tok _,⟨_,rfl⟩,h⟩
theorem ZfK {b j pos}:PE X (.Constant (.bool b) j pos) (tC (.bl b)):=fun _ _ _ H _ I h=>Constant_bool ⟨.bl b,H,I,rfl,h⟩
theorem ZcL {j pos}:PE X (.Constant .none j pos) (tC .non):=fun _ _ _ H _ I h=>Constant_none ⟨.non,H,I,rfl,h⟩
theorem Z0 {x j pos}:PE X (.Constant (.str x) j pos) (tC (.str x)):=fun _ _ _ H _ I h=>Calls.Constant_str ⟨.str x,H,I.tok _,⟨_,rfl⟩,h⟩
noncomputable def Gl (X:Cx) (x:Str):Prop:=X.env.kindOf x=some .globalImplicit
theorem ZhP {E:Value->Shared->Prop} {pins:List (Addr × Obj)} {s:Shared} {σ:St} {H:Hp} {x:Str} {u:Value} {pos:Pos} {Q:Value->Shared->Prop} (I:Inv X pins σ H s) (hg:Gl X x) (hm:X.mg x=some u) (h:Q u s)
  (hd:(x == ("__debug__":Str))=false:=by decide):wpAny (model X.prog X.w) X.A (eval (.Name x pos) X.env) Q E s :=
 Yb3 I.ok.kind hg (Calls.loadGlobal_global (by rw [I.ok.glob];exact I.mod.glob.keeps I.bk) hm h) hd
theorem Zbm {E:Value->Shared->Prop} {pins:List (Addr × Obj)} {s:Shared} {σ:St} {H:Hp} {x:Str} {u:Value} {pos:Pos} {Q:Value->Shared->Prop} (I:Inv X pins σ H s) (hg:Gl X x) (hm:X.mg x=none) (hv:bootBuiltins x=some u) (h:Q u s)
  (hn:x≠"__name__":=by decide) (hd:(x == ("__debug__":Str))=false:=by decide):wpAny (model X.prog X.w) X.A (eval (.Name x pos) X.env) Q E s:=by
 obtain ⟨mb,h1,h2⟩:=I.mod.blt
 exact Yb3 I.ok.kind hg (Calls.loadGlobal_builtin (by rw [I.ok.glob];exact I.mod.glob.keeps I.bk) hm (by rw [I.ok.blt];exact h1.keeps I.bk) ((h2 x hn).trans hv) h) hd
theorem Zd6 {x:Str} {v:V} {u:Value} {pos:Pos} (hg:Gl X x) (hm:X.mg x=some u) (r:RelV v u) (hd:(x == ("__debug__":Str))=false:=by decide):PE X (.Name x pos) (tC v) :=
 fun _ _ _ H _ I h=>ZhP I hg hm ⟨v,H,I,r,h⟩ hd
theorem pe_bltn {x:Str} {v:V} {u:Value} {pos:Pos} (hg:Gl X x) (hm:X.mg x=none) (hv:bootBuiltins x=some u) (r:RelV v u) (hn:x≠"__name__":=by decide) (hd:(x == ("__debug__":Str))=false:=by decide):PE X (.Name x pos) (tC v) :=
 fun _ _ _ H _ I h=>Zbm I hg hm hv ⟨v,H,I,r,h⟩ hn hd
variable {a b:Expr} {ta tb:TE} {pos:Pos}
noncomputable def tB (t:TE):TT:=fun σ H Q=>t σ H fun x H1=>∃ c,x=.bl c/\Q c H1
theorem Zcm {e:Expr} {t:TE} (h:PE X e t) (he:∀ whole,isTrue e X.env whole=(do let v <- whole;standAt e.pos;holding [v] (truthy v)):=by intro _;rfl):PT X e (tB t):=by
 intro pins s σ H Q I hw
 refine isTrue_plain (thn (h pins s σ H _ I hw) fun v s1 ⟨x,H1,I1,r1,q1⟩=>?_) (he _)
 obtain ⟨d,rfl,q⟩:=q1
 cases r1
 exact Yap ⟨H1,I1,q⟩
variable {tA tB':TT} {rest:List Expr}
noncomputable def tAnd (t u:TT):TT:=fun σ H Q=>t σ H fun c H1=>if c=true then u σ H1 Q else Q false H1
noncomputable def tOr (t u:TT):TT:=fun σ H Q=>t σ H fun c H1=>if c=true then Q true H1 else u σ H1 Q
noncomputable def tNot (t:TT):TT:=fun σ H Q=>t σ H fun c H1=>Q (!c) H1
theorem Zcb (ha:PT X a tA):PW X (.BoolOp .And [a] pos) tA:=by
 intro wh pins s σ H Q I h
 refine isTrue_and (thn (ha pins s σ H Q I h) fun c s1 e=>?_)
 cases c with
 | true=>exact isTrue_and_nil e
 | false=>exact e
theorem Zdk (ha:PT X a tA):PW X (.BoolOp .Or [a] pos) tA:=by
 intro wh pins s σ H Q I h
 refine isTrue_or (thn (ha pins s σ H Q I h) fun c s1 e=>?_)
 cases c with
 | false=>exact isTrue_or_nil e
 | true=>exact e
theorem Zcj (ha:PT X a tA) (hb:PW X (.BoolOp .And (b::rest) pos) tB'):PW X (.BoolOp .And (a::b::rest) pos) (tAnd tA tB'):=by
 intro wh pins s σ H Q I h
 refine isTrue_and (thn (ha pins s σ H _ I h) fun c s1 h_q=>?_)
 obtain ⟨H1,I1,q1⟩:=h_q
 cases c with
 | true=>exact hb wh pins s1 σ H1 Q I1 q1
 | false=>exact ⟨H1,I1,q1⟩
theorem Ze7 (ha:PT X a tA) (hb:PW X (.BoolOp .Or (b::rest) pos) tB'):PW X (.BoolOp .Or (a::b::rest) pos) (tOr tA tB'):=by
 intro wh pins s σ H Q I h
 refine isTrue_or (thn (ha pins s σ H _ I h) fun c s1 h_q=>?_)
 obtain ⟨H1,I1,q1⟩:=h_q
 cases c with
 | true=>exact ⟨H1,I1,q1⟩
 | false=>exact hb wh pins s1 σ H1 Q I1 q1
theorem Zcp (ha:PT X a tA):PT X (.UnaryOp .Not a pos) (tNot tA):=by
 intro pins s σ H Q I h
 exact isTrue_not (ha pins s σ H (fun c H1=>Q (!c) H1) I h)
noncomputable def tAndV (ta tb:TE):TE:=fun σ H Q=>ta σ H fun x H1=>∃ c,x=.bl c/\if c=true then tb σ H1 Q else Q (.bl false) H1
noncomputable def tNotV (ta:TE):TE:=fun σ H Q=>ta σ H fun x H1=>∃ c,x=.bl c/\Q (.bl (!c)) H1
theorem pe_one {op} {t:TE} (h:PE X a t):PE X (.BoolOp op [a] pos) t:=fun pins s σ H Q I hw=>BoolOp_one (h pins s σ H Q I hw)
theorem pe_and (ha:PE X a ta) (hb:PE X (.BoolOp .And (b::rest) pos) tb):PE X (.BoolOp .And (a::b::rest) pos) (tAndV ta tb):=by
 intro pins s σ H Q I h
 refine BoolOp_and (thn (ha pins s σ H _ I h) fun v s1 h_q=>?_)
 obtain ⟨x,H1,I1,r1,q1⟩:=h_q
 obtain ⟨c,rfl,q1⟩:=q1
 cases r1
 refine Yap ?_
 cases c with
 | true=>exact hb pins s1 σ H1 Q I1 q1
 | false=>exact ⟨.bl false,H1,I1,rfl,q1⟩
theorem pe_not (ha:PE X a ta):PE X (.UnaryOp .Not a pos) (tNotV ta):=by
 intro pins s σ H Q I h
 refine UnaryOp_ (thn (ha pins s σ H _ I h) fun v s1 h_q=>?_)
 obtain ⟨x,H1,I1,r1,q1⟩:=h_q
 obtain ⟨c,rfl,q1⟩:=q1
 cases r1
 exact not_of (Yap ⟨.bl (!c),H1,I1,rfl,q1⟩)
noncomputable def tIf (t:TT) (ta tb:TE):TE:=fun σ H Q=>t σ H fun c H1=>if c=true then ta σ H1 Q else tb σ H1 Q
theorem pe_ifExp {c:Expr} (hc:PT X c tA) (ha:PE X a ta) (hb:PE X b tb):PE X (.IfExp c a b pos) (tIf tA ta tb):=by
 intro pins s σ H Q I h
 refine wpAny_IfExp (thn (hc pins s σ H _ I h) fun d s1 h_q=>?_)
 obtain ⟨H1,I1,q1⟩:=h_q
 cases d with
 | true=>exact ha pins s1 σ H1 Q I1 q1
 | false=>exact hb pins s1 σ H1 Q I1 q1
end
noncomputable def SqL (K:YFr) (H:Hp) (a:Addr) (xs:List V):Prop :=
 Rd H a (.lst xs) \/
  ∃ (o:Obj) (its:Array Value) (n:Nat),K.lookup a=some o/\o.cls=.type "list"/\o.dict=none/\o.data=.seq its n/\its.size<=sizeLine/\Vals xs its.toList
noncomputable def SqT (K:YFr) (H:Hp) (a:Addr) (xs:List V):Prop :=
 Rd H a (.tup xs) \/
  ∃ (o:Obj) (its:Array Value) (n:Nat),K.lookup a=some o/\o.cls=.type "tuple"/\o.data=.seq its n/\its.size<=sizeLine/\Vals xs its.toList
noncomputable def absV:Value->Option V
 | .none=>some .non
 | .bool b=>some (.bl b)
 | .int i _=>some (.int i)
 | .str x _=>some (.str x)
 | .bytes b _=>some (.byt b)
 | .float b _=>some (.flt b)
 | .ref a=>some (.ref a)
 | .type n=>some (.ty n)
 | _=>none
theorem RelV.abs {x:V} {u:Value} (r:RelV x u):absV u=some x:=by
 cases x with
 | non=>cases r;rfl
 | bl _=>cases r;rfl
 | int _=>obtain ⟨t,rfl⟩:=r;rfl
 | str _=>obtain ⟨t,rfl⟩:=r;rfl
 | byt _=>obtain ⟨t,rfl⟩:=r;rfl
 | flt _=>obtain ⟨t,rfl⟩:=r;rfl
 | ref _=>cases r;rfl
 | ty _=>cases r;rfl
theorem RelV.inj {x y:V} {u:Value} (r:RelV x u) (q:RelV y u):x=y:=Y3 (r.abs.symm.trans q.abs)
theorem Vals.inj:∀ {xs ys:List V} {us:List Value},Vals xs us->Vals ys us->xs=ys
 | _,_,_,.nil,.nil=>rfl
 | _,_,_,.cons r t,.cons r' t'=>by rw [r.inj r',Vals.inj t t']
section
variable {X:Cx} {pins:List (Addr × Obj)} {σ:St} {H:Hp} {s:Shared} {a:Addr} {xs ys:List V}
theorem SqL.of {K:YFr} (h:H a=some (.lst xs)):SqL K H a xs:=.inl (.inl h)
theorem SqT.of {K:YFr} (h:H a=some (.tup xs)):SqT K H a xs:=.inl (.inl h)
theorem Inv.list (I:Inv X pins σ H s) (h:SqL X.K H a xs):∃ its:List Value,Vals xs its/\PlainL s.heap a its.toArray/\xs.length<=sizeLine:=by
 rcases h with h | ⟨o,its,n,hk,hc,hd,hs,hz,r⟩
 ·obtain ⟨z,its,n,r,e⟩:=h.ok I.hok
  exact ⟨its,r,⟨_,n,e,rfl,rfl,rfl⟩,z⟩
 ·refine ⟨its.toList,r,⟨o,n,I.kIn a o hk,hc,hd,by simpa using hs⟩,?_⟩
  have e:=r.length
  simp only [Array.length_toList] at e
  lia
theorem Inv.tuple (I:Inv X pins σ H s) (h:SqT X.K H a xs):∃ its:List Value,Vals xs its/\IsTup s.heap a its.toArray/\xs.length<=sizeLine:=by
 rcases h with h | ⟨o,its,n,hk,hc,hs,hz,r⟩
 ·obtain ⟨z,its,r,p⟩:=h.ok I.hok
  exact ⟨its,r,p,z⟩
 ·refine ⟨its.toList,r,⟨o,I.kIn a o hk,hc,n,by simpa using hs⟩,?_⟩
  have e:=r.length
  simp only [Array.length_toList] at e
  lia
theorem Inv.list_inj (I:Inv X pins σ H s) (h:SqL X.K H a xs) (h':SqL X.K H a ys):xs=ys:=by
 obtain ⟨its,r,⟨o,n,e,_,_,d⟩,_⟩:=I.list h
 obtain ⟨its',r',⟨o',n',e',_,_,d'⟩,_⟩:=I.list h'
 rw [e] at e';cases e'
 rw [d] at d'
 injection d' with d1 _
 have:its=its':=by simpa using congrArg Array.toList d1
 subst this
 exact r.inj r'
theorem Inv.tuple_inj (I:Inv X pins σ H s) (h:SqT X.K H a xs) (h':SqT X.K H a ys):xs=ys:=by
 obtain ⟨its,r,⟨o,e,_,n,d⟩,_⟩:=I.tuple h
 obtain ⟨its',r',⟨o',e',_,n',d'⟩,_⟩:=I.tuple h'
 rw [e] at e';cases e'
 rw [d] at d'
 injection d' with d1 _
 have:its=its':=by simpa using congrArg Array.toList d1
 subst this
 exact r.inj r'
end
noncomputable abbrev Cx.wish (X:Cx) (E:Value->Shared->Prop):Cx:={ X with xe:=E }
noncomputable abbrev Cx.nox (X:Cx):Cx:=X.wish fun _ _=>False
theorem Cx.Ok.wish {X:Cx} (ok:X.Ok) (E:Value->Shared->Prop):(X.wish E).Ok :=
 ⟨ok.mod,ok.kind,ok.glob,ok.blt,ok.above,ok.inj,ok.has,ok.cab,ok.hd,ok.frames,ok.stk,ok.exf,ok.bs,ok.bsz,ok.noex,ok.exfs,ok.funs,ok.frf⟩
theorem Cx.Ok.unwish {X:Cx} {E:Value->Shared->Prop} (ok:(X.wish E).Ok):X.Ok :=
 ⟨ok.mod,ok.kind,ok.glob,ok.blt,ok.above,ok.inj,ok.has,ok.cab,ok.hd,ok.frames,ok.stk,ok.exf,ok.bs,ok.bsz,ok.noex,ok.exfs,ok.funs,ok.frf⟩
section
variable {X:Cx} {pins:List (Addr × Obj)} {σ:St} {H:Hp} {s:Shared} {E:Value->Shared->Prop}
theorem Inv.wish (I:Inv X pins σ H s) (E:Value->Shared->Prop):Inv (X.wish E) pins σ H s:=⟨I.ok.wish E,I.os,I.bare,I.base,I.loc,I.cell,I.free,I.freeC,I.pin,I.hok,I.len⟩
theorem Inv.unwish (I:Inv (X.wish E) pins σ H s):Inv X pins σ H s:=⟨I.ok.unwish,I.os,I.bare,I.base,I.loc,I.cell,I.free,I.freeC,I.pin,I.hok,I.len⟩
theorem SP.unwish {D:Ends} {f:Flow} {s':Shared} (h:SP (X.wish E) pins D f s'):SP X pins D f s':=by
 cases f with
 | next=>obtain ⟨σ',H',I,q⟩:=h;exact ⟨σ',H',I.unwish,q⟩
 | brk=>obtain ⟨σ',H',I,q⟩:=h;exact ⟨σ',H',I.unwish,q⟩
 | cont=>obtain ⟨σ',H',I,q⟩:=h;exact ⟨σ',H',I.unwish,q⟩
 | ret u=>obtain ⟨v,σ',H',I,r,q⟩:=h;exact ⟨v,σ',H',I.unwish,r,q⟩
theorem PE.nox {e:Expr} {t:TE} (h:PE X.nox e t):PE X e t:=fun pins s σ H Q I hw =>
 YR (h pins s σ H Q (I.wish _) hw) (fun _ _ ⟨v,H',I',r,q⟩=>⟨v,H',I'.unwish,r,q⟩) fun _ _ z=>False.elim z
theorem PSs.nox {st:List Stmt} {t:TS} (h:PSs X.nox st t):PSs X st t:=fun pins s σ H D I hw =>
 YR (h pins s σ H D (I.wish _) hw) (fun _ _ q=>q.unwish) fun _ _ z=>False.elim z
end
section
variable {X:Cx} {st:Stmt} {rest:List Stmt} {t u:TS} {e:Expr} {te:TE} {pos:Pos}
noncomputable def tNext:TS:=fun D σ H=>D.nx σ H
noncomputable def tSeq (t u:TS):TS:=fun D σ H=>t { D with nx:=u D } σ H
theorem ZA:PSs X [] tNext:=fun _ _ σ H _ I h=>YbM ⟨σ,H,I,h⟩
theorem Zg (h1:PS X st t) (h2:PSs X rest u):PSs X (st::rest) (tSeq t u):=by
 intro pins s σ H D I h
 refine YdB (thn (h1 pins s σ H { D with nx:=u D } I h) fun f s1 q=>?_)
 cases f with
 | next =>
  obtain ⟨σ',H',I',q⟩:=q
  exact h2 pins s1 σ' H' D I' q
 | ret v=>exact q
 | brk=>exact q
 | cont=>exact q
theorem Zm (h1:PS X st t):PSs X [st] t:=by
 intro pins s σ H D I h
 refine YdB (thn (h1 pins s σ H D I h) fun f s1 q=>?_)
 cases f with
 | next=>exact YbM q
 | ret v=>exact q
 | brk=>exact q
 | cont=>exact q
theorem Inv.quiet {pins:List (Addr × Obj)} {σ:St} {H:Hp} {s:Shared} (I:Inv X pins σ H s):interactive X.env=false:=by simp [interactive,I.ok.kind]
noncomputable def tDrop (te:TE):TS:=fun D σ H=>te σ H fun _ H1=>D.nx σ H1
theorem Za1 (he:PE X e te) (hs:swapsWith e none pos.line X.env=pure false:=by rfl):PS X (.Expr e pos) (tDrop te):=by
 intro pins s σ H D I h
 exact wpAny_Expr_any (thn (he pins s σ H _ I h) fun v s1 ⟨x,H1,I1,r1,q1⟩=>⟨σ,H1,I1,q1⟩) I.quiet hs
noncomputable def tRet (te:TE):TS:=fun D σ H=>te σ H D.rt
theorem Zv (he:PE X e te):PS X (.Return (some e) pos) (tRet te):=by
 intro pins s σ H D I h
 exact wpAny_Return_some (thn (he pins s σ H _ I h) fun v s1 ⟨x,H1,I1,r1,q1⟩=>⟨x,σ,H1,I1,r1,q1⟩)
noncomputable def tIfS (c:TT) (t u:TS):TS:=fun D σ H=>c σ H fun b H1=>if b=true then t D σ H1 else u D σ H1
theorem Z9 {c:Expr} {a b:List Stmt} {tc:TT} (hc:PT X c tc) (ha:PSs X a t) (hb:PSs X b u):PS X (.If c a b pos) (tIfS tc t u):=by
 intro pins s σ H D I h
 refine wpAny_If (thn (hc pins s σ H _ I h) fun d s1 h_q=>?_)
 obtain ⟨H1,I1,q1⟩:=h_q
 cases d with
 | true=>exact ha pins s1 σ H1 D I1 q1
 | false=>exact hb pins s1 σ H1 D I1 q1
end
noncomputable abbrev TG:=V->St->Hp->(St->Hp->Prop)->Prop
noncomputable abbrev TGs:=List V->St->Hp->(St->Hp->Prop)->Prop
noncomputable def PG (X:Cx) (target:Expr) (t:TG):Prop :=
 ∀ (pins:List (Addr × Obj)) (s:Shared) (σ:St) (H:Hp) (v:V) (u:Value) (Q:St->Hp->Prop),Inv X pins σ H s->RelV v u->t v σ H Q ->
  wpAny (model X.prog X.w) X.A (assign target X.env u) (fun _ s'=>∃ σ' H',Inv X pins σ' H' s'/\Q σ' H') X.xe s
noncomputable def PGs (X:Cx) (ts:List Expr) (t:TGs):Prop :=
 ∀ (pins:List (Addr × Obj)) (s:Shared) (σ:St) (H:Hp) (vs:List V) (us:List Value) (Q:St->Hp->Prop),Inv X pins σ H s->Vals vs us->t vs σ H Q ->
  wpAny (model X.prog X.w) X.A (assignInOrder ((assignEach ts X.env).map (·.2)) us) (fun _ s'=>∃ σ' H',Inv X pins σ' H' s'/\Q σ' H') X.xe s
noncomputable abbrev TIp:=V->V->Hp->VK->Prop
noncomputable def PIp (X:Cx) (op:Operator) (t:TIp):Prop :=
 ∀ (pins:List (Addr × Obj)) (s:Shared) (σ:St) (H:Hp) (x y:V) (v u:Value) (Q:VK),Inv X pins σ H s->RelV x v->RelV y u->t x y H Q ->
  wpAny (model X.prog X.w) X.A (inplaceOp op v u) (EP X pins σ Q) X.xe s
section
variable {X:Cx} {pos:Pos}
noncomputable def ZgC (i:Nat):TG:=fun v σ H Q=>Q (σ.set i (some v)) H
theorem Zy {i:Nat} {x:Str} (hN:X.N.Nodup) (hi:X.N[i]? = some x) (hx:Loc X.env.scope x) (hf:X.fn x=true\/X.env.scope.names.lookup x=some .local:=by first | exact .inl rfl | exact .inr rfl | assumption):PG X (.Name x pos) (ZgC i):=by
 intro pins s σ H v u Q I r h
 exact Ydo (ZdF I hN hi hx r (fun s' I'=>⟨_,H,I',h⟩) hf)
noncomputable def gNil:TGs:=fun vs σ H Q=>vs=[]/\Q σ H
noncomputable def gCons (t:TG) (u:TGs):TGs:=fun vs σ H Q=>∃ v r,vs=v::r/\t v σ H fun σ' H'=>u r σ' H' Q
theorem Za5:PGs X [] gNil:=by
 intro pins s σ H vs us Q I r h
 obtain ⟨e,h⟩:=h
 subst e
 cases r
 exact assignInOrder_nil ⟨σ,H,I,h⟩
theorem ZT {e:Expr} {es:List Expr} {t:TG} {u:TGs} (h1:PG X e t) (h2:PGs X es u)
  (hs:(assignEach (e::es) X.env).map (·.2)=assign e X.env::(assignEach es X.env).map (·.2):=by rfl):PGs X (e::es) (gCons t u):=by
 intro pins s σ H vs us Q I r h
 obtain ⟨v,vr,e1,h⟩:=h
 subst e1
 cases r with
 | cons r rr =>
  rw [hs]
  refine assignInOrder_cons (thn (h1 pins s σ H _ _ _ I r h) fun _ s1 h_q=>?_)
  obtain ⟨σ1,H1,I1,q1⟩:=h_q
  exact h2 pins s1 σ1 H1 _ _ Q I1 rr q1
noncomputable def gTup (K:YFr) (n:Nat) (t:TGs):TG:=fun v σ H Q=>∃ a xs,v=.ref a/\SqT K H a xs/\xs.length=n/\t xs σ H Q
theorem Zb7 {es:List Expr} {k:Nat} {t:TGs} {n:Nat} (hc:X.calm=true) (h:PGs X es t)
  (hn:(assignEach es X.env).length=n:=by rfl) (hst:(assignEach es X.env).findIdx? (·.1)=none:=by rfl):PG X (.Tuple es k pos) (gTup X.K n t):=by
 intro pins s σ H v u Q I r hw
 obtain ⟨a,xs,e1,hq,hl,hw⟩:=hw
 subst e1
 cases r
 obtain ⟨its,rv,ht,hz⟩:=I.tuple hq
 refine assign_Tuple_tuple (I.ok.hd hc) ht (by simp [hn,<- hl,rv.length]) hst fun h' hx=>?_
 have I1:Inv X pins σ H { s with heap:=h' }:=I.kept (t':=s.toks) fun b o e=>hx b o (Yx (Ym e)) e
 exact h pins _ σ H xs _ Q I1 (by simpa using rv) hw
noncomputable def tAsg (te:TE) (g:TG):TS:=fun D σ H=>te σ H fun x H1=>g x σ H1 D.nx
theorem Zhk {tg e:Expr} {te:TE} {g:TG} (he:PE X e te) (hg:PG X tg g) (hs:swapsWithSole [tg] e pos.line X.env=pure false:=by rfl) (hw:swappedStores [tg] e X.env=pure none:=by rfl)
  (h1:(assignEach [tg] X.env).map (·.2)=[assign tg X.env]:=by rfl):PS X (.Assign [tg] e pos) (tAsg te g):=by
 intro pins s σ H D I h
 refine wpAny_Assign_stores (thn (he pins s σ H _ I h) fun v s1 ⟨x,H1,I1,r1,q1⟩=>?_) hs hw
 rw [h1]
 exact thn (hg pins s1 σ H1 x v _ I1 r1 q1) fun _ s2 q=>q
theorem ZG {i:Nat} {x:Str} {e:Expr} {te:TE} {pos':Pos} (hN:X.N.Nodup) (hi:X.N[i]? = some x) (hx:Loc X.env.scope x) (he:PE X e te) (hs:swapsWith e (some (.Name x pos')) pos.line X.env=pure false:=by rfl) (hf:X.fn x=true\/X.env.scope.names.lookup x=some .local:=by first | exact .inl rfl | exact .inr rfl | assumption) :
  PS X (.Assign [.Name x pos'] e pos) (tAsg te (ZgC i)):=by
 intro pins s σ H D I h
 refine wpAny_Assign_Name (thn (he pins s σ H _ I h) fun v s1 ⟨y,H1,I1,r1,q1⟩=>?_) hs
 exact ZdF I1 hN hi hx r1 (fun s2 I2=>⟨_,H1,I2,q1⟩) hf
noncomputable def tAug (i:Nat) (te:TE) (ti:TIp):TS:=fun D σ H=>∃ x,σ[i]? = some (some x)/\te σ H fun y H1=>ti x y H1 fun z H2=>D.nx (σ.set i (some z)) H2
theorem ps_aug {i:Nat} {x:Str} {e:Expr} {te:TE} {op:Operator} {ti:TIp} {pos':Pos} (hN:X.N.Nodup) (hi:X.N[i]? = some x) (hx:Loc X.env.scope x) (he:PE X e te) (ho:PIp X op ti) (hf:X.fn x=true\/X.env.scope.names.lookup x=some .local:=by first | exact .inl rfl | exact .inr rfl | assumption) :
  PS X (.AugAssign (.Name x pos') op e pos) (tAug i te ti):=by
 intro pins s σ H D I h
 obtain ⟨v,e1,h⟩:=h
 obtain ⟨m,hn,hl⟩:=I.loc
 have vis:Vis X.env.scope x:=by rcases hx with k | k;exact .inl k;exact .inr (.inl k)
 obtain ⟨u,r,l⟩:=hl i x v hi e1 vis
 refine wpAny_AugAssign_Name ?_
 have go:wpAny (model X.prog X.w) X.A (eval e X.env) (fun w s₂=>wpAny (model X.prog X.w) X.A (inplaceOp op u w) (fun r s₃=>wpAny (model X.prog X.w) X.A (storeName X.env x r) (fun _=>SP X pins D .next) X.xe s₃) X.xe s₂) X.xe s:=by
  refine thn (he pins s σ H _ I h) fun w s1 h_q=>?_
  obtain ⟨y,H1,I1,r1,q1⟩:=h_q
  refine thn (ho pins s1 σ H1 v y u w _ I1 r r1 q1) fun z s2 h_q=>?_
  obtain ⟨zv,H2,I2,r2,q2⟩:=h_q
  exact ZdF I2 hN hi hx r2 (fun s3 I3=>⟨_,H2,I3,q2⟩) hf
 rcases l with ⟨hk,hm⟩ | ⟨hk,c,hc,hcell⟩
 ·exact YcM I.ok.kind hk hn hm go
 ·rcases hk with hk | hk
  ·exact YcX I.ok.kind hk hc hcell go
  ·rcases hx with k | k
   ·have:X.env.scope.names.lookup x=some .free:=hk
    rw [k] at this;cases this
   ·have:X.env.scope.names.lookup x=some .free:=hk
    rw [k] at this;cases this
noncomputable def ipI (f:Int->Int->Int):TIp:=fun x y H Q=>∃ i j,x=.int i/\y=.int j/\Q (.int (f i j)) H
theorem ip_add:PIp X .Add (ipI fun i j=>i + j):=by
 intro pins s σ H x y v u Q I r1 r2 h
 obtain ⟨i,j,e1,e2,q⟩:=h
 subst e1;subst e2
 obtain ⟨t,rfl⟩:=r1
 obtain ⟨t',rfl⟩:=r2
 exact iadd_int ⟨.int _,H,I.tok _,⟨_,rfl⟩,q⟩
end
section
variable {X:Cx} {pos:Pos}
noncomputable def tWhile (c:TT) (tb:TS):TS:=fun D σ H=>∃ W:Nat->St->Hp->Prop,(∃ m,W m σ H)/\∀ m σ H,W m σ H ->
 c σ H fun b H1=>if b=true then ∃ N:St->Hp->Prop,(∀ σ' H',N σ' H'->∃ m',m' < m/\W m' σ' H')/\tb { D with nx:=N,ct:=N,bk:=D.nx } σ H1 else D.nx σ H1
theorem Zcx {c:Expr} {body:List Stmt} {tc:TT} {tb:TS} (hp:PassesOwn (model X.prog X.w) X.A X.env X.xe) (hc:PT X c tc) (hb:PSs X body tb):PS X (.While c body [] pos) (tWhile tc tb):=by
 intro pins s σ H D I h
 obtain ⟨W,⟨m0,w0⟩,turn⟩:=h
 refine wpAny_While (codeAny_whileLoop (fun n s'=>∃ σ' H',Inv X pins σ' H' s'/\W n σ' H') ?_ m0 ⟨σ,H,I,w0⟩)
 rintro n s1 ⟨σ1,H1,I1,w1⟩
 refine YaO hp (thn (hc pins s1 σ1 H1 _ I1 (turn n σ1 H1 w1)) fun b s2 h_q=>?_)
 obtain ⟨H2,I2,q2⟩:=h_q
 cases b with
 | true =>
  obtain ⟨N,hN,q2⟩:=q2
  rw [if_pos rfl]
  refine YaO hp (thn (hb pins s2 σ1 H2 _ I2 q2) fun f s3 q3=>?_)
  cases f with
  | next =>
   obtain ⟨σ3,H3,I3,n3⟩:=q3
   obtain ⟨m',hm,w3⟩:=hN σ3 H3 n3
   exact ⟨m',hm,σ3,H3,I3,w3⟩
  | cont =>
   obtain ⟨σ3,H3,I3,n3⟩:=q3
   obtain ⟨m',hm,w3⟩:=hN σ3 H3 n3
   exact ⟨m',hm,σ3,H3,I3,w3⟩
  | brk=>exact q3
  | ret v=>exact q3
 | false =>
  rw [if_neg Yr]
  exact YbM ⟨σ1,H2,I2,q2⟩
end
structure It where
 go:Nat->Hp->Prop
 yld:Nat->Hp->V->Hp->Prop
 stop:Nat->Hp->Prop
noncomputable def FpOk (X:Cx) (pins:List (Addr × Obj)) (H:Hp) (b:Addr):Prop :=
 H b=none/\b≠X.env.locals/\b ∉ X.fs/\(b∈X.ex\/X.s₀.heap.objs.size<=b)/\(∀ x c,X.env.cells.lookup x=some c->c≠b)/\∀ p∈X.pn++pins,p.1≠b
theorem Inv.fpOk {X:Cx} {pins:List (Addr × Obj)} {σ:St} {H H':Hp} {s:Shared} {b:Addr} (I:Inv X pins σ H s) (hb:s.heap.objs.size<=b) (hn:H' b=none):FpOk X pins H' b:=by
 refine ⟨hn,YaK (YI I.lt hb),I.nofs hb,.inr (YH I.sz hb),fun x c e z=>?_,fun p hp z=>?_⟩
 ·obtain ⟨v,q⟩:=I.cell x c e
  exact absurd (YI q.lt (by rw [z];exact hb)) (YaR _)
 ·exact absurd (YI (Ym (I.pin p hp).1) (by rw [z];exact hb)) (YaR _)
structure Turn (P:Program) (w:World) (K:YFr) (tg:Expr) (J:It) (fp:List Addr) (it:Addr) (tn:Nat->Heap->Prop):Prop where
 mem:it∈fp
 obj:∀ i h,tn i h->∀ b∈fp,∃ o,h.get? b=some o/\∀ v,o.data≠.cell v
 keep:∀ i h h',tn i h->(∀ b∈fp,∀ o,h.get? b=some o->h'.get? b=some o)->tn i h'
 item : ∀ (X:Cx),X.prog=P->X.w=w->X.K=K->X.calm=true->∀ (i:Nat) (pins:List (Addr × Obj)) (s:Shared) (σ:St) (H:Hp) (E:Value->Shared->Prop),Inv X pins σ H s->(∀ b∈fp,FpOk X pins H b)->tn i s.heap->J.go i H ->
  wpAny (model P w) X.A (pyNext (.ref it)) (fun r s1=>∃ u,r=some u /\
   wpAny (model P w) X.A (letOwnedTupleGo tg (.ref it) u) (fun _ s2=>∃ x H',Inv X pins σ H' s2/\RelV x u/\J.yld i H x H'/\tn (i + 1) s2.heap/\∀ b∈fp,H' b=none) E s1) E s
 done:∀ (X:Cx),X.prog=P->X.w=w->X.K=K->X.calm=true->∀ (i:Nat) (pins:List (Addr × Obj)) (s:Shared) (σ:St) (H:Hp) (E:Value->Shared->Prop),Inv X pins σ H s->(∀ b∈fp,FpOk X pins H b)->tn i s.heap->J.stop i H ->
  wpAny (model P w) X.A (pyNext (.ref it)) (fun r s1=>r=none/\Inv X pins σ H s1) E s
 self:∀ (A:Around) (i:Nat) (s:Shared) (Q:Value->Shared->Prop) (E:Value->Shared->Prop),tn i s.heap->Q (.ref it) s->wpAny (model P w) A (pyIter (.ref it)) Q E s
noncomputable abbrev TI:=St->Hp->(It->Hp->Prop)->Prop
noncomputable def PIE (X:Cx) (pins:List (Addr × Obj)) (σ:St) (tg:Expr) (R:It->Hp->Prop) (itv:Value) (s2:Shared):Prop :=
 ∃ (it:Addr) (fp:List Addr) (tn:Nat->Heap->Prop) (J:It) (H':Hp),itv=.ref it/\Inv X pins σ H' s2/\Turn X.prog X.w X.K tg J fp it tn/\tn 0 s2.heap/\(∀ b∈fp,FpOk X pins H' b)/\R J H'
noncomputable def PI (X:Cx) (tg iter:Expr) (wi:TI):Prop :=
 ∀ (pins:List (Addr × Obj)) (s:Shared) (σ:St) (H:Hp) (R:It->Hp->Prop),Inv X pins σ H s->wi σ H R ->
  wpAny (model X.prog X.w) X.A (eval iter X.env) (fun v s1=>wpAny (model X.prog X.w) X.A (pyIter v) (PIE X pins σ tg R) X.xe s1) X.xe s
theorem ZhS {M:Model} {A:Around} {E:Value->Shared->Prop} {s:Shared} {tg:Expr} {it:Addr} {u:Value} {o:Obj} {n:String} {vs:Array Value} {Q:Unit->Shared->Prop} (ho:s.heap.get? it=some o) (hc:o.cls=.type n) (hd:o.data=.fields vs)
  (hn:["enumerate","zip","dict_itemiterator","dict_reverseitemiterator","odict_iterator","itertools.zip_longest","itertools.pairwise"].contains n=false) (hQ:Q () s):wpAny M A (letOwnedTupleGo tg (.ref it) u) Q E s:=by
 unfold letOwnedTupleGo
 cases tg <;> first
  | exact Yi hQ
  | (cases u <;> first
    | exact Yi hQ
    | (refine Yc (wpAny_load ho ?_);rw [hc,hd];show wpAny M A (if (["enumerate","zip","dict_itemiterator","dict_reverseitemiterator","odict_iterator","itertools.zip_longest","itertools.pairwise"].contains n && vs[0]? == some (rawInt _))=true then _ else _) Q E s;rw [if_neg (by intro h;rw [hn,YD] at h;cases h)];exact Yi hQ))
noncomputable def Itl (K:YFr) (a:Addr):It :=
 ⟨fun i H=>∃ xs x,SqL K H a xs/\xs[i]? = some x,fun i H x H'=>H'=H/\∀ xs,SqL K H a xs->xs[i]? = some x,fun i H=>∃ xs,SqL K H a xs/\xs.length<=i⟩
noncomputable def Itt (K:YFr) (a:Addr):It :=
 ⟨fun i H=>∃ xs x,SqT K H a xs/\xs[i]? = some x,fun i H x H'=>H'=H/\∀ xs,SqT K H a xs->xs[i]? = some x,fun i H=>∃ xs,SqT K H a xs/\xs.length<=i⟩
noncomputable def Itr (lo:Int) (n:Nat):It:=⟨fun i _=>i < n,fun i H x H'=>H'=H/\x=.int (lo + i),fun i _=>n<=i⟩
theorem Zjh {P:Program} {w:World} {K:YFr} {tg:Expr} (a it:Addr):Turn P w K tg (Itl K a) [it] it (fun i h=>h.IsListIter it a i) where
 mem:=by simp
 obj := fun i h st b hb=>by
  have e:b=it:=by simpa using hb
  subst e
  obtain ⟨o,e,c,d⟩:=st
  exact ⟨o,e,fun v z=>by rw [d] at z;cases z⟩
 keep:=fun i h h' st k=>st.at fun o e=>k it (by simp) o e
 item:=by
  intro X hP hw hK hc i pins s σ H E I hf st hg
  subst hP hw hK
  obtain ⟨xs,x,hq,hx⟩:=hg
  obtain ⟨its,rv,p,hz⟩:=I.list hq
  obtain ⟨u,hu,ru⟩:=rv.get hx
  obtain ⟨f0,f1,f2,f3,f4,f5⟩:=hf it (by simp)
  refine YbF st p.isList (x:=u) (by simpa using hu) fun h' st' sb=>?_
  have I1:Inv X pins σ H { s with heap:=h' }:=I.turned (t':=s.toks) (fun b o hb e=>(sb.2 b hb).trans e) f0 f1 f3 f4 f5
  obtain ⟨o,e,c,d⟩:=id st'
  exact ⟨u,rfl,ZhS (s:={ s with heap:=h' }) e c d (by decide) ⟨x,H,I1,ru,⟨rfl,fun ys hy=>by rw [I.list_inj hy hq];exact hx⟩,st',fun b hb=>(hf b hb).1⟩⟩
 done:=by
  intro X hP hw hK hc i pins s σ H E I hf st hg
  subst hP hw hK
  obtain ⟨xs,hq,hx⟩:=hg
  obtain ⟨its,rv,p,hz⟩:=I.list hq
  obtain ⟨f0,f1,f2,f3,f4,f5⟩:=hf it (by simp)
  have hl:=rv.length
  exact YcE (I.ok.hd hc) st p.isList (by simp;lia) fun h' eb=>⟨rfl,I.turned (t':=s.toks) (fun b o hb e=>eb b o hb e) f0 f1 f3 f4 f5⟩
 self:=fun _ _ _ _ _ st h=>wpAny_pyIter_listiter st h
theorem ZgD {P:Program} {w:World} {K:YFr} {tg:Expr} (a it:Addr):Turn P w K tg (Itt K a) [it] it (fun i h=>h.IsTupleIter it a i) where
 mem:=by simp
 obj := fun i h st b hb=>by
  have e:b=it:=by simpa using hb
  subst e
  obtain ⟨o,e,c,d⟩:=st
  exact ⟨o,e,fun v z=>by rw [d] at z;cases z⟩
 keep:=fun i h h' st k=>st.at fun o e=>k it (by simp) o e
 item:=by
  intro X hP hw hK hc i pins s σ H E I hf st hg
  subst hP hw hK
  obtain ⟨xs,x,hq,hx⟩:=hg
  obtain ⟨its,rv,p,hz⟩:=I.tuple hq
  obtain ⟨u,hu,ru⟩:=rv.get hx
  obtain ⟨f0,f1,f2,f3,f4,f5⟩:=hf it (by simp)
  refine wpAny_pyNext_tuple_item st (show s.heap.IsTuple a its.toArray from p) (x:=u) (by simpa using hu) fun h' st' sb=>?_
  have I1:Inv X pins σ H { s with heap:=h' }:=I.turned (t':=s.toks) (fun b o hb e=>(sb.2 b hb).trans e) f0 f1 f3 f4 f5
  obtain ⟨o,e,c,d⟩:=id st'
  exact ⟨u,rfl,ZhS (s:={ s with heap:=h' }) e c d (by decide) ⟨x,H,I1,ru,⟨rfl,fun ys hy=>by rw [I.tuple_inj hy hq];exact hx⟩,st',fun b hb=>(hf b hb).1⟩⟩
 done:=by
  intro X hP hw hK hc i pins s σ H E I hf st hg
  subst hP hw hK
  obtain ⟨xs,hq,hx⟩:=hg
  obtain ⟨its,rv,p,hz⟩:=I.tuple hq
  obtain ⟨f0,f1,f2,f3,f4,f5⟩:=hf it (by simp)
  have hl:=rv.length
  exact wpAny_pyNext_tuple_end (I.ok.hd hc) st (show s.heap.IsTuple a its.toArray from p) (by simp;lia) fun h' eb=>⟨rfl,I.turned (t':=s.toks) (fun b o hb e=>eb b o hb e) f0 f1 f3 f4 f5⟩
 self:=fun _ _ _ _ _ st h=>wpAny_pyIter_tupleiter st h
theorem Zhd {P:Program} {w:World} {K:YFr} {tg:Expr} (it:Addr) (lo:Int) (n:Nat):Turn P w K tg (Itr lo n) [it] it (fun i h=>IsRangeIter h it (lo + (i:Nat) * 1) ((n:Int) - (i:Nat)) 1) where
 mem:=by simp
 obj := fun i h st b hb=>by
  have e:b=it:=by simpa using hb
  subst e
  exact ⟨_,st,fun v z=>by
   have z':Data.fields _=Data.cell v:=z
   cases z'⟩
 keep:=fun i h h' st k=>k it (by simp) _ st
 item:=by
  intro X hP hw hK hc i pins s σ H E I hf st hg
  subst hP hw hK
  obtain ⟨f0,f1,f2,f3,f4,f5⟩:=hf it (by simp)
  have W:=Walks.range (prog:=X.prog) (w:=X.w) (I.ok.hd hc) it lo 1 n
  refine W.item i s _ _ hg st fun v h' tk hv st' kk=>?_
  obtain ⟨t,rfl⟩:=hv
  have I1:Inv X pins σ H { s with heap:=h',toks:=tk }:=I.turned (fun b o hb e=>kk b o (by simpa using hb) e) f0 f1 f3 f4 f5
  refine ⟨_,rfl,ZhS (s:={ s with heap:=h',toks:=tk }) (n:="range_iterator") st' rfl rfl (by decide) ⟨.int (lo + i),H,I1,⟨t,?_⟩,⟨rfl,rfl⟩,st',fun b hb=>(hf b hb).1⟩⟩
  rw [Int.mul_one]
 done:=by
  intro X hP hw hK hc i pins s σ H E I hf st hg
  subst hP hw hK
  obtain ⟨f0,f1,f2,f3,f4,f5⟩:=hf it (by simp)
  exact Yct (I.ok.hd hc) st (by have:n<=i:=hg;lia) fun h' eb=>⟨rfl,I.turned (t':=s.toks) (fun b o hb e=>eb b o hb e) f0 f1 f3 f4 f5⟩
 self:=fun _ _ _ _ _ st h=>Ycu st h
section
variable {X:Cx} {tg:Expr}
theorem ZfZ {pins:List (Addr × Obj)} {σ:St} {H:Hp} {s:Shared} {R:It->Hp->Prop} {E:Value->Shared->Prop} {lo hi:Int} {t u v:Tok} {tk:Nat} (I:Inv X pins σ H s) (h1:-(2 ^ 62)<=lo) (h2:lo < 2 ^ 62) (h3:-(2 ^ 62)<=hi) (h4:hi < 2 ^ 62)
  (q:R (Itr lo (hi - lo).toNat) H):wpAny (model X.prog X.w) X.A (pyIter (.ref s.heap.objs.size)) (PIE X pins σ tg R) E { s with heap:=s.heap.push { cls:=.type "range",data:=.fields #[.int lo t,.int hi u,.int 1 v] },toks:=tk }:=by
 refine Yc8 (IsRange.new ..) (small_one h1 h2 h3 h4) ?_
 have I1:Inv X pins σ H { s with heap:=s.heap.push { cls:=.type "range",data:=.fields #[.int lo t,.int hi u,.int 1 v] },toks:=tk }:=I.kept fun b o e=>Yd _ e
 refine ⟨(s.heap.push { cls:=.type "range",data:=.fields #[.int lo t,.int hi u,.int 1 v] }).objs.size,[(s.heap.push { cls:=.type "range",data:=.fields #[.int lo t,.int hi u,.int 1 v] }).objs.size],_,_,H,rfl,
  I1.kept (t':=tk) fun b o e=>Yd _ e,Zhd _ lo (hi - lo).toNat,?_,fun b hb=>?_,q⟩
 ·have e1:lo + ((0:Nat):Int) * 1=lo:=by simp
  have e2:(((hi - lo).toNat:Nat):Int) - ((0:Nat):Int)=Builtin.Range.rangeSize lo hi 1:=by rw [rangeSize_one];split <;> lia
  show IsRangeIter _ _ (lo + ((0:Nat):Int) * 1) ((((hi - lo).toNat:Nat):Int) - ((0:Nat):Int)) 1
  rw [e1,e2]
  exact Yp _ rfl
 ·have e:b=(s.heap.push { cls:=.type "range",data:=.fields #[.int lo t,.int hi u,.int 1 v] }).objs.size:=by simpa using hb
  subst e
  exact I1.fpOk (Yh _) (I1.hok.fresh (Yh _))
noncomputable def tFor (wi:TI) (g:TG) (tb:TS):TS:=fun D σ H=>wi σ H fun J H1=>∃ W:Nat->Nat->St->Hp->Prop,(∃ m,W 0 m σ H1)/\∀ i m σ H,W i m σ H ->
 (J.stop i H/\D.nx σ H)\/(J.go i H/\∃ N:St->Hp->Prop,(∀ σ' H',N σ' H'->∃ m',m' < m/\W (i + 1) m' σ' H')/\∀ x H',J.yld i H x H'->g x σ H' fun σ2 H2=>tb { D with nx:=N,ct:=N,bk:=D.nx } σ2 H2)
noncomputable def ZeE (fp:List Addr) (h:Heap):List (Addr × Obj):=fp.filterMap fun b=>(h.get? b).map fun o=>(b,o)
theorem ZaX {fp:List Addr} {h:Heap} {b:Addr} {o:Obj} (hb:b∈fp) (e:h.get? b=some o):(b,o)∈ZeE fp h:=Yc9.mpr ⟨b,hb,by rw [e];rfl⟩
theorem Zh7 {fp:List Addr} {h:Heap} {p:Addr × Obj} (hp:p∈ZeE fp h):p.1∈fp/\h.get? p.1=some p.2:=by
 obtain ⟨b,hb,e⟩:=Yc9.mp hp
 cases q:h.get? b with
 | none=>rw [q] at e;cases e
 | some o =>
  rw [q] at e
  have e':(b,o)=p:=Y3 e
  subst e'
  exact ⟨hb,q⟩
theorem Inv.pinned {pins:List (Addr × Obj)} {σ:St} {H:Hp} {s:Shared} {fp:List Addr} (I:Inv X pins σ H s) (hf:∀ b∈fp,FpOk X pins H b) (ho:∀ b∈fp,∃ o,s.heap.get? b=some o/\∀ v,o.data≠.cell v):Inv X (pins++ZeE fp s.heap) σ H s :=
 I.pins_of fun p hp=>(Yaa.mp hp).elim (fun z=>I.pin p (Yw _ z)) fun z=>by
  obtain ⟨hb,e⟩:=Zh7 z
  obtain ⟨f0,f1,f2,_⟩:=hf p.1 hb
  obtain ⟨o,e',d⟩:=ho p.1 hb
  rw [e] at e';cases e'
  exact ⟨e,f0,f1,f2,d⟩
theorem Inv.unpinned {pins pl:List (Addr × Obj)} {σ:St} {H:Hp} {s:Shared} (I:Inv X (pins++pl) σ H s):Inv X pins σ H s:=I.pins_of fun p hp=>I.pin p (Yw _ (Ybh _ hp))
theorem ZcN {iter:Expr} {body:List Stmt} {wi:TI} {g:TG} {tb:TS} {pos:Pos} (hp:PassesOwn (model X.prog X.w) X.A X.env X.xe) (hc:X.calm=true) (hi:PI X tg iter wi) (hg:PG X tg g) (hb:PSs X body tb)
  (hs:∀ x,foldedSetIterable iter X.env x=pure x:=by intro _;rfl):PS X (.For tg iter body [] pos) (tFor wi g tb):=by
 intro pins s σ H D I h
 refine wpAny_For (thn (hi pins s σ H _ I h) fun v s1 h1=>thn h1 fun itv s2 h2=>?_) hs
 obtain ⟨it,fp,tn,J,H2,e,I2,T,st2,f2,W,⟨m0,w0⟩,turn⟩:=h2
 subst e
 have stat:∀ {H':Hp},(∀ b∈fp,H' b=none)->∀ b∈fp,FpOk X pins H' b:=fun hn b hb=>⟨hn b hb,(f2 b hb).2⟩
 refine codeAny_forLoop_any (fun n s'=>∃ i σ' H',Inv X pins σ' H' s'/\tn i s'.heap/\(∀ b∈fp,H' b=none)/\W i n σ' H') ?_ m0 ⟨0,σ,H2,I2,st2,fun b hb=>(f2 b hb).1,w0⟩
 rintro n s3 ⟨i,σ3,H3,I3,st3,fr3,w3⟩
 rcases turn i n σ3 H3 w3 with ⟨stop,qn⟩ | ⟨go,N,hN,step⟩
 ·refine YaO hp (thn (T.done X rfl rfl rfl hc i pins s3 σ3 H3 X.xe I3 (stat fr3) st3 stop) fun r s4 h_q=>?_)
  obtain ⟨hr,I4⟩:=h_q
  subst hr
  exact YbM ⟨σ3,H3,I4,qn⟩
 ·refine YaO hp (thn (T.item X rfl rfl rfl hc i pins s3 σ3 H3 X.xe I3 (stat fr3) st3 go) fun r s4 h_q=>?_)
  obtain ⟨u,hr,h4⟩:=h_q
  subst hr
  refine YaO hp (thn h4 fun _ s5 h_q=>?_)
  obtain ⟨x,H5,I5,r5,y5,st5,fr5⟩:=h_q
  have I5':=I5.pinned (stat fr5) (T.obj _ _ st5)
  refine YaO hp (thn (hg _ s5 σ3 H5 x u _ I5' r5 (step x H5 y5)) fun _ s6 h_q=>?_)
  obtain ⟨σ6,H6,I6,q6⟩:=h_q
  refine YaO hp (thn (hb _ s6 σ6 H6 _ I6 q6) fun f s7 q7=>?_)
  have again:∀ {σ7:St} {H7:Hp},Inv X (pins++ZeE fp s5.heap) σ7 H7 s7->N σ7 H7->∃ m,m < n/\∃ i σ' H',Inv X pins σ' H' s7/\tn i s7.heap/\(∀ b∈fp,H' b=none)/\W i m σ' H':=fun {σ7 H7} I7 n7=>by
   obtain ⟨m',hm,w7⟩:=hN σ7 H7 n7
   refine ⟨m',hm,i + 1,σ7,H7,I7.unpinned,T.keep _ _ _ st5 fun b hb o e=>(I7.pin (b,o) (Yw _ (Yw _ (ZaX hb e)))).1,fun b hb=>?_,w7⟩
   obtain ⟨o,e,d⟩:=T.obj _ _ st5 b hb
   exact (I7.pin (b,o) (Yw _ (Yw _ (ZaX hb e)))).2.1
  cases f with
  | next=>obtain ⟨σ7,H7,I7,n7⟩:=q7;exact again I7 n7
  | cont=>obtain ⟨σ7,H7,I7,n7⟩:=q7;exact again I7 n7
  | brk=>obtain ⟨σ7,H7,I7,q7⟩:=q7;exact ⟨σ7,H7,I7.unpinned,q7⟩
  | ret v=>obtain ⟨x7,σ7,H7,I7,r7,q7⟩:=q7;exact ⟨x7,σ7,H7,I7.unpinned,r7,q7⟩
end
noncomputable abbrev R2:=V->V->Hp->VK->Prop
noncomputable def OpR (X:Cx) (f:Value->Value->Sem Value) (r:R2):Prop :=
 ∀ (pins:List (Addr × Obj)) (s:Shared) (σ:St) (H:Hp) (x y:V) (v u:Value) (Q:VK),Inv X pins σ H s->RelV x v->RelV y u->r x y H Q ->
  wpAny (model X.prog X.w) X.A (f v u) (EP X pins σ Q) X.xe s
noncomputable def UnR (X:Cx) (f:Value->Sem Value) (r:V->Hp->VK->Prop):Prop :=
 ∀ (pins:List (Addr × Obj)) (s:Shared) (σ:St) (H:Hp) (x:V) (v:Value) (Q:VK),Inv X pins σ H s->RelV x v->r x H Q ->
  wpAny (model X.prog X.w) X.A (f v) (EP X pins σ Q) X.xe s
noncomputable def Zbf (X:Cx) (f:Value) (r:List V->Hp->VK->Prop):Prop :=
 ∀ (pins:List (Addr × Obj)) (s:Shared) (σ:St) (H:Hp) (xs:List V) (us:List Value) (Q:VK),Inv X pins σ H s->Vals xs us->r xs H Q ->
  wpAny (model X.prog X.w) X.A (call f us) (EP X pins σ Q) X.xe s
noncomputable def TruR (X:Cx) (r:V->Hp->(Bool->Hp->Prop)->Prop):Prop :=
 ∀ (pins:List (Addr × Obj)) (s:Shared) (σ:St) (H:Hp) (x:V) (v:Value) (Q:Bool->Hp->Prop),Inv X pins σ H s->RelV x v->r x H Q ->
  wpAny (model X.prog X.w) X.A (truthy v) (TP X pins σ Q) X.xe s
noncomputable def tOp (r:R2) (ta tb:TE):TE:=fun σ H Q=>ta σ H fun x H1=>tb σ H1 fun y H2=>r x y H2 Q
noncomputable def tUn (r:V->Hp->VK->Prop) (ta:TE):TE:=fun σ H Q=>ta σ H fun x H1=>r x H1 Q
noncomputable def rI (C:Int->Int->Prop) (g:Int->Int->V):R2:=fun x y H Q=>∃ i j,x=.int i/\y=.int j/\C i j/\Q (g i j) H
noncomputable def rI0 (g:Int->Int->V):R2:=fun x y H Q=>∃ i j,x=.int i/\y=.int j/\Q (g i j) H
noncomputable def rU (g:Int->V):V->Hp->VK->Prop:=fun x H Q=>∃ i,x=.int i/\Q (g i) H
section
variable {X:Cx} {a b c:Expr} {ta tb tc:TE} {pos:Pos}
theorem binT (ha:PE X a ta) (hb:PE X b tb) {pins:List (Addr × Obj)} {s:Shared} {σ:St} {H:Hp} {R:V->V->Hp->Prop} (I:Inv X pins σ H s)
  (h:ta σ H fun x H1=>tb σ H1 fun y H2=>R x y H2) {Q:Value->Shared->Prop} {f:Value->Value->Sem Value}
  (hf:∀ v u s2 x y H2,Inv X pins σ H2 s2->RelV x v->RelV y u->R x y H2->wpAny (model X.prog X.w) X.A (f v u) Q X.xe s2) :
  wpAny (model X.prog X.w) X.A (eval a X.env) (fun v s₁=>wpAny (model X.prog X.w) X.A (eval b X.env) (fun u s₂=>wpAny (model X.prog X.w) X.A (f v u) Q X.xe s₂) X.xe s₁) X.xe s:=by
 refine thn (ha pins s σ H _ I h) fun v s1 h_q=>?_
 obtain ⟨x,H1,I1,r1,q1⟩:=h_q
 refine thn (hb pins s1 σ H1 _ I1 q1) fun u s2 h_q=>?_
 obtain ⟨y,H2,I2,r2,q2⟩:=h_q
 exact hf v u s2 x y H2 I2 r1 r2 q2
theorem ZR {op:Operator} {r:R2} (ho:OpR X (binaryOp op) r) (ha:PE X a ta) (hb:PE X b tb):PE X (.BinOp a op b pos) (tOp r ta tb):=by
 intro pins s σ H Q I h
 exact wpAny_BinOp (binT ha hb I h fun v u s2 x y H2 I2 rx ry q=>ho pins s2 σ H2 x y v u Q I2 rx ry q)
theorem pe_un {op:UnaryOp} {r:V->Hp->VK->Prop} (ho:UnR X (unaryOp op) r) (ha:PE X a ta):PE X (.UnaryOp op a pos) (tUn r ta):=by
 intro pins s σ H Q I h
 exact UnaryOp_ (thn (ha pins s σ H _ I h) fun v s1 ⟨x,H1,I1,r1,q1⟩=>ho pins s1 σ H1 x v Q I1 r1 q1)
theorem opI {f:Value->Value->Sem Value} {C:Int->Int->Prop} {g:Int->Int->Int}
  (rule:∀ (i j:Int) (t u:Tok) (s:Shared) (Q:Value->Shared->Prop) (E:Value->Shared->Prop),C i j->Q (.int (g i j) s.toks) { s with toks:=s.toks + 1 }->wpAny (model X.prog X.w) X.A (f (.int i t) (.int j u)) Q E s) :
  OpR X f (rI C fun i j=>.int (g i j)):=by
 intro pins s σ H x y v u Q I rx ry h
 obtain ⟨i,j,rfl,rfl,hc,q⟩:=h
 obtain ⟨t,rfl⟩:=rx
 obtain ⟨t',rfl⟩:=ry
 exact rule i j t t' s _ _ hc ⟨.int (g i j),H,I.tok _,⟨_,rfl⟩,q⟩
theorem opI0 {f:Value->Value->Sem Value} {g:Int->Int->Int}
  (rule:∀ (i j:Int) (t u:Tok) (s:Shared) (Q:Value->Shared->Prop) (E:Value->Shared->Prop),Q (.int (g i j) s.toks) { s with toks:=s.toks + 1 }->wpAny (model X.prog X.w) X.A (f (.int i t) (.int j u)) Q E s) :
  OpR X f (rI0 fun i j=>.int (g i j)):=by
 intro pins s σ H x y v u Q I rx ry h
 obtain ⟨i,j,rfl,rfl,q⟩:=h
 obtain ⟨t,rfl⟩:=rx
 obtain ⟨t',rfl⟩:=ry
 exact rule i j t t' s _ _ ⟨.int (g i j),H,I.tok _,⟨_,rfl⟩,q⟩
theorem opB0 {f:Value->Value->Sem Value} {g:Int->Int->Bool}
  (rule:∀ (i j:Int) (t u:Tok) (s:Shared) (Q:Value->Shared->Prop) (E:Value->Shared->Prop),Q (.bool (g i j)) s->wpAny (model X.prog X.w) X.A (f (.int i t) (.int j u)) Q E s) :
  OpR X f (rI0 fun i j=>.bl (g i j)):=by
 intro pins s σ H x y v u Q I rx ry h
 obtain ⟨i,j,rfl,rfl,q⟩:=h
 obtain ⟨t,rfl⟩:=rx
 obtain ⟨t',rfl⟩:=ry
 exact rule i j t t' s _ _ ⟨.bl (g i j),H,I,rfl,q⟩
noncomputable def CDiv (i j:Int):Prop:=0 < j/\j < 1073741824
noncomputable def CPow (i j:Int):Prop:=0<=j/\j<=1000000/\i.natAbs < 2 ^ 64
noncomputable def CMul (i j:Int):Prop:=(-(2 ^ 64) < i/\i < 2 ^ 64)\/(-(2 ^ 64) < j/\j < 2 ^ 64)
theorem CMul.ok {i j:Int} (h:CMul i j):IntMulOk i j:=by
 rcases h with ⟨h1,h2⟩ | ⟨h1,h2⟩
 ·exact .of_left (intBits_le_64 h1 h2)
 ·exact .of_right (intBits_le_64 h1 h2)
theorem op_add:OpR X (binaryOp .Add) (rI0 fun i j=>.int (i + j)):=opI0 fun _ _ _ _ _ _ _ q=>add_int q
theorem op_sub:OpR X (binaryOp .Sub) (rI0 fun i j=>.int (i - j)):=opI0 fun _ _ _ _ _ _ _ q=>sub_int q
theorem op_fdiv:OpR X (binaryOp .FloorDiv) (rI CDiv fun i j=>.int (i / j)):=opI fun i j _ _ _ _ _ hc q=>by
 have h1:(0:Int) < j:=hc.1
 have h2:j < 1073741824:=hc.2
 exact floordiv_int (by lia) (by rw [Int.fdiv_eq_ediv_of_nonneg i (by lia)];exact q) (.inl (Ycv (by lia)))
theorem op_mod:OpR X (binaryOp .Mod) (rI (fun _ j=>0 < j) fun i j=>.int (i % j)):=opI fun i j _ _ _ _ _ hc q=>by
 have h1:(0:Int) < j:=hc
 exact mod_int' (by lia) (by rw [Int.fmod_eq_emod_of_nonneg i (by lia)];exact q)
theorem op_pow:OpR X (binaryOp .Pow) (rI CPow fun i j=>.int (i ^ j.toNat)):=opI fun _ _ _ _ _ _ _ hc q=>pow_int_small hc.1 hc.2.1 hc.2.2 q
theorem unI {f:Value->Sem Value} {g:Int->Int}
  (rule:∀ (i:Int) (t:Tok) (s:Shared) (Q:Value->Shared->Prop) (E:Value->Shared->Prop),Q (.int (g i) s.toks) { s with toks:=s.toks + 1 }->wpAny (model X.prog X.w) X.A (f (.int i t)) Q E s) :
  UnR X f (rU fun i=>.int (g i)):=by
 intro pins s σ H x v Q I rx h
 obtain ⟨i,rfl,q⟩:=h
 obtain ⟨t,rfl⟩:=rx
 exact rule i t s _ _ ⟨.int (g i),H,I.tok _,⟨_,rfl⟩,q⟩
theorem un_neg:UnR X (unaryOp .USub) (rU fun i=>.int (-i)):=unI fun _ _ _ _ _ q=>neg_int q
end
noncomputable def scal:V->V->Bool
 | .non,.non=>true | .non,.int _=>true | .int _,.non=>true | .non,.bl _=>true | .bl _,.non=>true | .non,.str _=>true | .str _,.non=>true
 | .int _,.int _=>true | .bl _,.bl _=>true | .str _,.str _=>true | .byt _,.byt _=>true
 | .int _,.str _=>true | .str _,.int _=>true | .bl _,.str _=>true | .str _,.bl _=>true
 | _,_=>false
noncomputable def rEq:R2:=fun x y H Q=>scal x y=true/\Q (.bl (decide (x=y))) H
noncomputable def rNe:R2:=fun x y H Q=>scal x y=true/\Q (.bl (!decide (x=y))) H
theorem Zjm {i j:Int}:decide (V.int i=V.int j)=(i == j):=by
 rw [Ybl]
 simp
theorem dec_bl {i j:Bool}:decide (V.bl i=V.bl j)=(i == j):=by
 rw [Ybl]
 simp
theorem Zh8 {i j:Str}:decide (V.str i=V.str j)=(i == j):=by
 rw [Ybl]
 simp
theorem Zjo {i j:Array UInt8}:decide (V.byt i=V.byt j)=(i.toList == j.toList):=by
 rw [Ybl]
 cases i
 cases j
 simp
section
variable {X:Cx} {a b c:Expr} {ta tb tc:TE} {pos:Pos}
theorem Zae {pins:List (Addr × Obj)} {σ:St} {H:Hp} {s:Shared} {Q:VK} {k k':Bool} (I:Inv X pins σ H s) (q:Q (.bl k) H) (e:k=k'):EP X pins σ Q (.bool k') s:=by
 subst e
 exact ⟨.bl k,H,I,rfl,q⟩
theorem op_eq:OpR X (compareOp .Eq) rEq:=by
 intro pins s σ H x y v u Q I rx ry h
 obtain ⟨hs,q⟩:=h
 cases x with
 | non =>
  cases rx
  cases y with
  | non=>cases ry;exact PySem.EqNone.eq_none_none (Zae I q (by simp))
  | bl j=>cases ry;exact PySem.EqNone.eq_none_bool (Zae I q (by simp))
  | int j=>obtain ⟨t',rfl⟩:=ry;exact PySem.EqNone.eq_none_int (Zae I q (by simp))
  | str j=>obtain ⟨t',rfl⟩:=ry;exact PySem.EqNone.eq_none_str (Zae I q (by simp))
  | _=>exact absurd (show false=true from hs) Yr
 | bl i =>
  cases rx
  cases y with
  | non=>cases ry;exact PySem.EqNone.eq_bool_none (Zae I q (by simp))
  | bl j=>cases ry;exact eq_bool (Zae I q dec_bl)
  | str j=>obtain ⟨t',rfl⟩:=ry;exact PySem.EqMixed.eq_bool_str (Zae I q (by simp))
  | _=>exact absurd (show false=true from hs) Yr
 | int i =>
  obtain ⟨t,rfl⟩:=rx
  cases y with
  | non=>cases ry;exact PySem.EqNone.eq_int_none (Zae I q (by simp))
  | int j=>obtain ⟨t',rfl⟩:=ry;exact eq_int (Zae I q Zjm)
  | str j=>obtain ⟨t',rfl⟩:=ry;exact PySem.EqMixed.eq_int_str (Zae I q (by simp))
  | _=>exact absurd (show false=true from hs) Yr
 | str i =>
  obtain ⟨t,rfl⟩:=rx
  cases y with
  | non=>cases ry;exact PySem.EqNone.eq_str_none (Zae I q (by simp))
  | bl j=>cases ry;exact PySem.EqMixed.eq_str_bool (Zae I q (by simp))
  | int j=>obtain ⟨t',rfl⟩:=ry;exact PySem.EqMixed.eq_str_int (Zae I q (by simp))
  | str j=>obtain ⟨t',rfl⟩:=ry;exact eq_str (Zae I q Zh8)
  | _=>exact absurd (show false=true from hs) Yr
 | byt i =>
  obtain ⟨t,rfl⟩:=rx
  cases y with
  | byt j=>obtain ⟨t',rfl⟩:=ry;exact PySem.W.eq_bytes (Zae I q Zjo)
  | _=>exact absurd (show false=true from hs) Yr
 | _=>cases y <;> exact absurd (show false=true from hs) Yr
theorem op_ne:OpR X (compareOp .NotEq) rNe:=by
 intro pins s σ H x y v u Q I rx ry h
 obtain ⟨hs,q⟩:=h
 cases x with
 | non =>
  cases rx
  cases y with
  | non=>cases ry;exact PySem.EqNone.ne_none_none (Zae I q (by simp))
  | bl j=>cases ry;exact PySem.EqNone.ne_none_bool (Zae I q (by simp))
  | int j=>obtain ⟨t',rfl⟩:=ry;exact PySem.EqNone.ne_none_int (Zae I q (by simp))
  | str j=>obtain ⟨t',rfl⟩:=ry;exact PySem.EqNone.ne_none_str (Zae I q (by simp))
  | _=>exact absurd (show false=true from hs) Yr
 | bl i =>
  cases rx
  cases y with
  | non=>cases ry;exact PySem.EqNone.ne_bool_none (Zae I q (by simp))
  | bl j=>cases ry;exact ne_bool (Zae I q (congrArg not dec_bl))
  | str j=>obtain ⟨t',rfl⟩:=ry;exact PySem.EqMixed.ne_bool_str (Zae I q (by simp))
  | _=>exact absurd (show false=true from hs) Yr
 | int i =>
  obtain ⟨t,rfl⟩:=rx
  cases y with
  | non=>cases ry;exact PySem.EqNone.ne_int_none (Zae I q (by simp))
  | int j=>obtain ⟨t',rfl⟩:=ry;exact ne_int (Zae I q (congrArg not Zjm))
  | str j=>obtain ⟨t',rfl⟩:=ry;exact PySem.EqMixed.ne_int_str (Zae I q (by simp))
  | _=>exact absurd (show false=true from hs) Yr
 | str i =>
  obtain ⟨t,rfl⟩:=rx
  cases y with
  | non=>cases ry;exact PySem.EqNone.ne_str_none (Zae I q (by simp))
  | bl j=>cases ry;exact PySem.EqMixed.ne_str_bool (Zae I q (by simp))
  | int j=>obtain ⟨t',rfl⟩:=ry;exact PySem.EqMixed.ne_str_int (Zae I q (by simp))
  | str j=>obtain ⟨t',rfl⟩:=ry;exact ne_str (Zae I q (congrArg not Zh8))
  | _=>exact absurd (show false=true from hs) Yr
 | byt i =>
  obtain ⟨t,rfl⟩:=rx
  cases y with
  | byt j=>obtain ⟨t',rfl⟩:=ry;exact PySem.W.ne_bytes (Zae I q (congrArg not Zjo))
  | _=>exact absurd (show false=true from hs) Yr
 | _=>cases y <;> exact absurd (show false=true from hs) Yr
theorem op_lt:OpR X (compareOp .Lt) (rI0 fun i j=>.bl (decide (i < j))):=opB0 fun _ _ _ _ _ _ _ q=>lt_int q
theorem op_le:OpR X (compareOp .LtE) (rI0 fun i j=>.bl (decide (i<=j))):=opB0 fun _ _ _ _ _ _ _ q=>le_int q
theorem op_gt:OpR X (compareOp .Gt) (rI0 fun i j=>.bl (decide (j < i))):=opB0 fun _ _ _ _ _ _ _ q=>gt_int q
theorem op_ge:OpR X (compareOp .GtE) (rI0 fun i j=>.bl (decide (j<=i))):=opB0 fun _ _ _ _ _ _ _ q=>ge_int q
theorem ZiO:OpR X (compareOp .Lt) (fun x y H Q=>∃ i j,x=.str i/\y=.str j/\Q (.bl (decide (i.cps.toList < j.cps.toList))) H):=by
 intro pins s σ H x y v u Q I rx ry h
 obtain ⟨i,j,rfl,rfl,q⟩:=h
 obtain ⟨t,rfl⟩:=rx
 obtain ⟨t',rfl⟩:=ry
 exact lt_str (Zae I q rfl)
theorem Zhx:OpR X (compareOp .In) (fun x y H Q=>∃ i j,x=.str i/\y=.str j/\Q (.bl (!(Builtin.Str.occurrences j i 0 j.length 1).isEmpty)) H):=by
 intro pins s σ H x y v u Q I rx ry h
 obtain ⟨i,j,rfl,rfl,q⟩:=h
 obtain ⟨t,rfl⟩:=rx
 obtain ⟨t',rfl⟩:=ry
 exact in_str (Zae I q rfl)
theorem Zis:OpR X (compareOp .Is) (fun x y H Q=>y=.non/\Q (.bl (decide (x=.non))) H):=by
 intro pins s σ H x y v u Q I rx ry h
 obtain ⟨rfl,q⟩:=h
 cases ry
 refine is_none_gen (Zae I q ?_)
 cases x <;> first
  | (cases rx;rfl)
  | (obtain ⟨t,rfl⟩:=rx;rfl)
theorem OpR.or {f:Value->Value->Sem Value} {r r':R2} (h:OpR X f r) (h':OpR X f r'):OpR X f (fun x y H Q=>r x y H Q\/r' x y H Q):=by
 intro pins s σ H x y v u Q I rx ry q
 rcases q with q | q
 ·exact h pins s σ H x y v u Q I rx ry q
 ·exact h' pins s σ H x y v u Q I rx ry q
theorem ZS (b:Expr) {op:CmpOp} (h:op≠.In:=by decide) (h2:op≠.NotIn:=by decide):behindInMarks op b=false:=by
 have e1:(op == CmpOp.In)=false:=by cases op <;> first | rfl | exact absurd rfl h
 have e2:(op == CmpOp.NotIn)=false:=by cases op <;> first | rfl | exact absurd rfl h2
 cases b <;> simp [behindInMarks,e1,e2]
theorem Zjl {op:CmpOp} {r:R2} (ho:OpR X (compareOp op) r) (ha:PE X a ta) (hb:PE X b tb) (hm:behindInMarks op b=false):PE X (.Compare a [op] [b] pos) (tOp r ta tb):=by
 intro pins s σ H Q I h
 exact wpAny_Compare1 (binT ha hb I h fun v u s2 x y H2 I2 rx ry q=>ho pins s2 σ H2 x y v u Q I2 rx ry q) hm
noncomputable def tTest (t:TE):TT:=fun σ H Q=>t σ H fun x H'=>∃ k,x=.bl k/\Q k H'
theorem Zq {op:CmpOp} {r:R2} (ho:OpR X (compareOp op) r) (ha:PE X a ta) (hb:PE X b tb) (hm:behindInMarks op b=false):PT X (.Compare a [op] [b] pos) (tTest (tOp r ta tb)):=by
 intro pins s σ H Q I h
 refine wpAny_isTrue_Compare1 (thn (ha pins s σ H _ I h) fun v s1 ⟨x,H1,I1,r1,q1⟩=>thn (hb pins s1 σ H1 _ I1 q1) fun u s2 ⟨y,H2,I2,r2,q2⟩ =>
  thn (ho pins s2 σ H2 x y v u _ I2 r1 r2 q2) fun c s3 ⟨z,H3,I3,r3,k,e,q3⟩=>?_) hm
 subst e
 cases r3
 exact Yap ⟨H3,I3,q3⟩
noncomputable def tChain (r r':R2) (ta tb tc:TE):TE:=fun σ H Q=>ta σ H fun x H1=>tb σ H1 fun y H2=>r x y H2 fun z H3=>∃ k,z=.bl k /\
 (if k=true then tc σ H3 fun w' H4=>r' y w' H4 Q else Q (.bl false) H3)
theorem ZfP {op op':CmpOp} {r r':R2} (ho:OpR X (compareOp op) r) (ho':OpR X (compareOp op') r') (ha:PE X a ta) (hb:PE X b tb) (hc:PE X c tc)
  (hm:lastMarks [op,op'] [b,c]=false:=by with_unfolding_all rfl):PT X (.Compare a [op,op'] [b,c] pos) (tTest (tChain r r' ta tb tc)):=by
 intro pins s σ H Q I h
 refine isTrue_chain (thn (ha pins s σ H _ I h) fun v s1 ⟨x,H1,I1,r1,q1⟩=>test_link (thn (hb pins s1 σ H1 _ I1 q1) fun u s2 ⟨y,H2,I2,r2,q2⟩ =>
  thn (ho pins s2 σ H2 x y v u _ I2 r1 r2 q2) fun d s3 ⟨z,H3,I3,r3,k,e,q3⟩=>?_)) hm
 subst e
 cases r3
 refine Yap ?_
 cases k with
 | false =>
  obtain ⟨k',e',q'⟩:=q3
  cases e'
  exact ite_ff ⟨H3,I3,q'⟩
 | true =>
  refine ite_tt (test_last (thn (hc pins s3 σ H3 _ I3 q3) fun w' s4 ⟨z',H4,I4,r4,q4⟩=>thn (ho' pins s4 σ H4 y z' u w' _ I4 r2 r4 q4) fun d' s5 h_q=>?_))
  obtain ⟨z2,H5,I5,r5,k2,e2,q5⟩:=h_q
  subst e2
  cases r5
  exact Yap ⟨H5,I5,q5⟩
noncomputable def TruV (K:YFr) (x:V) (H:Hp) (k:Bool):Prop :=
 match x with
 | .non=>k=false
 | .bl b=>k=b
 | .int i=>k=(i != 0)
 | .str y=>y.length<=sizeLine/\k=((y.length:Int) != 0)
 | .byt y=>y.size<=sizeLine/\k=((y.size:Int) != 0)
 | .ref p=>(∃ xs,SqL K H p xs/\k=!xs.isEmpty)\/(∃ xs,SqT K H p xs/\k=!xs.isEmpty)\/∃ kvs,H p=some (.dK kvs)/\k=!kvs.isEmpty
 | _=>False
theorem ZgW {κ:Type} {kvs:List (κ × V)} {vs:List (κ × Value)} (r:KV kvs vs):(!vs.isEmpty)=!kvs.isEmpty:=by
 cases r <;> rfl
theorem Zdz {xs:List V} {its:List Value} (r:Vals xs its):(!its.toArray.isEmpty)=!xs.isEmpty:=by
 cases r <;> simp
theorem Zdp:(sizeLine:Nat) < 2 ^ 63:=by rw [YaC];decide
theorem tru_ok:TruR X (fun x H Q=>∃ k,TruV X.K x H k/\Q k H):=by
 intro pins s σ H x v Q I rx h
 obtain ⟨k,e,q⟩:=h
 have hl:=Zdp
 have hs:sizeLine=16777216:=YaC
 cases x with
 | non =>
  cases rx
  have e':k=false:=e
  subst e'
  exact truthy_none ⟨H,I,q⟩
 | bl b =>
  cases rx
  have e':k=b:=e
  subst e'
  exact Yap ⟨H,I,q⟩
 | int i =>
  obtain ⟨t,rfl⟩:=rx
  have e':k=(i != 0):=e
  subst e'
  exact PySem.P.truthy_int ⟨H,I,q⟩
 | str y =>
  obtain ⟨t,rfl⟩:=rx
  obtain ⟨hy,e'⟩:y.length<=sizeLine/\k=((y.length:Int) != 0):=e
  subst e'
  exact PySem.P.truthy_str (by lia) ⟨H,I.tok _,q⟩
 | byt y =>
  obtain ⟨t,rfl⟩:=rx
  obtain ⟨hy,e'⟩:y.size<=sizeLine/\k=((y.size:Int) != 0):=e
  subst e'
  exact PySem.W.truthy_bytes (by lia) ⟨H,I.tok _,q⟩
 | ref p =>
  cases rx
  have e':(∃ xs,SqL X.K H p xs/\k=!xs.isEmpty)\/(∃ xs,SqT X.K H p xs/\k=!xs.isEmpty)\/∃ kvs,H p=some (.dK kvs)/\k=!kvs.isEmpty:=e
  rcases e' with ⟨xs,hx,e'⟩ | ⟨xs,hx,e'⟩ | ⟨kvs,hx,e'⟩
  ·subst e'
   obtain ⟨its,r,pl,hz⟩:=I.list hx
   have hlen:=r.length
   exact wpAny_truthy_list pl.isList (by simp only [Yk];lia) ⟨H,I.tok _,by rw [Zdz r];exact q⟩
  ·subst e'
   obtain ⟨its,r,pl,hz⟩:=I.tuple hx
   have hlen:=r.length
   exact truthy_tuple pl (by simp only [Yk];lia) ⟨H,I.tok _,by rw [Zdz r];exact q⟩
  ·subst e'
   obtain ⟨hz,hS,vs,r,m⟩:kvs.length<=sizeLine/\(p == sysModules)=false/\∃ vs,KV kvs vs/\s.heap.DictOf (ZfJ X.prog X.w) p vs:=I.hok p _ hx
   have hlen:kvs.length=vs.length:=Paired.length r
   exact wpAny_truthy_dict hS m (by lia) ⟨H,I.tok _,by rw [ZgW r];exact q⟩
 | _=>exact (show False from e).elim
theorem Zgv (ha:PE X a ta) (he:∀ whole,isTrue a X.env whole=(do let v <- whole;standAt a.pos;holding [v] (truthy v))) :
  PT X a (fun σ H Q=>ta σ H fun x H'=>∃ k,TruV X.K x H' k/\Q k H'):=by
 intro pins s σ H Q I h
 exact isTrue_plain (thn (ha pins s σ H _ I h) fun v s1 ⟨x,H1,I1,r1,q1⟩=>tru_ok pins s1 σ H1 x v Q I1 r1 q1) (he _)
theorem ZgX:OpR X (binaryOp .Add) (fun x y H Q=>∃ i j,x=.str i/\y=.str j/\i.length + j.length<=sizeLine/\Q (.str (i++j)) H):=by
 intro pins s σ H x y v u Q I rx ry h
 obtain ⟨i,j,rfl,rfl,hz,q⟩:=h
 obtain ⟨t,rfl⟩:=rx
 obtain ⟨t',rfl⟩:=ry
 exact add_str (fun t' tk=>⟨.str (i++j),H,I.tok _,⟨_,rfl⟩,q⟩) hz
theorem vals1 {x:V} {us:List Value} (r:Vals [x] us):∃ u,us=[u]/\RelV x u:=by
 cases r with
 | cons r1 r2=>cases r2;exact ⟨_,rfl,r1⟩
theorem vals2 {x y:V} {us:List Value} (r:Vals [x,y] us):∃ u w',us=[u,w']/\RelV x u/\RelV y w':=by
 cases r with
 | cons r1 r2 =>
  cases r2 with
  | cons r3 r4=>cases r4;exact ⟨_,_,rfl,r1,r3⟩
theorem ZiN (hc:X.calm=true):Zbf X (.builtin "min") (fun xs H Q=>∃ i j,xs=[.int i,.int j]/\Q (.int (if j < i then j else i)) H):=by
 intro pins s σ H xs us Q I r h
 obtain ⟨i,j,rfl,q⟩:=h
 obtain ⟨u,w',rfl,⟨t,rfl⟩,⟨t',rfl⟩⟩:=vals2 r
 refine min_two_ints (I.ok.hd hc) fun h' tk k=>⟨_,H,I.kept k,?_,q⟩
 by_cases hj:j < i
 ·rw [if_pos hj,if_pos hj];exact ⟨_,rfl⟩
 ·rw [if_neg hj,if_neg hj];exact ⟨_,rfl⟩
end
structure ObjM (h:Heap) (x dx C:Addr) (mA:Str->Option Value):Prop where
 obj:h.get? x=some (PySem.W.instObj C dx)
 ns:h.Ns1 dx mA
 ne:dx≠x
theorem Zi5 {h:Heap} {dx:Addr} {mA:Str->Option Value} (n:h.Ns1 dx mA):∃ od,h.get? dx=some od/\∀ name,PySem.W.lookIn name od=some (mA name):=by
 obtain ⟨o,es,ep,ho,hd,hk,_,hm⟩:=n
 refine ⟨o,ho,fun name=>?_⟩
 have e:=hm name
 unfold nsFind findBy at e
 rw [<- Array.find?_toList] at e
 unfold PySem.W.lookIn
 rw [hd]
 dsimp only
 split
 ·rename_i y q
  rw [q] at e
  exact congrArg some e
 ·rename_i q
  rw [q] at e
  have a:es.toList.any (·.refKey)=false:=by
   rw [List.any_eq_false]
   intro y hy
   obtain ⟨z,t,hkey⟩:=hk y (Array.mem_toList_iff.mp hy)
   simp [DictEntry.refKey,hkey]
  have a':¬ es.toList.any (·.refKey)=true:=by rw [a];exact Yr
  rw [if_neg a']
  exact congrArg some e
theorem ObjM.look {h:Heap} {x dx C:Addr} {mA:Str->Option Value} (I:ObjM h x dx C mA):∃ od,PySem.W.InstAt h x (PySem.W.instObj C dx) C (some od)/\∀ name,PySem.W.lookIn name od=some (mA name) :=
 let ⟨od,ho,hl⟩:=Zi5 I.ns
 ⟨od,⟨I.obj,rfl,rfl,ho⟩,hl⟩
section
variable {P:Program} {w:World} {H H':Hp} {h h':Heap} {a C dx:Addr} {fs fs':List (Str × V)}
theorem ins_get (hok:HOk P w H h) (e:H a=some (.ins C dx fs)):∃ mA,ObjM h a dx C mA/\(∀ f,RelO (fs.lookup f) (mA f))/\PySem.Within mA (fs.map (·.1))/\fs.length<=1000/\H dx=some (.own a):=by
 obtain ⟨d,z,ne,ob,mA,n,r,q⟩:=(show Zbt P w H h a (.ins C dx fs) from hok a _ e)
 exact ⟨mA,⟨ob,n,ne⟩,r,q,z,d⟩
end
structure Cls (K:YFr) (C:Addr):Prop where
 pg:PySem.W.plainGet K C Str.empty=true
 hd:PySem.W.hasDictIn K C=true
 po:PySem.W.plainOver K C=true
 sa:PySem.W.findIn K (.ref C) "__setattr__"=some (some (.builtin "object.__setattr__"))
theorem Cls.get {K:YFr} {C:Addr} (c:Cls K C) (f:Str):PySem.W.plainGet K C f=true:=c.pg
section
variable {X:Cx} {pins:List (Addr × Obj)} {σ:St} {H:Hp} {s:Shared} {A:Around} {E:Value->Shared->Prop} {Q:Value->Shared->Prop} {c:Value} {b:Bool}
inductive TyOf (K:YFr) (H:Hp):V->Value->Prop where
 | non:TyOf K H .non (.type "NoneType")
 | bl (x:Bool):TyOf K H (.bl x) (.type "bool")
 | int (i:Int):TyOf K H (.int i) (.type "int")
 | str (x:Str):TyOf K H (.str x) (.type "str")
 | flt (x:UInt64):TyOf K H (.flt x) (.type "float")
 | lst {a:Addr} {xs:List V} (e:H a=some (.lst xs)):TyOf K H (.ref a) (.type "list")
 | frz {a:Addr} {o:Obj} {xs:List V} (e:H a=some (.frz o (.lst xs))):TyOf K H (.ref a) (.type "list")
 | tup {a:Addr} {xs:List V} (e:H a=some (.tup xs)):TyOf K H (.ref a) (.type "tuple")
 | dK {a:Addr} {kvs:List (Key × V)} (e:H a=some (.dK kvs)):TyOf K H (.ref a) (.type "dict")
 | dT {a:Addr} {kvs:List (List Key × V)} (e:H a=some (.dT kvs)):TyOf K H (.ref a) (.type "dict")
 | ins {a C dx:Addr} {fs:List (Str × V)} (e:H a=some (.ins C dx fs)) (cl:Cls K C) (ha:PySem.W.findIn K (.ref C) "__class__"=some (some (.builtin "object.__class__")))
   (hn:PySem.W.specialIn K (.builtin "object.__class__") "__get__"=some (some (.builtin "getset_descriptor.__get__"))) (htk:PySem.W.takesIn K (.builtin "object.__class__")=some true)
   (hm:PySem.W.mroIn K C (.type "object")=some true):TyOf K H (.ref a) (.ref C)
theorem Zjq {x:V} {u t:Value} (I:Inv X pins σ H s) (rx:RelV x u) (ty:TyOf X.K H x t) (e:PySem.W.kitOne X.K t c=some b) (h:∀ tk,Q (.bool b) { s with toks:=tk }) :
  wpAny (model X.prog X.w) A (call (.builtin "isinstance") [u,c]) Q E s:=by
 cases ty with
 | non=>cases (show u=Value.none from rx);exact Yab PySem.W.kitx_none I.kIn True.intro e (fun z=>nomatch z) h
 | bl y=>cases (show u=Value.bool y from rx);exact Yab PySem.W.kitx_bool I.kIn True.intro e (fun z=>nomatch z) h
 | int i=>obtain ⟨t,q⟩:=(show ∃ t,u=Value.int i t from rx);cases q;exact Yab PySem.W.kitx_int I.kIn True.intro e (fun z=>nomatch z) h
 | str y=>obtain ⟨t,q⟩:=(show ∃ t,u=Value.str y t from rx);cases q;exact Yab PySem.W.kitx_str I.kIn True.intro e (fun z=>nomatch z) h
 | flt y=>obtain ⟨t,q⟩:=(show ∃ t,u=Value.float y t from rx);cases q;exact Yab PySem.W.kitx_float I.kIn True.intro e (fun z=>nomatch z) h
 | @lst a xs ea =>
  cases (show u=Value.ref a from rx)
  obtain ⟨_,_,n,_,h1⟩:=(show Zbt X.prog X.w H s.heap a (.lst xs) from I.hok a _ ea)
  exact Yab Yb8 I.kIn ⟨_,h1,rfl⟩ e (fun z=>nomatch z) h
 | @frz a ob xs ea =>
  cases (show u=Value.ref a from rx)
  obtain ⟨_,_,_,n,_,h1⟩:=(show Zbt X.prog X.w H s.heap a (.frz ob (.lst xs)) from I.hok a _ ea)
  exact Yab Yb8 I.kIn ⟨_,h1,rfl⟩ e (fun z=>nomatch z) h
 | @tup a xs ea =>
  cases (show u=Value.ref a from rx)
  obtain ⟨_,_,_,p⟩:=(show Zbt X.prog X.w H s.heap a (.tup xs) from I.hok a _ ea)
  obtain ⟨o,h1,h2,_⟩:=p
  exact Yab Yda I.kIn ⟨o,h1,h2⟩ e (fun z=>nomatch z) h
 | @dK a kvs ea =>
  cases (show u=Value.ref a from rx)
  obtain ⟨_,_,vs,_,p⟩:=(show Zbt X.prog X.w H s.heap a (.dK kvs) from I.hok a _ ea)
  obtain ⟨o,es,ep,h1,h2,_⟩:=p
  exact Yab Ydp I.kIn ⟨o,h1,h2.1⟩ e (fun z=>nomatch z) h
 | @dT a kvs ea =>
  cases (show u=Value.ref a from rx)
  obtain ⟨_,_,xs,_,o,es,ep,h1,h2,_⟩:=(show Zbt X.prog X.w H s.heap a (.dT kvs) from I.hok a _ ea)
  exact Yab Ydp I.kIn ⟨o,h1,h2.1⟩ e (fun z=>nomatch z) h
 | @ins a C dx fs ea cl ha hn htk hm =>
  cases (show u=Value.ref a from rx)
  obtain ⟨mA,O,_⟩:=ins_get I.hok ea
  obtain ⟨od,J,_⟩:=O.look
  exact Yab (PySem.W.kitx_own (cl.get _) cl.hd ha hn htk hm) I.kIn J e (fun z=>nomatch z) h
end
structure Room (k:Nat) (A:Around):Prop where
 hd:A.handled=none
 dp:A.depth + 3 * k + 5 < recursionLimit
 un:A.units + 16 * k + 200 < cLine
theorem Room.mono {j k:Nat} {A:Around} (r:Room k A) (h:j<=k):Room j A:=⟨r.hd,by have:=r.dp;lia,by have:=r.un;lia⟩
theorem Room.deeper {k:Nat} {A:Around} (r:Room (k + 1) A) (env:Env):Room k (A.deeper env) :=
 ⟨r.hd,by have:=r.dp;show A.depth + 1 + 3 * k + 5 < _;lia,by have:=r.un;show A.units + 3 + 16 * k + 200 < _;lia⟩
theorem Room.in1 {k:Nat} {A:Around} (r:Room (k + 1) A):Room k A.in1 :=
 ⟨r.hd,by have:=r.dp;show A.depth + 3 * k + 5 < _;lia,by have:=r.un;show A.units + 1 + 16 * k + 200 < _;lia⟩
theorem Room.depth {k:Nat} {A:Around} (r:Room k A):A.depth < recursionLimit:=by have:=r.dp;lia
noncomputable def tNil:TA:=fun _ H Q=>Q [] H
noncomputable def Zcc (ta:TE) (tr:TA):TA:=fun σ H Q=>ta σ H fun x H1=>tr σ H1 fun xs H2=>Q (x::xs) H2
section
variable {X:Cx} {e:Expr} {es:List Expr} {te:TE} {t:TA} {pos:Pos}
theorem Ze:PA X [] tNil:=fun _ _ _ _ H Q I h=>Ybb ⟨[],H,I,.nil,h⟩
theorem Za (ha:PE X e te) (hr:PA X es t) (hs:starEach (e::es) X.env=(false,eval e X.env)::starEach es X.env:=by rfl):PA X (e::es) (Zcc te t):=by
 intro pos pins s σ H Q I h
 rw [hs]
 show wpAny _ _ (spliced ((false,eval e X.env)::backTo pos (starEach es X.env))) _ _ s
 refine Ya2 (thn (ha pins s σ H _ I h) fun u s1 h_q=>?_)
 obtain ⟨x,H1,I1,r1,q1⟩:=h_q
 exact thn (hr pos pins s1 σ H1 _ I1 q1) fun us s2 ⟨xs,H2,I2,r2,q2⟩=>⟨x::xs,H2,I2,.cons r1 r2,q2⟩
noncomputable def tTup (t:TA):TE:=fun σ H Q=>t σ H fun xs H1=>xs.length<=sizeLine/\∀ p,H1 p=none->Q (.ref p) (upd H1 p (.tup xs))
noncomputable def tLst (t:TA):TE:=fun σ H Q=>t σ H fun xs H1=>xs.length<=sizeLine/\∀ p,H1 p=none->Q (.ref p) (upd H1 p (.lst xs))
theorem ZD {x1} (h:PA X es t):PE X (.Tuple es x1 pos) (tTup t):=by
 intro pins s σ H Q I hq
 refine wpAny_Tuple_spliced (thn (h pos pins s σ H _ I hq) fun us s1 ⟨xs,H1,I1,r,z,q⟩=>⟨by rw [<- r.length];exact z,?_⟩)
 have hf:H1 s1.heap.objs.size=none:=I1.hok.fresh (Yh _)
 refine ⟨.ref s1.heap.objs.size,upd H1 s1.heap.objs.size (.tup xs),I1.laid (t':=s1.toks) (fun b u e=>Yd _ e) (Yh _) ?_,rfl,q _ hf⟩
 exact ⟨z,us,r,⟨_,Yp _ rfl,rfl,_,rfl⟩⟩
theorem ZaH (h:PA X es t):PE X (.List es pos) (tLst t):=by
 intro pins s σ H Q I hq
 refine wpAny_List_spliced (thn (h pos pins s σ H _ I hq) fun us s1 ⟨xs,H1,I1,r,z,q⟩=>⟨by rw [<- r.length];exact z,?_⟩)
 have hf:H1 s1.heap.objs.size=none:=I1.hok.fresh (Yh _)
 refine ⟨.ref s1.heap.objs.size,upd H1 s1.heap.objs.size (.lst xs),I1.laid (t':=s1.toks) (fun b u e=>Yd _ e) (Yh _) ?_,rfl,q _ hf⟩
 exact ⟨z,us,0,r,Yp _ rfl⟩
end
noncomputable abbrev Sp:=List V->Hp->VK->XK->Prop
noncomputable abbrev CXT:=List Env->Hp->Shared->XK->Value->Shared->Prop
structure Env0 (P:Program) (w:World) (K:YFr) (mg:Str->Option Value) (base:Heap) (A:Around) (outer:List Env) (s:Shared) (H:Hp):Prop where
 frames:A.frames=some outer
 mod:Mod K mg base
 bs:∀ b o,base.get? b=some o->s.heap.get? b=some o/\H b=none
 bsz:base.objs.size<=s.heap.objs.size
 funs:s.heap.FunFrames base outer
 frf:∀ b∈frs outer,H b=none
 hok:HOk P w H s.heap
 bare:AllBare s.gens
noncomputable def CE (outer:List Env) (P:Program) (w:World) (H:Hp) (s:Shared) (Q:VK) (u:Value) (s':Shared):Prop :=
 ∃ v H',s'.os=s.os/\AllBare s'.gens/\Un (frs outer) [] H H' s.heap s'.heap/\HOk P w H' s'.heap/\RelV v u/\Q v H'
noncomputable def CR (CX:CXT) (outer:List Env) (P:Program) (w:World) (H:Hp) (s:Shared) (Q:VK) (E:XK) (r:Result) (s':Shared):Prop :=
 match r with
 | .ok (.ret u)=>CE outer P w H s Q u s'
 | .ok _=>False
 | .error e=>CX outer H s E e s'
structure FnOk (P:Program) (w:World) (K:YFr) (mg:Str->Option Value) (base:Heap) (CX:CXT) (k:Nat) (f:Addr) (fd:FuncData) (ps:List Str) (sp:Sp):Prop where
 len:∀ vs H Q E,sp vs H Q E->vs.length=ps.length
 run : ∀ (A:Around) (outer:List Env) (s:Shared) (H:Hp) (args:Args) (us:List Value) (vs:List V) (Q:VK) (E:XK),Room k A->Env0 P w K mg base A outer s H->BindsTo s fd args (ps.zip us)->Vals vs us->sp vs H Q E ->
  codeAny (model P w) A (.call (.ref f) args) (CR CX outer P w H s Q E) s
theorem FnOk.mono {P:Program} {w:World} {K:YFr} {mg:Str->Option Value} {base:Heap} {CX:CXT} {j k:Nat} {f:Addr} {fd:FuncData} {ps:List Str} {sp:Sp} (F:FnOk P w K mg base CX j f fd ps sp) (h:j<=k) :
  FnOk P w K mg base CX k f fd ps sp:=⟨F.len,fun A outer s H args us vs Q E hr=>F.run A outer s H args us vs Q E (hr.mono h)⟩
theorem FnOk.imp {P:Program} {w:World} {K:YFr} {mg:Str->Option Value} {base:Heap} {CX:CXT} {k:Nat} {f:Addr} {fd:FuncData} {ps:List Str} {sp sp':Sp} (F:FnOk P w K mg base CX k f fd ps sp)
  (h:∀ vs H Q E,sp' vs H Q E->sp vs H Q E):FnOk P w K mg base CX k f fd ps sp' :=
 ⟨fun vs H Q E q=>F.len vs H Q E (h _ _ _ _ q),fun A outer s H args us vs Q E hr he hb hv hs=>F.run A outer s H args us vs Q E hr he hb hv (h _ _ _ _ hs)⟩
section
variable {X:Cx} {pins:List (Addr × Obj)} {σ:St} {H:Hp} {s s':Shared}
theorem Inv.env0 (I:Inv X pins σ H s):Env0 X.prog X.w X.K X.mg X.base X.A X.stack s H :=
 ⟨I.ok.frames,I.ok.mod,I.bs,YH I.ok.bsz I.sz,I.stack,I.stkFree,I.hok,I.bare⟩
theorem Inv.after {Q:VK} {u:Value} (I:Inv X pins σ H s) (h:CE X.stack X.prog X.w H s Q u s'):EP X pins σ Q u s':=by
 obtain ⟨v,H',os,bare,un,hok,r,q⟩:=h
 obtain ⟨hh,g,d,t,os'⟩:=s'
 obtain rfl:os'=s.os:=os
 exact ⟨v,H',I.call (h':=hh) (g':=g) (d':=d) (t':=t) (ch:=[]) un hok bare (fun b z=>absurd z (by simp)),r,q⟩
end
noncomputable def tCall (sp:Sp) (dvs:List V) (E:XK) (t:TA):TE:=fun σ H Q=>t σ H fun vs H1=>sp (vs++dvs) H1 Q E
noncomputable def Zav (K:YFr) (fd:FuncData) (ps:List Str) (ds:List Value):Prop :=
 ∀ (s:Shared) (us:List Value),K.In s.heap->(us++ds).length=ps.length->BindsTo s fd ⟨us,[]⟩ (ps.zip (us++ds))
theorem Zav.all {K:YFr} {fd:FuncData} {ps:List Str} (h:∀ us:List Value,us.length=ps.length->bindArgs fd ⟨us,[]⟩=pure (ps.zip us)):Zav K fd ps []:=fun s us _ hl=>by
 rw [Y4] at hl ⊢
 exact .of_eq (h us hl)
noncomputable def Zf6 (CX:CXT) (X:Cx) (E:XK):Prop:=∀ (pins:List (Addr × Obj)) (σ:St) (H:Hp) (s:Shared) (e:Value) (s':Shared),Inv X pins σ H s->CX X.stack H s E e s'->X.xe e s'
section
variable {X:Cx} {CX:CXT} {k:Nat} {f C:Addr} {fd:FuncData} {ps:List Str} {sp:Sp} {dvs:List V} {ds:List Value} {E:XK} {x m:Str} {p pos apos:Pos} {e o:Expr} {es:List Expr} {ta:TE} {t:TA}
theorem run_fn {pins:List (Addr × Obj)} {σ:St} {H:Hp} {s:Shared} {Q:VK} {us:List Value} {vs:List V} (F:FnOk X.prog X.w X.K X.mg X.base CX k f fd ps sp) (hr:Room k X.A) (hb:Zav X.K fd ps ds) (hd:Vals dvs ds) (hx:Zf6 CX X E)
  (I:Inv X pins σ H s) (r:Vals vs us) (h:sp (vs++dvs) H Q E):wpAny (model X.prog X.w) X.A (call (.ref f) us) (EP X pins σ Q) X.xe s:=by
 have r2:Vals (vs++dvs) (us++ds):=r.append hd
 have hl:(us++ds).length=ps.length:=by rw [<- r2.length];exact F.len _ _ _ _ h
 refine YcN (Ybp (F.run X.A X.stack s H ⟨us,[]⟩ (us++ds) (vs++dvs) Q E hr I.env0 (hb s us I.kIn hl) r2 h) fun r s' hq=>?_)
 cases r with
 | error e=>exact hx pins σ H s e s' I hq
 | ok fl =>
  cases fl with
  | ret u=>exact I.after hq
  | next=>exact False.elim hq
  | brk=>exact False.elim hq
  | cont=>exact False.elim hq
theorem Zp (F:FnOk X.prog X.w X.K X.mg X.base CX k f fd ps sp) (hr:Room k X.A) (hg:Gl X x) (hm:X.mg x=some (.ref f)) (hk:PySem.W.keepIn X.K (.ref f)=true) (hb:Zav X.K fd ps ds) (hd:Vals dvs ds) (hx:Zf6 CX X E)
  (ha:PA X (e::es) t) (hdb:(x == ("__debug__":Str))=false:=by decide) (he:starEach (e::es) X.env=(false,eval e X.env)::starEach es X.env:=by rfl) (hpl:(backTo pos (starEach es X.env)).any (·.1)=false:=by rfl) :
  PE X (.Call (.Name x p) (e::es) [] pos) (tCall sp dvs E t):=by
 intro pins s σ H Q I h
 refine Yah (ZhP I hg hm ?_ hdb)
 refine Ydb (h₀:=X.base) I.ok.mod.kin hk (thn (ha pos pins s σ H _ I h) fun us s1 ⟨vs,H1,I1,r,q⟩=>⟨I1.kIn,?_⟩) he hpl
 exact run_fn F hr hb hd hx I1 r q
end
noncomputable def PK (X:Cx) (kws:List Keyword) (t:TA):Prop :=
 ∀ (pos:Pos) (pins:List (Addr × Obj)) (s:Shared) (σ:St) (H:Hp) (Q:List V->Hp->Prop),Inv X pins σ H s->t σ H Q->wpAny (model X.prog X.w) X.A (evalAll ((backToKw pos (keywordEach kws X.env)).map (·.2))) (AP X pins σ Q) X.xe s
section
variable {X:Cx} {CX:CXT} {k:Nat} {f C:Addr} {fd:FuncData} {ps ks:List Str} {sp:Sp} {E:XK} {x m:Str} {p pos apos kpos:Pos} {e o:Expr} {es:List Expr} {kws:List Keyword} {te ta:TE} {t tk:TA} {nm:Option Str}
theorem pk_nil:PK X [] tNil:=fun _ _ _ _ H Q I h=>YbC ⟨[],H,I,.nil,h⟩
theorem Zhz (ha:PE X e te) (hr:PK X kws t):PK X (⟨nm,e,kpos⟩::kws) (Zcc te t):=by
 intro pos pins s σ H Q I h
 show wpAny _ _ (evalAll ((do let v <- eval e X.env;standAt pos;pure v)::(backToKw pos (keywordEach kws X.env)).map (·.2))) _ _ s
 refine Ybq (Yc (thn (ha pins s σ H _ I h) fun u s1 ⟨x,H1,I1,r1,q1⟩=>Yc (Ya1 (Yi ?_))))
 exact thn (hr pos pins s1 σ H1 _ I1 q1) fun us s2 ⟨xs,H2,I2,r2,q2⟩=>⟨x::xs,H2,I2,.cons r1 r2,q2⟩
variable {g:List Value->List Value->List Value} {gV:List V->List V->List V}
end
structure ZB (N P:List Str) (sc:Scope):Prop where
 kind:sc.kind=.function
 co:sc.isCoroutine=false
 gen:sc.isGenerator=false
 nd:N.Nodup
 pre:N.take P.length=P
 par:∀ x∈P,sc.names.lookup x=some .local\/sc.names.lookup x=some .cell
 nofree:∀ y∈sc.names,y.2≠.free
theorem ZeD {kindOf:Str->Option NameKind} {x:Str}:∀ {binds:List (Str × Value)} {m:Str->Option Value},(∀ v,(x,v) ∉ binds)->bindL kindOf binds m x=m x
 | [],_,_=>rfl
 | (n, v)::r,m,h=>by
  unfold bindL
  rw [ZeD fun w hw=>h w (Yaw _ hw)]
  split
  ·have:x≠n:=by rintro rfl;exact h v YaF
   simp [this]
  ·rfl
theorem Zen {kindOf:Str->Option NameKind} {x:Str}:∀ {binds:List (Str × Value)} {m:Str->Option Value},(∀ v,(x,v) ∉ binds)->bindC kindOf binds m x=m x
 | [],_,_=>rfl
 | (n, v)::r,m,h=>by
  unfold bindC
  rw [Zen fun w hw=>h w (Yaw _ hw)]
  split
  ·rfl
  ·have:x≠n:=by rintro rfl;exact h v YaF
   simp [this]
theorem ZeY {kindOf:Str->Option NameKind} {x:Str} {v:Value}:∀ {P:List Str} {vs:List Value} {i:Nat} {m:Str->Option Value},P.Nodup->P[i]? = some x->vs[i]? = some v->kindOf x=some .local ->
  bindL kindOf (P.zip vs) m x=some v
 | [],_,_,_,_,h,_,_=>by simp at h
 | _::_,[],_,_,_,_,h,_=>by simp at h
 | p :: P,w::vs,0,m,nd,h1,h2,hk=>by
  simp at h1 h2;subst h1;subst h2
  show bindL kindOf ((p,w)::P.zip vs) m p=_
  unfold bindL
  rw [ZeD fun v hv=>(Ya3.mp nd).1 (Ycq hv).1,if_pos hk]
  simp
 | p :: P,w::vs,i + 1,m,nd,h1,h2,hk=>by
  show bindL kindOf ((p,w)::P.zip vs) m x=_
  unfold bindL
  exact ZeY (i:=i) (Ya3.mp nd).2 (by simpa using h1) (by simpa using h2) hk
theorem Zer {kindOf:Str->Option NameKind} {x:Str} {v:Value}:∀ {P:List Str} {vs:List Value} {i:Nat} {m:Str->Option Value},P.Nodup->P[i]? = some x->vs[i]? = some v->kindOf x≠some .local ->
  bindC kindOf (P.zip vs) m x=some v
 | [],_,_,_,_,h,_,_=>by simp at h
 | _::_,[],_,_,_,_,h,_=>by simp at h
 | p :: P,w::vs,0,m,nd,h1,h2,hk=>by
  simp at h1 h2;subst h1;subst h2
  show bindC kindOf ((p,w)::P.zip vs) m p=_
  unfold bindC
  rw [Zen fun v hv=>(Ya3.mp nd).1 (Ycq hv).1,if_neg hk]
  simp
 | p :: P,w::vs,i + 1,m,nd,h1,h2,hk=>by
  show bindC kindOf ((p,w)::P.zip vs) m x=_
  unfold bindC
  exact Zer (i:=i) (Ya3.mp nd).2 (by simpa using h1) (by simpa using h2) hk
noncomputable def start (N:List Str) (vs:List V):St:=vs.map some++List.replicate (N.length - vs.length) none
noncomputable def cxOf (CX:CXT) (P:Program) (w:World) (K:YFr) (mg:Str->Option Value) (base:Heap) (N:List Str) (qual:Str) (scope:Scope) (f:Addr) (cd:Value) (A:Around) (outer:List Env) (s:Shared) (H:Hp) (E:XK):Cx where
 prog:=P
 w := w
 K := K
 mg:=mg
 base:=base
 A := A.deeper (envOfC qual scope s.heap.objs.size f cd)
 N := N
 s₀:=s
 H₀:=H
 env:=envOfC qual scope s.heap.objs.size f cd
 outer:=outer
 stack:=envOfC qual scope s.heap.objs.size f cd::outer
 ex:=[]
 calm:=true
 fn:=fun _=>true
 pn:=[]
 xe:=fun e s'=>wpAny (model P w) (A.deeper (envOfC qual scope s.heap.objs.size f cd)) (leaving (envOfC qual scope s.heap.objs.size f cd) e) (fun _ s''=>CX outer H s E e s'') (fun e' s''=>CX outer H s E e' s'') s'
theorem ZfO {sc:Scope} {n:Nat} {x:Str} (h:sc.names.lookup x=some .cell):∃ c,(cellsFrom n sc.names []).lookup x=some c:=by
 have q:=Ya9 sc.names n [] (.inl h)
 exact Ybr.mp q
theorem ZcH {CX:CXT} {P:Program} {w:World} {K:YFr} {mg:Str->Option Value} {base:Heap} {N ps:List Str} {qual:Str} {scope:Scope} {f:Addr} {cd:Value} {A:Around} {outer:List Env} {s s1:Shared} {H:Hp} {E:XK} {us:List Value} {vs:List V}
  (S:ZB N ps scope) (hd:A.handled=none) (e0:Env0 P w K mg base A outer s H) (hl:vs.length=ps.length) (r:Vals vs us)
  (x:InCallC s s.heap.objs.size (bindL (envOfC qual scope s.heap.objs.size f cd).kindOf (ps.zip us) fun _=>none) (cellsFrom (s.heap.objs.size + 1) scope.names []) (bindC (envOfC qual scope s.heap.objs.size f cd).kindOf (ps.zip us) fun _=>none) s1) :
  Inv (cxOf CX P w K mg base N qual scope f cd A outer s H E) [] (start N vs) H s1:=by
 have hpl:ps.length<=N.length:=by have:=congrArg List.length S.pre;rw [YL] at this;lia
 obtain ⟨h1,tk,rfl,hk⟩:=x.done
 have noA:∀ b:Addr,b ∉ (cxOf CX P w K mg base N qual scope f cd A outer s H E).ex:=fun b z=>absurd (show b∈([]:List Addr) from z) (by simp)
 refine ⟨⟨e0.mod,S.kind,rfl,rfl,Yh _,fun y z c h1 h2=>?_,fun y hy=>?_,fun y c _ h=>?_,fun _=>hd,Around.frames_deeper e0.frames,.inr ⟨rfl,rfl⟩,fun b z=>absurd z (noA b),e0.bs,e0.bsz,fun b _ _=>noA b,fun b z=>absurd z (noA b),e0.funs,e0.frf⟩,
  rfl,e0.bare,Un.kept hk,⟨_,x.toInCall.ns,fun i y v h1 h2 h3=>?_⟩,fun y c h=>⟨_,x.cell y c h⟩,e0.hok.fresh (Yh _),fun y c h=>?_,fun p hp=>absurd (show p∈([]:List (Addr × Obj)) from hp) (by simp),e0.hok.kept hk,?_⟩
 ·exact name_of_addr x.apart (Yas h1) (Yas h2)
 ·have hy:scope.names.lookup y=some .cell\/scope.names.lookup y=some .free:=hy
  rcases hy with hy | hy
  ·exact ZfO hy
  ·exact absurd rfl (S.nofree _ (Yas hy))
 ·exact Ycb (x.above y c (Yas h))
 ·have hi:i < vs.length:=by
   unfold start at h2
   by_cases hi:i < vs.length
   ·exact hi
   ·rw [YaD (by simpa using hi)] at h2
    rw [Ycn] at h2
    split at h2 <;> cases h2
  have ha:vs[i]? = some v:=by
   unfold start at h2
   rw [YaI (by simpa using hi),Yl] at h2
   cases e:vs[i]? with
   | none=>rw [e] at h2;cases h2
   | some a=>rw [e] at h2;cases h2;rfl
  obtain ⟨u,hu,rv⟩:=r.get ha
  have hp:ps[i]? = some y:=by
   rw [<- S.pre,Ybs (by lia)];exact h1
  have ndP:ps.Nodup:=by rw [<- S.pre];exact S.nd.sublist (List.take_sublist _ _)
  refine ⟨u,rv,?_⟩
  rcases S.par y (YG hp) with k | k
  ·exact .inl ⟨k,ZeY ndP hp hu k⟩
  ·obtain ⟨c,e⟩:=ZfO (n:=s.heap.objs.size + 1) k
   refine .inr ⟨.inl k,c,e,?_⟩
   have q:=x.cell y c e
   rw [Zer ndP hp hu (by show scope.names.lookup y≠_;rw [k];decide)] at q
   exact q
 ·exact e0.hok.fresh (Ycb (x.above y c (Yas h)))
 ·unfold start
  show _=N.length
  rw [Yj,Yb,YcF]
  lia
theorem fn_of {CX:CXT} {P:Program} {w:World} {K:YFr} {mg:Str->Option Value} {base:Heap} {k:Nat} {f:Addr} {name qual:Str} {params:Arguments} {body:List Stmt} {scope:Scope} {dV kV doc pm cdv ct oc:Value} {an od:Option Addr}
  {osl:Array (Option Value)} {N ps:List Str} {sp:Sp} (lk:K.lookup f=some ⟨oc,od,.func (PySem.W.fnOf name qual params body scope dV kV doc pm an cdv ct),osl⟩) (hcd:PySem.W.codeIn K cdv qual=true) (S:ZB N ps scope)
  (len:∀ vs H Q E,sp vs H Q E->vs.length=ps.length)
  (hbody:∀ (A:Around) (outer:List Env) (s:Shared) (H:Hp) (vs:List V) (Q:VK) (E:XK),Room k (A.deeper (envOfC qual scope s.heap.objs.size f cdv))->sp vs H Q E ->
   ∃ t,PSs (cxOf CX P w K mg base N qual scope f cdv A outer s H E) body t/\t { nx:=fun _ H'=>Q .non H',rt:=Q } (start N vs) H) :
  FnOk P w K mg base CX (k + 1) f (PySem.W.fnOf name qual params body scope dV kV doc pm an cdv ct) ps sp:=by
 refine ⟨len,fun A outer s H args us vs Q E hr e0 hb r hsp=>?_⟩
 have hl:=len _ _ _ _ hsp
 have KX:K.In s.heap:=e0.mod.kin.keeps fun b o e=>(e0.bs b o e).1
 have lim:s.heap.NoLimit:=e0.mod.nolimit.keeps fun b o e=>(e0.bs b o e).1
 have hkind:∀ y∈ps.zip us,scope.names.lookup y.1=some .local\/(scope.names.lookup y.1=some .cell/\((cellsFrom (s.heap.objs.size + 1) scope.names []).lookup y.1).isSome=true):=fun hq0 hy=>by
  obtain ⟨n,v⟩:=hq0
  rcases S.par n (Ycq hy).1 with q | q
  ·exact .inl q
  ·exact .inr ⟨q,Ya9 _ _ _ (.inl q)⟩
 refine codeAny_call_function hr.depth (KX _ _ lk) rfl S.co S.gen rfl (PySem.W.codeRec_of KX hcd) (hb _ _ _ _ ?_)
 refine Ybk S.kind hkind fun env he s1 x=>?_
 subst he
 refine ⟨lim.keeps x.toInCall.keep,codeAny_func ?_⟩
 obtain ⟨t,ht,hq⟩:=hbody A outer s H vs Q E (hr.deeper _) hsp
 have I:Inv (cxOf CX P w K mg base N qual scope f cdv A outer s H E) [] (start N vs) H s1:=ZcH S hr.hd e0 hl r x
 refine YR (ht [] s1 (start N vs) H _ I hq) (fun fl s' hs=>?_) fun e s' hs=>hs
 have fin:∀ {σ':St} {H':Hp} {v:V} {u:Value},Inv (cxOf CX P w K mg base N qual scope f cdv A outer s H E) [] σ' H' s'->RelV v u->Q v H'->CE outer P w H s Q u s' :=
  fun {σ' H' v u} J rv q=>⟨v,H',J.os,J.bare,J.base,J.hok,rv,q⟩
 cases fl with
 | ret u =>
  obtain ⟨v,σ',H',J,rv,q⟩:=hs
  exact fin J rv q
 | next =>
  obtain ⟨σ',H',J,q⟩:=hs
  exact fin (v:=V.non) (u:=Value.none) J rfl q
 | brk =>
  obtain ⟨_,_,_,q⟩:=hs
  exact False.elim q
 | cont =>
  obtain ⟨_,_,_,q⟩:=hs
  exact False.elim q
section
variable {X:Cx} {x:Str} {p pos:Pos} {e:Expr} {es:List Expr} {t:TA} {id T:String} {r:List V->Hp->VK->Prop}
noncomputable def tCB (r:List V->Hp->VK->Prop) (t:TA):TE:=fun σ H Q=>t σ H fun vs H1=>r vs H1 Q
theorem ZF (hc:Zbf X (.builtin id) r) (hg:Gl X x) (hm:X.mg x=none) (hv:bootBuiltins x=some (.builtin id)) (ha:PA X (e::es) t) (hn:x≠"__name__":=by decide) (hdb:(x == ("__debug__":Str))=false:=by decide)
  (he:starEach (e::es) X.env=(false,eval e X.env)::starEach es X.env:=by rfl) (hpl:(backTo pos (starEach es X.env)).any (·.1)=false:=by rfl):PE X (.Call (.Name x p) (e::es) [] pos) (tCB r t):=by
 intro pins s σ H Q I h
 refine Yah (Zbm I hg hm hv ?_ hn hdb)
 exact PyProof.Rows.callWith_builtin1 (thn (ha pos pins s σ H _ I h) fun us s1 ⟨vs,H1,I1,r1,q1⟩=>hc pins s1 σ H1 vs us Q I1 r1 q1) he hpl
theorem Zar (hc:Zbf X (.type T) r) (hg:Gl X x) (hm:X.mg x=none) (hv:bootBuiltins x=some (.type T)) (ha:PA X (e::es) t) (hn:x≠"__name__":=by decide) (hdb:(x == ("__debug__":Str))=false:=by decide)
  (he:starEach (e::es) X.env=(false,eval e X.env)::starEach es X.env:=by rfl) (hpl:(backTo pos (starEach es X.env)).any (·.1)=false:=by rfl):PE X (.Call (.Name x p) (e::es) [] pos) (tCB r t):=by
 intro pins s σ H Q I h
 refine Yah (Zbm I hg hm hv ?_ hn hdb)
 exact YN (thn (ha pos pins s σ H _ I h) fun us s1 ⟨vs,H1,I1,r1,q1⟩=>hc pins s1 σ H1 vs us Q I1 r1 q1) he hpl
end
end L2
namespace HT
open PySem PyProof.Rows
theorem rcLt_int (A:Around) (s:Shared) (a:Int) (t:Tok) (c:Int) (u:Tok) (prog:Program) (w:World) (E:Value->Shared->Prop) (Q:Value->Shared->Prop) (h:Q (.bool (decide (a < c))) s) :
  wpAny (model prog w) A (richCompare .Lt (.int a t) (.int c u)) Q E s :=
 (YbU h:wpAny (model prog w) A (compareOp .Lt (.int a t) (.int c u)) Q E s)
section
variable {prog:Program} {w:World} {A:Around} {E:Value->Shared->Prop} {s:Shared}
theorem cat_tup {t b:Addr} {vs ws:List Value} {Q:Value->Shared->Prop} (ht:IsTup s.heap t vs.toArray) (hb:IsTup s.heap b ws.toArray) (hv:vs≠[])
  (h1:ws=[]->Q (.ref t) s) (h2:ws≠[]->Q (.ref s.heap.objs.size) { s with heap:=s.heap.push { cls:=.type "tuple",data:=.seq (vs++ws).toArray } })
  (hsz:vs.length + ws.length<=sizeLine):wpAny (model prog w) A (binaryOp .Add (.ref t) (.ref b)) Q E s:=by
 obtain ⟨⟨cls,dd,data,sl⟩,ho,hc,n,hd⟩:=id ht
 obtain ⟨⟨cls2,dd2,data2,sl2⟩,ho2,hc2,n2,hd2⟩:=id hb
 simp only at hc hd hc2 hd2
 subst hc hd hc2 hd2
 have e:vs.toArray++ws.toArray=(vs++ws).toArray:=by simp
 by_cases hw:ws=[]
 ·exact Ycc ⟨_,ho,rfl⟩ ⟨_,ho2,rfl⟩ YdC seq_tuple_add YbG YbB (Ybt _ _)
   (tuple_addW1 t b vs.toArray ws.toArray n n2 dd dd2 sl sl2 (by simpa using hv) (by simp [hw])) ⟨ho,ho2,h1 hw⟩
 ·refine Ycc ⟨_,ho,rfl⟩ ⟨_,ho2,rfl⟩ YdC seq_tuple_add YbG YbB (Ybt _ _)
   (tuple_addW2 t b vs.toArray ws.toArray n n2 dd dd2 sl sl2 (by simpa using hv) (by simpa using hw) (by rw [Yk,Yk];exact hsz)) ⟨ho,ho2,?_⟩
  rw [e]
  exact h2 hw
noncomputable def sIx (n d:Nat):Option Int->Nat
 | none=>d
 | some v=>if v < 0 then (v + (n:Int)).toNat else min v.toNat n
theorem sIx_none (n d:Nat):sIx n d none=d:=rfl
theorem sIx_nat (n d k:Nat):sIx n d (some (k:Int))=min k n:=by
 show (if (k:Int) < 0 then ((k:Int) + (n:Int)).toNat else min (k:Int).toNat n)=min k n
 rw [if_neg (by lia),Int.toNat_natCast]
theorem sIx_le (n d:Nat) (hd:d<=n) (o:Option Int):sIx n d o<=n:=by
 cases o with
 | none=>exact hd
 | some v =>
  show (if v < 0 then (v + (n:Int)).toNat else min v.toNat n)<=n
  by_cases hv:v < 0
  ·rw [if_pos hv];lia
  ·rw [if_neg hv];exact Nat.min_le_right _ _
theorem clip_eq (v:Int) (n d:Nat):(if v < 0 then max (v + (n:Int)) 0 else min v (n:Int))=((sIx n d (some v):Nat):Int):=by
 show (if v < 0 then max (v + (n:Int)) 0 else min v (n:Int))=(((if v < 0 then (v + (n:Int)).toNat else min v.toNat n):Nat):Int)
 by_cases hv:v < 0
 ·simp only [if_pos hv];lia
 ·simp only [if_neg hv];lia
theorem ZgT (lo hi:Option Int) (n:Nat):Builtin.Slice.sliceAdjust lo hi 1 (n:Int)=(((sIx n 0 lo:Nat):Int),((sIx n n hi:Nat):Int)):=by
 have h1:¬ ((1:Int) < 0):=by lia
 unfold Builtin.Slice.sliceAdjust
 simp only [h1,YaE]
 refine Prod.ext ?_ ?_
 ·cases lo with
  | none=>rfl
  | some v=>exact clip_eq v n 0
 ·cases hi with
  | none=>rfl
  | some v=>exact clip_eq v n n
theorem Zg6 (i j:Nat):Builtin.Slice.slicePlaces (i:Int) (j:Int) 1=j - i:=by
 unfold Builtin.Slice.slicePlaces
 have h1:(1:Int) > 0:=by lia
 simp only [h1,if_true,Ydc]
 split <;> lia
theorem ZdA {v:Value} {o:Option Int} {Q:Option Int->Shared->Prop} (p:IsPart v o) (h:Q o s):wpAny (model prog w) A (Builtin.Slice.slicePartIndex v) Q E s:=by
 cases p with
 | none=>exact slicePart_none h
 | int i t=>exact slicePart_int h
theorem sliceApplied_gen {sl:Addr} {vl vu:Value} {lo hi:Option Int} {n:Nat} {Q:Int × Int × Nat->Shared->Prop} (hs:s.heap.IsSliceOf sl vl vu .none) (pl:IsPart vl lo) (pu:IsPart vu hi)
  (h:Q (((sIx n 0 lo:Nat):Int),1,sIx n n hi - sIx n 0 lo) s):wpAny (model prog w) A (Builtin.Slice.sliceApplied (.ref sl) (pure (n:Int))) Q E s:=by
 obtain ⟨os,hos,hcs,hds⟩:=id hs
 unfold Builtin.Slice.sliceApplied Builtin.Slice.sliceFields
 refine Yc (Yc (YO hos hds (x:=vl) rfl (Yc (YO hos hds (x:=vu) rfl (Yc (YO hos hds (x:=.none) rfl (Yi ?_)))))))
 refine Yc (slicePart_none ?_)
 show wpAny _ _ (if ((1:Int) == 0)=true then _ else _) _ _ s
 rw [if_neg (by decide)]
 refine Yc (ZdA pl (Yc (ZdA pu (Yc (Yi ?_)))))
 show wpAny _ _ (match Builtin.Slice.sliceAdjust lo hi 1 (n:Int) with | (lo,hi)=>pure (lo,(1:Int),Builtin.Slice.slicePlaces lo hi 1)) _ _ s
 rw [ZgT lo hi n]
 show wpAny _ _ (pure (((sIx n 0 lo:Nat):Int),(1:Int),Builtin.Slice.slicePlaces ((sIx n 0 lo:Nat):Int) ((sIx n n hi:Nat):Int) 1)) _ _ s
 rw [Zg6]
 exact Yi h
theorem pick_gen (xs:Array Value) (i k:Nat):((List.range k).filterMap fun (m:Nat)=>xs[((i:Int) + (m:Int) * 1).toNat]?).toArray=((xs.toList.drop i).take k).toArray:=by
 have e:(fun (m:Nat)=>xs[((i:Int) + (m:Int) * 1).toNat]?)=fun m=>xs[i + m]?:=by
  funext m
  have:((i:Int) + (m:Int) * 1).toNat=i + m:=by lia
  rw [this]
 rw [e]
 have:=pick_run xs i k
 rw [List.filterMap_map] at this
 have e2:((fun x=>xs[x]?) ∘ fun x=>i + x)=fun m=>xs[i + m]?:=rfl
 rw [e2] at this
 rw [this]
theorem getItem_tuple_cut {t sl:Addr} {items:Array Value} {vl vu:Value} {lo hi:Option Int} {Q:Value->Shared->Prop} (ht:IsTup s.heap t items) (hs:s.heap.IsSliceOf sl vl vu .none) (pl:IsPart vl lo) (pu:IsPart vu hi)
  (hw:¬ (sIx items.size 0 lo=0/\sIx items.size items.size hi=items.size))
  (h:Q (.ref s.heap.objs.size) { s with heap:=s.heap.push { cls:=.type "tuple",data:=.seq ((items.toList.drop (sIx items.size 0 lo)).take (sIx items.size items.size hi - sIx items.size 0 lo)).toArray } })
  (hsz:items.size<=sizeLine):wpAny (model prog w) A (getItem (.ref t) (.ref sl)) Q E s:=by
 have htake:sizeOk (.seq ((items.toList.drop (sIx items.size 0 lo)).take (sIx items.size items.size hi - sIx items.size 0 lo)).toArray):=by
  show ((items.toList.drop (sIx items.size 0 lo)).take (sIx items.size items.size hi - sIx items.size 0 lo)).toArray.size<=sizeLine
  rw [Yk,YL,Yai,Array.length_toList]
  lia
 have hj:sIx items.size items.size hi<=items.size:=sIx_le _ _ (Yh _) hi
 obtain ⟨os,hos,hcs,hds⟩:=id hs
 have hTs:s.TypeIs (.ref sl) "slice":=⟨os,hos,hcs⟩
 unfold getItem
 try with_reducible refine YS ?_
 first | refine Yc (Yi ?_) | skip
 refine Yc (Yb9 ht.typeIs (by decide) ?_)
 refine Yc (Y6 (name:=Str.ofString "__getitem__") ht.typeIs Yae
  (Yau Yae ht.typeIs entry_tuple_getitem ?_ (args_tuple_getitem _ _)))
 show wpAny _ _ (Builtin.Tuple.tupleItemsOf (.ref t) >>= _) _ _ s
 refine Yc (tupleItemsOf_ ht ?_)
 refine Yc (YaX hTs ?_)
 rw [if_pos (by decide)]
 refine Yc (sliceApplied_gen hs pl pu ?_)
 have hno:¬ ((((sIx items.size 0 lo:Nat):Int) == 0 && (1:Int) == 1 && (sIx items.size items.size hi - sIx items.size 0 lo) == items.size)=true):=by
  intro q
  rw [Ye,Ye] at q
  have q1:((sIx items.size 0 lo:Nat):Int)=0:=Ycr q.1.1
  have q2:sIx items.size items.size hi - sIx items.size 0 lo=items.size:=Ycr q.2
  exact hw ⟨by lia,by lia⟩
 show wpAny _ _ (if (((sIx items.size 0 lo:Nat):Int) == 0 && (1:Int) == 1 && (sIx items.size items.size hi - sIx items.size 0 lo) == items.size)=true then _ else _) _ _ s
 rw [if_neg hno,pick_gen]
 first
  | exact Yc (m:=Builtin.Tuple.tupleExact _) (Yaq (Yi ⟨_,rfl,Yi h⟩) htake)
  | exact Yc (m:=Builtin.Tuple.tupleExact _) (Yaq (Yc (Yi (Yi ⟨_,rfl,Yi h⟩))) htake)
  | exact Yc (Yc (m:=Builtin.Tuple.tupleExact _) (Yaq (Yi (Yi ⟨_,rfl,Yi h⟩)) htake))
  | exact Yc (Yc (m:=Builtin.Tuple.tupleExact _) (Yaq (Yi ⟨_,rfl,Yi h⟩) htake))
end
end HT
namespace L2
open PySem PySem.Spec PyProof.Rows
noncomputable abbrev TO:=St->Hp->(Option Int->Hp->Prop)->Prop
noncomputable def PO (X:Cx) (e:Option Expr) (t:TO):Prop :=
 ∀ (pins:List (Addr × Obj)) (s:Shared) (σ:St) (H:Hp) (Q:Option Int->Hp->Prop),Inv X pins σ H s->t σ H Q ->
  wpAny (model X.prog X.w) X.A (evalPart e X.env) (fun u s'=>∃ o H',Inv X pins σ H' s'/\IsPart u o/\Q o H') X.xe s
noncomputable def Zic:TO:=fun _ H Q=>Q none H
noncomputable def tPart (t:TE):TO:=fun σ H Q=>t σ H fun x H1=>∃ i,x=.int i/\Q (some i) H1
section
variable {X:Cx} {e:Expr} {te:TE} {lo hi:Option Expr} {tl th:TO} {pos p2:Pos}
theorem ZV:PO X none Zic:=by
 intro pins s σ H Q I h
 rw [evalPart_none]
 exact Yi ⟨none,H,I,.none,h⟩
theorem ZM (h:PE X e te):PO X (some e) (tPart te):=by
 intro pins s σ H Q I hw
 rw [evalPart_some]
 refine thn (h pins s σ H _ I hw) fun u s1 h_q=>?_
 obtain ⟨x,H1,I1,r1,q1⟩:=h_q
 obtain ⟨i,rfl,q⟩:=q1
 obtain ⟨t,rfl⟩:=r1
 exact ⟨some i,H1,I1,.int i t,q⟩
noncomputable def SlR (X:Cx) (r:V->Option Int->Option Int->Hp->VK->Prop):Prop :=
 ∀ (pins:List (Addr × Obj)) (s:Shared) (σ:St) (H:Hp) (x:V) (v vl vu:Value) (lo hi:Option Int) (sl:Addr) (Q:VK),Inv X pins σ H s->RelV x v->s.heap.IsSliceOf sl vl vu .none->IsPart vl lo->IsPart vu hi->r x lo hi H Q ->
  ∃ T id,typeLookup (.type T) "__getitem__"=pure (some (.builtin id))/\s.TypeIs v T/\wpAny (model X.prog X.w) X.A (getItem v (.ref sl)) (EP X pins σ Q) X.xe s
noncomputable def tSl (r:V->Option Int->Option Int->Hp->VK->Prop) (te:TE) (tl th:TO):TE:=fun σ H Q=>te σ H fun x H1=>tl σ H1 fun l H2=>th σ H2 fun u H3=>r x l u H3 Q
theorem ZE {r:V->Option Int->Option Int->Hp->VK->Prop} (hr:SlR X r) (he:PE X e te) (hl:PO X lo tl) (hu:PO X hi th):PE X (.Subscript e (.Slice lo hi none p2) pos) (tSl r te tl th):=by
 intro pins s σ H Q I h
 refine Subscript_ (thn (he pins s σ H _ I h) fun v s1 h_q=>?_)
 obtain ⟨x,H1,I1,r1,q1⟩:=h_q
 refine wpAny_Slice (thn (hl pins s1 σ H1 _ I1 q1) fun vl s2 ⟨l,H2,I2,pl,q2⟩=>thn (hu pins s2 σ H2 _ I2 q2) fun vu s3 h_q=>?_)
 obtain ⟨u,H3,I3,pu,q3⟩:=h_q
 rw [evalPart_none]
 refine Yi ?_
 have I4:Inv X pins σ H3 { s3 with heap:=s3.heap.push { cls:=.type "slice",data:=.fields #[vl,vu,.none] } }:=I3.kept (t':=s3.toks) fun b ob q=>Yd _ q
 obtain ⟨T,id,hT,ht,hg⟩:=hr pins { s3 with heap:=s3.heap.push { cls:=.type "slice",data:=.fields #[vl,vu,.none] } } σ H3 x v vl vu l u s3.heap.objs.size Q I4 r1 (Ydd ..) pl pu q3
 show wpAny (model X.prog X.w) X.A (subscriptTail e (.Slice lo hi none p2) v (.ref s3.heap.objs.size)) (EP X pins σ Q) X.xe { s3 with heap:=s3.heap.push { cls:=.type "slice",data:=.fields #[vl,vu,.none] } }
 exact tail_any (ops:=[.ref s3.heap.objs.size,v]) ht hT hg (by with_unfolding_all rfl)
noncomputable def cutV (xs:List V) (lo hi:Option Int):List V:=(xs.drop (HT.sIx xs.length 0 lo)).take (HT.sIx xs.length xs.length hi - HT.sIx xs.length 0 lo)
theorem ZcJ (xs:List V) (lo hi:Option Int):(cutV xs lo hi).length<=xs.length:=by
 unfold cutV
 rw [YL,Yai]
 lia
noncomputable def rSlT (K:YFr):V->Option Int->Option Int->Hp->VK->Prop:=fun x lo hi H Q=>∃ a xs,x=.ref a/\SqT K H a xs /\
 ¬ (HT.sIx xs.length 0 lo=0/\HT.sIx xs.length xs.length hi=xs.length)/\∀ p,H p=none->Q (.ref p) (upd H p (.tup (cutV xs lo hi)))
theorem sl_tup:SlR X (rSlT X.K):=by
 intro pins s σ H x v vl vu lo hi sl Q I rx hs pl pu h
 obtain ⟨a,xs,rfl,hx,hw,q⟩:=h
 cases rx
 obtain ⟨its,r,ht,hz⟩:=I.tuple hx
 have hlen:its.toArray.size=xs.length:=by rw [Yk];exact r.length.symm
 refine ⟨"tuple",_,Yae.lookup,ht.typeIs,?_⟩
 refine HT.getItem_tuple_cut ht hs pl pu (by rw [hlen];exact hw) ?_ (by rw [hlen];exact hz)
 rw [hlen]
 refine ⟨.ref s.heap.objs.size,_,I.laid (t':=s.toks) (o:=.tup (cutV xs lo hi)) (fun b ob q=>Yd _ q) (Yh _) ?_,rfl,q _ (I.hok.fresh (Yh _))⟩
 exact ⟨YH (ZcJ xs lo hi) hz,_,(r.drop (HT.sIx xs.length 0 lo)).take (HT.sIx xs.length xs.length hi - HT.sIx xs.length 0 lo),Yde _ _⟩
noncomputable def rCatT (K:YFr):R2:=fun x y H Q=>∃ a b xs ys,x=.ref a/\y=.ref b/\SqT K H a xs/\SqT K H b ys/\xs≠[]/\xs.length + ys.length<=sizeLine /\
 (ys=[]->Q (.ref a) H)/\(ys≠[]->∀ p,H p=none->Q (.ref p) (upd H p (.tup (xs++ys))))
theorem Vals.nil_iff {xs:List V} {us:List Value} (r:Vals xs us):us=[] ↔ xs=[]:=by
 cases r with
 | nil=>simp
 | cons _ _=>simp
theorem op_catT:OpR X (binaryOp .Add) (rCatT X.K):=by
 intro pins s σ H x y v u Q I rx ry h
 obtain ⟨a,b,xs,ys,rfl,rfl,ha,hb,hx,hz,q1,q2⟩:=h
 cases rx
 cases ry
 obtain ⟨its,r1,p1,_⟩:=I.tuple ha
 obtain ⟨its2,r2,p2,_⟩:=I.tuple hb
 refine HT.cat_tup p1 p2 (fun z=>hx (r1.nil_iff.mp z)) (fun z=>⟨.ref a,H,I,rfl,q1 (r2.nil_iff.mp z)⟩) (fun z=>?_) (by rw [<- r1.length,<- r2.length];exact hz)
 refine ⟨.ref s.heap.objs.size,_,I.laid (t':=s.toks) (o:=.tup (xs++ys)) (fun b ob q=>Yd _ q) (Yh _) ?_,rfl,q2 (fun w=>z (r2.nil_iff.mpr w)) _ (I.hok.fresh (Yh _))⟩
 exact ⟨by rw [Yj];exact hz,_,r1.append r2,Yde _ _⟩
end
noncomputable def ixN (n:Nat) (i:Int):Option Nat:=if 0<=i then (if i < n then some i.toNat else none) else if -(n:Int)<=i then some (i + n).toNat else none
noncomputable def atI {α:Type} (xs:List α) (i:Int):Option α:=(ixN xs.length i).bind fun j=>xs[j]?
theorem ixN_seq {n:Nat} {i:Int} {j:Nat} (h:ixN n i=some j):seqIndex? i n=some j/\j < n/\-(n:Int)<=i/\i < n:=by
 unfold ixN at h
 by_cases h0:0<=i
 ·rw [if_pos h0] at h
  by_cases h1:i < n
  ·rw [if_pos h1] at h
   have e:i.toNat=j:=Y3 h
   exact ⟨by rw [seqIndex_of h0 h1,e],by lia,by lia,h1⟩
  ·rw [if_neg h1] at h;cases h
 ·rw [if_neg h0] at h
  by_cases h1:-(n:Int)<=i
  ·rw [if_pos h1] at h
   have e:(i + n).toNat=j:=Y3 h
   exact ⟨by rw [seqIndex_neg (by lia) h1,e],by lia,h1,by lia⟩
  ·rw [if_neg h1] at h;cases h
theorem Zfv {α:Type} {xs:List α} {i:Int} {v:α} (h:atI xs i=some v):∃ j,seqIndex? i xs.length=some j/\xs[j]? = some v/\j < xs.length/\-(xs.length:Int)<=i/\i < xs.length:=by
 unfold atI at h
 cases e:ixN xs.length i with
 | none=>rw [e] at h;cases h
 | some j =>
  rw [e] at h
  obtain ⟨h1,h2,h3,h4⟩:=ixN_seq e
  exact ⟨j,h1,h,h2,h3,h4⟩
theorem Zam {α:Type} {xs:List α} {j:Nat} {v:α} (h:xs[j]? = some v):atI xs (j:Int)=some v:=by
 have hj:j < xs.length:=(Yq.mp h).1
 have e:ixN xs.length (j:Int)=some j:=by
  unfold ixN
  rw [if_pos (by lia),if_pos (by lia)];simp
 unfold atI;rw [e];exact h
noncomputable def PlainIx (b:Expr):Prop:=∀ o i,subscripted b false o i=operate [o,i] (getItem o i)
noncomputable def IxR (X:Cx) (r:R2):Prop :=
 ∀ (value slice:Expr) (pins:List (Addr × Obj)) (s:Shared) (σ:St) (H:Hp) (x y:V) (v u:Value) (Q:VK),Inv X pins σ H s->RelV x v->RelV y u->r x y H Q ->
  subscripted slice false v u=operate [v,u] (getItem v u)->wpAny (model X.prog X.w) X.A (subscriptTail value slice v u) (EP X pins σ Q) X.xe s
noncomputable def MtR (X:Cx) (id:String) (r:V->List V->Hp->VK->Prop):Prop :=
 ∀ (pins:List (Addr × Obj)) (s:Shared) (σ:St) (H:Hp) (x:V) (xs:List V) (v:Value) (us:List Value) (Q:VK),Inv X pins σ H s->RelV x v->Vals xs us->r x xs H Q ->
  wpAny (model X.prog X.w) X.A (call (.builtin id) (v::us)) (EP X pins σ Q) X.xe s
section
variable {X:Cx} {a b:Expr} {ta tb:TE} {pos:Pos}
theorem IxR.or {r r':R2} (h:IxR X r) (h':IxR X r'):IxR X (fun x y H Q=>r x y H Q\/r' x y H Q):=by
 intro value slice pins s σ H x y v u Q I rx ry q hs
 rcases q with q | q
 ·exact h value slice pins s σ H x y v u Q I rx ry q hs
 ·exact h' value slice pins s σ H x y v u Q I rx ry q hs
theorem ZK {r:R2} (hr:IxR X r) (ha:PE X a ta) (hb:PE X b tb) (hs:PlainIx b):PE X (.Subscript a b pos) (tOp r ta tb):=by
 intro pins s σ H Q I h
 exact Subscript_ (binT ha hb I h fun v u s2 x y H2 I2 rx ry q=>hr a b pins s2 σ H2 x y v u Q I2 rx ry q (hs _ _))
noncomputable def rIxL (K:YFr):R2:=fun x y H Q=>∃ p xs i v,x=.ref p/\y=.int i/\SqL K H p xs/\atI xs i=some v/\Q v H
noncomputable def rIxT (K:YFr):R2:=fun x y H Q=>∃ p xs i v,x=.ref p/\y=.int i/\SqT K H p xs/\atI xs i=some v/\Q v H
noncomputable def rIxS:R2:=fun x y H Q=>∃ z i c,x=.str z/\y=.int i/\z.length<=sizeLine/\atI z.cps.toList i=some c/\Q (.str ⟨#[c]⟩) H
theorem ix_list:IxR X (rIxL X.K):=by
 intro value slice pins s σ H x y v u Q I rx ry h hs
 obtain ⟨p,xs,i,z,rfl,rfl,hq,he,q⟩:=h
 cases rx
 obtain ⟨t,rfl⟩:=ry
 obtain ⟨its,r,pl,hz⟩:=I.list hq
 obtain ⟨j,h1,h2,h3,h4,h5⟩:=Zfv he
 obtain ⟨w,ew,rw'⟩:=r.get h2
 have hl:=r.length
 have hn:=Zdp
 have fin:EP X pins σ Q w s:=⟨z,H,I,rw',q⟩
 by_cases h0:0<=i
 ·have hj:i.toNat=j:=by
   rw [seqIndex_of h0 h5] at h1
   exact Y3 h1
  exact item_listR pl.isList h0 (by lia) (by rw [hj];simpa using ew) fin hs
 ·have hj:(i + (its.toArray.size:Int)).toNat=j:=by
   rw [seqIndex_neg (by lia) h4] at h1
   rw [Yk,<- hl]
   exact Y3 h1
  exact Ycw (x:=w) pl.isList.typeIs Ydq.lookup
   (wpAny_getItem_list_neg (Q:=fun r s'=>r=w/\EP X pins σ Q r s') pl.isList (by lia) (by rw [Yk] <;> lia) (by lia) (by rw [hj];simpa using ew) ⟨rfl,fin⟩) hs
theorem ix_tup:IxR X (rIxT X.K):=by
 intro value slice pins s σ H x y v u Q I rx ry h hs
 obtain ⟨p,xs,i,z,rfl,rfl,hq,he,q⟩:=h
 cases rx
 obtain ⟨t,rfl⟩:=ry
 obtain ⟨its,r,pl,hz⟩:=I.tuple hq
 obtain ⟨j,h1,h2,h3,h4,h5⟩:=Zfv he
 obtain ⟨w,ew,rw'⟩:=r.get h2
 have hl:=r.length
 have hn:=Zdp
 have fin:EP X pins σ Q w s:=⟨z,H,I,rw',q⟩
 exact Ycw (x:=w) pl.typeIs slot_tuple_getitem.lookup
  (getItem_tuple (j:=j) (Q:=fun r s'=>r=w/\EP X pins σ Q r s') pl (by lia) (by lia) (by rw [Yk,<- hl];exact h1) (by simpa using ew) ⟨rfl,fin⟩) hs
theorem ix_str:IxR X rIxS:=by
 intro value slice pins s σ H x y v u Q I rx ry h hs
 obtain ⟨z,i,c,rfl,rfl,hz,he,q⟩:=h
 obtain ⟨t,rfl⟩:=rx
 obtain ⟨t',rfl⟩:=ry
 obtain ⟨j,h1,h2,h3,h4,h5⟩:=Zfv he
 have hl:z.cps.toList.length=z.length:=by simp [Str.length]
 rw [hl] at h1 h4 h5
 have hn:=Zdp
 exact tail_any (typeIs_str s z t) slot_str_getitem.lookup (getItem_str (c:=c) (by
  have e1:decide (i < -(2 ^ 63:Int))=false:=YQ (by lia)
  have e2:decide (i ≥ 2 ^ 63)=false:=YQ (by lia)
  rw [e1,e2,Bool.or_false]) (by rw [h1];simpa using h2) ⟨.str ⟨#[c]⟩,H,I.tok _,⟨_,rfl⟩,q⟩) hs
noncomputable def rIx (K:YFr):R2:=fun x y H Q=>rIxL K x y H Q\/rIxT K x y H Q\/rIxS x y H Q
theorem ix_seq:IxR X (rIx X.K):=ix_list.or (ix_tup.or ix_str)
theorem ZeL (lo hi:Option Int) (n:Nat):(sliceBounds lo hi none n).1=((HT.sIx n 0 lo:Nat):Int)/\(sliceBounds lo hi none n).2.1=((HT.sIx n n hi:Nat):Int)/\(sliceBounds lo hi none n).2.2=1:=by
 refine ⟨?_,?_,rfl⟩
 ·cases lo with
  | none=>simp [sliceBounds,HT.sIx]
  | some i =>
   simp only [sliceBounds,HT.sIx,Option.getD_none,show (1:Int) > 0 by decide,if_true]
   by_cases h:i < 0
   ·simp only [h,if_true] <;> lia
   ·simp only [h,YaE] <;> lia
 ·cases hi with
  | none=>simp [sliceBounds,HT.sIx]
  | some i =>
   simp only [sliceBounds,HT.sIx,Option.getD_none,show (1:Int) > 0 by decide,if_true]
   by_cases h:i < 0
   ·simp only [h,if_true] <;> lia
   ·simp only [h,YaE] <;> lia
theorem Zd9 (its:List Value) (lo hi:Option Int):slicePick its.toArray lo hi none=((its.drop (HT.sIx its.length 0 lo)).take (HT.sIx its.length its.length hi - HT.sIx its.length 0 lo)).toArray:=by
 obtain ⟨h1,h2,h3⟩:=ZeL lo hi its.toArray.size
 unfold slicePick
 rw [h1,h2,h3]
 simp only [sliceRange_one,pick_run,Yk] <;> rfl
noncomputable def rSlL (K:YFr):V->Option Int->Option Int->Hp->VK->Prop:=fun x lo hi H Q=>∃ a xs,x=.ref a/\SqL K H a xs/\∀ p,H p=none->Q (.ref p) (upd H p (.lst (cutV xs lo hi)))
theorem sl_list:SlR X (rSlL X.K):=by
 intro pins s σ H x v vl vu lo hi sl Q I rx hs pl pu h
 obtain ⟨a,xs,rfl,hx,q⟩:=h
 cases rx
 obtain ⟨its,r,ht,hz⟩:=I.list hx
 have hlen:=r.length
 refine ⟨"list",_,Ydq.lookup,ht.isList.typeIs,?_⟩
 refine wpAny_getItem_list_slice ht.isList hs pl pu .none (by simp) ?_ (by rw [Yk] <;> lia)
 rw [Zd9,<- hlen]
 refine ⟨.ref s.heap.objs.size,_,I.laid (t':=s.toks) (o:=.lst (cutV xs lo hi)) (fun b ob q=>Yd _ q) (Yh _) ?_,rfl,q _ (I.hok.fresh (Yh _))⟩
 exact ⟨YH (ZcJ xs lo hi) hz,_,0,(r.drop (HT.sIx xs.length 0 lo)).take (HT.sIx xs.length xs.length hi - HT.sIx xs.length 0 lo),Yp _ rfl⟩
noncomputable def Zbz:V->Bool
 | .non=>true
 | .bl _=>true
 | .int _=>true
 | .str _=>true
 | _=>false
noncomputable def eqV:V->V->Bool
 | .non,.non=>true
 | .bl a,.bl b=>a == b
 | .bl a,.int b=>(if a then 1 else 0) == b
 | .int a,.bl b=>a == (if b then 1 else 0)
 | .int a,.int b=>a == b
 | .str a,.str b=>a == b
 | _,_=>false
theorem eqAt_V {A:Around} {s:Shared} {y x:V} {u v:Value} (ry:RelV y u) (rx:RelV x v) (fy:Zbz y=true) (fx:Zbz x=true):SeqAt.EqAt A s u v (eqV y x):=by
 cases y with
 | non =>
  cases ry
  cases x with
  | non=>cases rx;exact SeqAt.EqAt.same _
  | bl b=>cases rx;exact SeqAt.EqAt.none_bool b
  | int b=>obtain ⟨t,rfl⟩:=rx;exact SeqAt.EqAt.none_int b t
  | str b=>obtain ⟨t,rfl⟩:=rx;exact SeqAt.EqAt.none_str b t
  | _=>exact absurd (show false=true from fx) Yr
 | bl a =>
  cases ry
  cases x with
  | non=>cases rx;exact SeqAt.EqAt.bool_none a
  | bl b=>cases rx;exact SeqAt.EqAt.bool_bool a b
  | int b=>obtain ⟨t,rfl⟩:=rx;exact SeqAt.EqAt.bool_int a b t
  | str b=>obtain ⟨t,rfl⟩:=rx;exact SeqAt.EqAt.bool_str a b t
  | _=>exact absurd (show false=true from fx) Yr
 | int a =>
  obtain ⟨t',rfl⟩:=ry
  cases x with
  | non=>cases rx;exact SeqAt.EqAt.int_none a t'
  | bl b=>cases rx;exact SeqAt.EqAt.int_bool a t' b
  | int b=>obtain ⟨t,rfl⟩:=rx;exact SeqAt.EqAt.int_int a t' b t
  | str b=>obtain ⟨t,rfl⟩:=rx;exact Yc6 a t' b t
  | _=>exact absurd (show false=true from fx) Yr
 | str a =>
  obtain ⟨t',rfl⟩:=ry
  cases x with
  | non=>cases rx;exact SeqAt.EqAt.str_none a t'
  | bl b=>cases rx;exact SeqAt.EqAt.str_bool a t' b
  | int b=>obtain ⟨t,rfl⟩:=rx;exact Yc7 a t' b t
  | str b=>obtain ⟨t,rfl⟩:=rx;exact SeqAt.EqAt.str_str a t' b t
  | _=>exact absurd (show false=true from fx) Yr
 | _=>exact absurd (show false=true from fy) Yr
noncomputable def eqU (x:V) (u:Value):Bool:=match u with
 | .none=>eqV .non x
 | .bool b=>eqV (.bl b) x
 | .int i _=>eqV (.int i) x
 | .str z _=>eqV (.str z) x
 | _=>false
theorem eqU_of {x y:V} {u:Value} (r:RelV y u) (f:Zbz y=true):eqU x u=eqV y x:=by
 cases y with
 | non=>cases r;rfl
 | bl b=>cases r;rfl
 | int i=>obtain ⟨t,rfl⟩:=r;rfl
 | str z=>obtain ⟨t,rfl⟩:=r;rfl
 | _=>exact absurd (show false=true from f) Yr
theorem Zc3 {x:V}:∀ {xs:List V} {us:List Value},Vals xs us->xs.all Zbz=true->us.any (eqU x)=xs.any fun y=>eqV y x
 | _,_,.nil,_=>rfl
 | y :: xs,u::us,.cons r t,f=>by
  rw [List.all_cons,Ye] at f
  rw [List.any_cons,List.any_cons,eqU_of r f.1,Zc3 t f.2]
theorem Zb3 {A:Around} {s:Shared} {x:V} {v:Value} (rx:RelV x v) (fx:Zbz x=true):∀ {xs:List V} {us:List Value},Vals xs us->xs.all Zbz=true->∀ u∈us,SeqAt.EqAt A s u v (eqU x u)
 | _,_,.nil,_=>fun u hu=>by cases hu
 | y :: xs,u::us,.cons r t,f=>fun u' hu=>by
  rw [List.all_cons,Ye] at f
  rcases Yv.mp hu with rfl | hu
  ·rw [eqU_of r f.1];exact eqAt_V r rx f.1 fx
  ·exact Zb3 rx fx t f.2 u' hu
noncomputable def inV (x:V) (xs:List V):Bool:=xs.any fun y=>eqV y x
noncomputable def rIn (K:YFr) (neg:Bool):R2:=fun x y H Q=>∃ p xs,y=.ref p/\(SqL K H p xs\/SqT K H p xs)/\Zbz x=true/\xs.all Zbz=true/\Q (.bl (if neg then !inV x xs else inV x xs)) H
theorem Zjg:OpR X (compareOp .In) (rIn X.K false):=by
 intro pins s σ H x y v u Q I rx ry h
 obtain ⟨p,xs,rfl,hq,fx,fs,q⟩:=h
 cases ry
 rcases hq with hq | hq
 ·obtain ⟨its,r,pl,hz⟩:=I.list hq
  refine SeqAt.in_listAt (eqU x) pl.isList (fun w hw=>Zb3 rx fx r fs w (by simpa using hw)) ⟨.bl _,H,I,rfl,?_⟩
  rw [show its.toArray.any (eqU x)=its.any (eqU x) by simp,Zc3 r fs]
  exact q
 ·obtain ⟨its,r,pl,hz⟩:=I.tuple hq
  refine SeqAt.in_tupleAt (eqU x) pl (fun w hw=>Zb3 rx fx r fs w (by simpa using hw)) ⟨.bl _,H,I,rfl,?_⟩
  rw [show its.toArray.any (eqU x)=its.any (eqU x) by simp,Zc3 r fs]
  exact q
theorem ZeZ:OpR X (compareOp .NotIn) (rIn X.K true):=by
 intro pins s σ H x y v u Q I rx ry h
 obtain ⟨p,xs,rfl,hq,fx,fs,q⟩:=h
 cases ry
 rcases hq with hq | hq
 ·obtain ⟨its,r,pl,hz⟩:=I.list hq
  refine SeqAt.notIn_listAt (eqU x) pl.isList (fun w hw=>Zb3 rx fx r fs w (by simpa using hw)) ⟨.bl _,H,I,rfl,?_⟩
  rw [show its.toArray.any (eqU x)=its.any (eqU x) by simp,Zc3 r fs]
  exact q
 ·obtain ⟨its,r,pl,hz⟩:=I.tuple hq
  refine SeqAt.notIn_tupleAt (eqU x) pl (fun w hw=>Zb3 rx fx r fs w (by simpa using hw)) ⟨.bl _,H,I,rfl,?_⟩
  rw [show its.toArray.any (eqU x)=its.any (eqU x) by simp,Zc3 r fs]
  exact q
theorem ZeI:OpR X (compareOp .NotIn) (fun x y H Q=>∃ i j,x=.str i/\y=.str j/\Q (.bl (!(!(Builtin.Str.occurrences j i 0 j.length 1).isEmpty))) H):=by
 intro pins s σ H x y v u Q I rx ry h
 obtain ⟨i,j,rfl,rfl,q⟩:=h
 obtain ⟨t,rfl⟩:=rx
 obtain ⟨t',rfl⟩:=ry
 exact notIn_str ⟨.bl _,H,I,rfl,q⟩
theorem Zej:Zbf X (.builtin "len") (fun xs H Q=>∃ p ys,xs=[.ref p]/\(SqL X.K H p ys\/SqT X.K H p ys)/\Q (.int ys.length) H):=by
 intro pins s σ H xs us Q I r h
 obtain ⟨p,ys,rfl,hq,q⟩:=h
 obtain ⟨u,rfl,rx⟩:=vals1 r
 cases rx
 have hn:=Zdp
 rcases hq with hq | hq
 ·obtain ⟨its,r',pl,hz⟩:=I.list hq
  have hlen:=r'.length
  exact Calls.call_len_list pl.isList (by simp only [Yk] <;> lia) ⟨.int ys.length,H,I.tok _,⟨s.toks + 1,by rw [Yk,hlen]⟩,q⟩
 ·obtain ⟨its,r',pl,hz⟩:=I.tuple hq
  have hlen:=r'.length
  exact len_tuple pl (by simp only [Yk] <;> lia) ⟨.int ys.length,H,I.tok _,⟨s.toks + 1,by rw [Yk,hlen]⟩,q⟩
theorem Zfa:Zbf X (.builtin "len") (fun xs H Q=>∃ z,xs=[.str z]/\z.length<=sizeLine/\Q (.int z.length) H):=by
 intro pins s σ H xs us Q I r h
 obtain ⟨z,rfl,hz,q⟩:=h
 obtain ⟨u,rfl,t,rfl⟩:=vals1 r
 have hn:=Zdp
 exact len_str (by lia) ⟨.int z.length,H,I.tok _,⟨_,rfl⟩,q⟩
theorem Zbf.or {f:Value} {r r':List V->Hp->VK->Prop} (h:Zbf X f r) (h':Zbf X f r'):Zbf X f (fun xs H Q=>r xs H Q\/r' xs H Q):=by
 intro pins s σ H xs us Q I rs q
 rcases q with q | q
 ·exact h pins s σ H xs us Q I rs q
 ·exact h' pins s σ H xs us Q I rs q
theorem Zev:Zbf X (.type "list") (fun xs H Q=>∃ p ys,xs=[.ref p]/\(SqL X.K H p ys\/SqT X.K H p ys)/\∀ l,H l=none->Q (.ref l) (upd H l (.lst ys))):=by
 intro pins s σ H xs us Q I r h
 obtain ⟨p,ys,rfl,hq,q⟩:=h
 obtain ⟨u,rfl,rx⟩:=vals1 r
 cases rx
 have fin:∀ (its:List Value),Vals ys its->ys.length<=sizeLine->∀ (h':Heap) (c':Nat),(∀ b o',s.heap.get? b=some o'->h'.get? b=some o') ->
   h'.get? s.heap.objs.size=some { cls:=.type "list",dict:=none,data:=.seq its.toArray c',slots:=#[] }->EP X pins σ Q (.ref s.heap.objs.size) { s with heap:=h' }:=fun its r' hz h' c' kp e =>
  ⟨.ref s.heap.objs.size,_,I.laid (t':=s.toks) kp (Yh _) (show Zbt X.prog X.w _ h' _ (.lst ys) from ⟨hz,its,c',r',e⟩),rfl,q _ (I.hok.fresh (Yh _))⟩
 rcases hq with hq | hq
 ·obtain ⟨its,r',pl,hz⟩:=I.list hq
  have hlen:=r'.length
  obtain ⟨o,ho,hc,n,hd⟩:=pl.isList
  exact call_list_seq p (.inl rfl) ho hc hd (fun h' c' kp e=>fin its r' hz h' c' kp e) (by simp only [Yk] <;> lia)
 ·obtain ⟨its,r',pl,hz⟩:=I.tuple hq
  have hlen:=r'.length
  obtain ⟨o,ho,hc,n,hd⟩:=pl
  exact call_list_seq p (.inr rfl) ho hc hd (fun h' c' kp e=>fin its r' hz h' c' kp e) (by simp only [Yk] <;> lia)
theorem ZdZ:Zbf X (.type "tuple") (fun xs H Q=>∃ p ys,xs=[.ref p]/\((SqL X.K H p ys/\∀ l,H l=none->Q (.ref l) (upd H l (.tup ys)))\/(SqT X.K H p ys/\Q (.ref p) H))):=by
 intro pins s σ H xs us Q I r h
 obtain ⟨p,ys,rfl,h⟩:=h
 obtain ⟨u,rfl,rx⟩:=vals1 r
 cases rx
 rcases h with ⟨hq,q⟩ | ⟨hq,q⟩
 ·obtain ⟨its,r',pl,hz⟩:=I.list hq
  have hlen:=r'.length
  refine call_tuple_list pl.isList (fun h' kp=>?_) (by simp only [Yk] <;> lia)
  have I1:Inv X pins σ H { s with heap:=h' }:=I.kept (t':=s.toks) kp
  have I2:Inv X pins σ (upd H h'.objs.size (.tup ys)) { s with heap:=h'.push { cls:=.type "tuple",data:=.seq its.toArray } } :=
   I1.laid (t':=s.toks) (fun b o e=>Yd _ e) (Yh _) (show Zbt X.prog X.w _ _ _ (.tup ys) from ⟨hz,its,r',Yde _ _⟩)
  exact ⟨.ref h'.objs.size,_,I2,rfl,q _ (I1.hok.fresh (Yh _))⟩
 ·obtain ⟨its,r',pl,hz⟩:=I.tuple hq
  exact call_tuple_same pl ⟨.ref p,H,I,rfl,q⟩
noncomputable def tyV (K:YFr) (T:String) (x:V) (H:Hp):Prop:=match x with
 | .str _=>T="str"
 | .int _=>T="int"
 | .ref p=>(T="list"/\∃ xs,SqL K H p xs)\/(T="tuple"/\∃ o,K.lookup p=some o/\o.cls=.type "tuple"/\o.dict=none) \/
   (T="dict"/\((∃ kvs,H p=some (.dK kvs))\/∃ kvs,H p=some (.dT kvs)))\/(T="set"/\∃ S n,H p=some (.set S n))
 | _=>False
theorem tyV_is {pins:List (Addr × Obj)} {σ:St} {H:Hp} {s:Shared} {T:String} {x:V} {v:Value} (I:Inv X pins σ H s) (r:RelV x v) (ty:tyV X.K T x H) :
  s.TypeIs v T/\∀ a,v=.ref a->∃ ob,s.heap.get? a=some ob/\ob.dict=none:=by
 cases x with
 | str z =>
  obtain ⟨t,rfl⟩:=r
  cases (show T="str" from ty)
  exact ⟨typeIs_str s z t,fun _ e=>nomatch e⟩
 | int i =>
  obtain ⟨t,rfl⟩:=r
  cases (show T="int" from ty)
  exact ⟨typeIs_int s i t,fun _ e=>nomatch e⟩
 | ref p =>
  cases r
  rcases ty with ⟨rfl,xs,hq⟩ | ⟨rfl,o,hk,hc,hd⟩ | ⟨rfl,hk⟩ | ⟨rfl,S,n,hk⟩
  ·obtain ⟨its,_,pl,_⟩:=I.list hq
   refine ⟨pl.isList.typeIs,fun a e=>?_⟩
   cases e
   obtain ⟨o,n,e,c,hd,_⟩:=pl
   exact ⟨o,e,hd⟩
  ·refine ⟨⟨o,I.kIn p o hk,hc⟩,fun a e=>?_⟩
   cases e
   exact ⟨o,I.kIn _ o hk,hd⟩
  ·have z:∃ o,s.heap.get? p=some o/\o.ExactDict:=by
    rcases hk with ⟨kvs,hk⟩ | ⟨kvs,hk⟩
    ·obtain ⟨_,_,_,_,o,_,_,e,ex,_⟩:=I.hok p _ hk
     exact ⟨o,e,ex⟩
    ·obtain ⟨_,_,_,_,o,_,_,e,ex,_⟩:=I.hok p _ hk
     exact ⟨o,e,ex⟩
   obtain ⟨o,e,ex⟩:=z
   refine ⟨⟨o,e,ex.1⟩,fun a e2=>?_⟩
   cases e2
   exact ⟨o,e,ex.2.1⟩
  ·obtain ⟨o,_,_,_,e,ex,_⟩:=I.hok p _ hk
   refine ⟨⟨o,e,ex.1⟩,fun a e2=>?_⟩
   cases e2
   exact ⟨o,e,ex.2.1⟩
 | _=>exact False.elim ty
noncomputable def tBM0 (K:YFr) (T:String) (r:V->List V->Hp->VK->Prop) (to:TE):TE:=fun σ H Q=>to σ H fun x H1=>tyV K T x H1/\r x [] H1 Q
noncomputable def tBM (K:YFr) (T:String) (r:V->List V->Hp->VK->Prop) (to:TE) (t:TA):TE:=fun σ H Q=>to σ H fun x H1=>tyV K T x H1/\t σ H1 fun xs H2=>r x xs H2 Q
variable {o e:Expr} {es:List Expr} {to:TE} {t:TA} {name:Str} {apos cpos:Pos} {T id:String} {r:V->List V->Hp->VK->Prop}
theorem Zdw (pa:PlainAttrs T) (slot:Slot T name id) (hty:typeOf (.builtin id)=pure (.type "method_descriptor")) (hm:MtR X id r) (ho:PE X o to)
  (hbase:attributeBase o name X.env (eval o X.env)=eval o X.env:=by rfl) (hline:(apos.endLine == cpos.line)=true:=by rfl):PE X (.Call (.Attribute o name apos) [] [] cpos) (tBM0 X.K T r to):=by
 intro pins s σ H Q I h
 refine wpAny_Call_method0_late hbase hline (thn (ho pins s σ H _ I h) fun v s1 h_q=>?_)
 obtain ⟨x,H1,I1,r1,ty,q1⟩:=h_q
 obtain ⟨h1,h2⟩:=tyV_is I1 r1 ty
 exact ⟨T,id,pa,slot,hty,h1,h2,Ycx rfl (PySem.evalArgs_none (hm pins s1 σ H1 x [] v [] Q I1 r1 .nil q1))⟩
theorem ZbK (pa:PlainAttrs T) (slot:Slot T name id) (hty:typeOf (.builtin id)=pure (.type "method_descriptor")) (hm:MtR X id r) (ho:PE X o to) (ha:PA X (e::es) t)
  (hbase:attributeBase o name X.env (eval o X.env)=eval o X.env:=by rfl)
  (hfew:((backTo cpos (starEach (e::es) X.env)).all (fun x=>!x.1) && (backToKw cpos (keywordEach [] X.env)).all (fun x=>x.1.isSome)
   && decide ((e::es).length + ([]:List Keyword).length + (if ([]:List Keyword).isEmpty then 0 else 1) < 30))=true:=by rfl)
  (hline:(apos.endLine == cpos.line)=true:=by rfl) (hs:starEach (e::es) X.env=(false,eval e X.env)::starEach es X.env:=by rfl) (hplain:(backTo cpos (starEach es X.env)).any (·.1)=false:=by rfl) :
  PE X (.Call (.Attribute o name apos) (e::es) [] cpos) (tBM X.K T r to t):=by
 intro pins s σ H Q I h
 refine wpAny_Call_method_late hbase hfew hline rfl (thn (ho pins s σ H _ I h) fun v s1 h_q=>?_)
 obtain ⟨x,H1,I1,r1,ty,q1⟩:=h_q
 obtain ⟨h1,h2⟩:=tyV_is I1 r1 ty
 refine ⟨T,id,pa,slot,hty,h1,h2,?_⟩
 have hA:=ha cpos pins s1 σ H1 _ I1 q1
 rw [hs] at hA ⊢
 refine Ycx (by show (false || (backTo cpos (starEach es X.env)).any (·.1))=false;rw [hplain] <;> rfl) (Calls.evalArgs_plain ?_)
 exact thn hA fun us s2 ⟨vs,H2,I2,r2,q2⟩=>hm pins s2 σ H2 x vs v us Q I2 r1 r2 q2
end
noncomputable def MtM (X:Cx) (id:String) (r:V->List V->Hp->VK->Prop):Prop :=
 ∀ (pins:List (Addr × Obj)) (s:Shared) (σ:St) (H:Hp) (x:V) (xs:List V) (v:Value) (us:List Value) (Q:VK),Inv X pins σ H s->RelV x v->Vals xs us->r x xs H Q ->
  wpAny (model X.prog X.w) X.A (call (.builtin id) (v::us)) (EP X pins σ Q) X.xe s
theorem Vals.one:∀ {x:V} {us:List Value},Vals [x] us->∃ u,us=[u]/\RelV x u
 | _,_,.cons r .nil=>⟨_,rfl,r⟩
theorem Vals.two:∀ {x y:V} {us:List Value},Vals [x,y] us->∃ u v,us=[u,v]/\RelV x u/\RelV y v:=by
 intro x y us h
 cases h with
 | cons r h=>cases h with | cons q h=>cases h;exact ⟨_,_,rfl,r,q⟩
theorem Vals.zero:∀ {us:List Value},Vals [] us->us=[]
 | _,.nil=>rfl
theorem Vals.dropLast {xs:List V} {us:List Value} (h:Vals xs us):Vals xs.dropLast us.dropLast:=by
 induction h with
 | nil=>exact .nil
 | cons r t ih =>
  cases t with
  | nil=>exact .nil
  | cons q t'=>exact .cons r ih
theorem Vals.eraseIdx:∀ {xs:List V} {us:List Value} (i:Nat),Vals xs us->Vals (xs.eraseIdx i) (us.eraseIdx i)
 | _,_,_,.nil=>.nil
 | _,_,0,.cons _ t=>t
 | _,_,i + 1,.cons r t=>.cons r (Vals.eraseIdx i t)
theorem Vals.reverse {xs:List V} {us:List Value} (h:Vals xs us):Vals xs.reverse us.reverse:=by
 induction h with
 | nil=>exact .nil
 | cons r t ih=>rw [Yad,Yad];exact Vals.append ih (.cons r .nil)
theorem Vals.rep {xs:List V} {us:List Value} (h:Vals xs us):∀ k:Nat,Vals (List.replicate k xs).flatten (List.replicate k us).flatten
 | 0=>.nil
 | k + 1=>by
  rw [List.replicate_succ,List.replicate_succ,List.flatten_cons,List.flatten_cons]
  exact Vals.append h (Vals.rep h k)
theorem ZgY {α:Type} (l:List α):l.eraseIdx (l.length - 1)=l.dropLast:=by
 induction l with
 | nil=>rfl
 | cons a r ih =>
  cases r with
  | nil=>rfl
  | cons b r =>
   have e:(a::b::r).length - 1=((b::r).length - 1) + 1:=by
    have h1:(a::b::r).length=r.length + 2:=rfl
    have h2:(b::r).length=r.length + 1:=rfl
    lia
   rw [e,List.eraseIdx_cons_succ,ih]
   all_goals rfl
theorem ZeM {α:Type}:∀ (l:List α) (i:Nat),(l.eraseIdx i).length<=l.length
 | [],_=>Yh _
 | _::_,0=>Ycy _
 | _::r,i + 1=>Nat.succ_le_succ (ZeM r i)
theorem ZeW (its:List Value):∀ (k:Nat) (acc:List Value),
  List.foldl (fun x1 x2=>x1++x2) acc.toArray (List.replicate k its.toArray)=(acc++(List.replicate k its).flatten).toArray
 | 0,acc=>by simp
 | k + 1,acc=>by
  have e:acc.toArray++its.toArray=(acc++its).toArray:=by simp
  have e2:(acc++its)++(List.replicate k its).flatten=acc++(List.replicate (k + 1) its).flatten:=by
   rw [List.replicate_succ,List.flatten_cons,YM]
  rw [<- e2,<- ZeW its k (acc++its),<- e,List.replicate_succ,List.foldl_cons]
section
variable {X:Cx} {pins:List (Addr × Obj)} {σ:St} {H:Hp} {s:Shared} {l b:Addr} {xs ys zs:List V}
theorem Inv.lset {its its':List Value} {n:Nat} {f:Array Value->Array Value} {t':Nat} (I:Inv X pins σ H s) (hH:H l=some (.lst xs))
  (e:s.heap.get? l=some { cls:=.type "list",data:=.seq its.toArray n }) (hf:f its.toArray=its'.toArray) (hv:Vals ys its') (hz:ys.length<=sizeLine) :
  Inv X pins σ (upd H l (.lst ys)) { s with heap:=s.heap.update l (Obj.mapSeq f),toks:=t' }:=by
 have q:=PySem.IsL.update e f
 rw [hf] at q
 refine I.write (x:=l) (e:=l) (by rw [hH];exact trivial) (.inl rfl) (fun b' u hb hu=>(Ycz s.heap (Obj.mapSeq f) (Ne.symm hb)).trans hu) ⟨_,q⟩ ?_
 exact ⟨hz,its',_,hv,q⟩
theorem Inv.lnew {its:List Value} {t':Nat} (I:Inv X pins σ H s) (hv:Vals ys its) (hz:ys.length<=sizeLine) :
  Inv X pins σ (upd H s.heap.objs.size (.lst ys)) { s with heap:=s.heap.push { cls:=.type "list",data:=.seq its.toArray },toks:=t' } :=
 I.laid (fun _ _ q=>Yd _ q) (Yh _) ⟨hz,its,0,hv,Yp _ rfl⟩
theorem Inv.fresh (I:Inv X pins σ H s):H s.heap.objs.size=none:=I.hok.fresh (Yh _)
theorem Inv.lstM (I:Inv X pins σ H s) (hH:H l=some (.lst xs)):xs.length<=sizeLine/\∃ (its:List Value) (n:Nat),Vals xs its/\xs.length=its.length/\s.heap.get? l=some { cls:=.type "list",data:=.seq its.toArray n }:=by
 obtain ⟨z,its,n,r,e⟩:=I.hok l _ hH
 exact ⟨z,its,n,r,r.length,e⟩
theorem Zb4 {n:Nat} (h:n<=sizeLine):Builtin.List.listTooLong n=false:=by
 unfold Builtin.List.listTooLong
 exact YQ (by lia)
end
section
variable {X:Cx}
noncomputable def Zhj:V->List V->Hp->VK->Prop:=fun x vs H Q=>∃ l xs y,x=.ref l/\vs=[y]/\H l=some (.lst xs)/\xs.length < sizeLine/\Q .non (upd H l (.lst (xs++[y])))
theorem ZaR:MtM X "list.append" Zhj:=by
 intro pins s σ H x vs v us Q I rx rv h
 obtain ⟨l,xs,y,rfl,rfl,hH,hz,q⟩:=h
 cases rx
 obtain ⟨u,rfl,ru⟩:=rv.one
 obtain ⟨z,its,n,r,hl,e⟩:=I.lstM hH
 refine YaW F.slot_list_append ⟨_,e,rfl⟩ F.entry_list_append (F.args_list_append_2 _ _) (PySem.list_append l its.toArray n u (by rw [Yk];lia)) ⟨e,?_⟩
 refine ⟨.non,_,I.lset (its':=its++[u]) hH e (by simp) (r.append (.cons ru .nil)) ?_,rfl,q⟩
 rw [Yj,List.length_singleton]
 lia
noncomputable def Zff:V->List V->Hp->VK->Prop:=fun x vs H Q=>∃ l b xs zs,x=.ref l/\vs=[.ref b]/\H l=some (.lst xs)/\H b=some (.lst zs)/\xs.length + zs.length<=sizeLine/\Q .non (upd H l (.lst (xs++zs)))
theorem ZiL:MtM X "list.extend" Zff:=by
 intro pins s σ H x vs v us Q I rx rv h
 obtain ⟨l,b,xs,zs,rfl,rfl,hH,hB,hz,q⟩:=h
 cases rx
 obtain ⟨u,rfl,ru⟩:=rv.one
 cases ru
 obtain ⟨z,its,n,r,hl,e⟩:=I.lstM hH
 obtain ⟨z2,its2,n2,r2,hl2,e2⟩:=I.lstM hB
 have hsz:its.toArray.size + its2.toArray.size<=sizeLine:=by rw [Yk,Yk];lia
 have hlong:¬ (!its.toArray.isEmpty && Builtin.List.listTooLong (its.toArray.size + its2.toArray.size))=true:=by
  rw [Zb4 hsz,YA]
  exact Yr
 refine YaW Ydf ⟨_,e,rfl⟩ YcY (YcO _ _)
  (AutoSeq1.list_extend_list_list_0 l its.toArray n b its2.toArray n2 hlong (by rw [Yk];lia) (by lia)) ⟨e,e2,?_⟩
 refine ⟨.non,_,I.lset (its':=its++its2) hH e (by simp) (r.append r2) ?_,rfl,q⟩
 rw [Yj]
 lia
noncomputable def rPop:V->List V->Hp->VK->Prop:=fun x vs H Q=>∃ l xs y,x=.ref l/\vs=[]/\H l=some (.lst xs)/\xs[xs.length - 1]? = some y/\Q y (upd H l (.lst xs.dropLast))
theorem Zdn:MtM X "list.pop" rPop:=by
 intro pins s σ H x vs v us Q I rx rv h
 obtain ⟨l,xs,y,rfl,rfl,hH,hy,q⟩:=h
 cases rx
 have hus:=rv.zero
 subst hus
 obtain ⟨z,its,n,r,hl,e⟩:=I.lstM hH
 obtain ⟨u,hu,ru⟩:=r.get hy
 have hy':its.toArray[its.toArray.size - 1]? = some u:=by
  show its.toArray[its.length - 1]? = some u
  rw [<- YaG,<- hl]
  exact hu
 refine YaW F.slot_list_pop ⟨_,e,rfl⟩ YdD (F.args_list_pop_1 _) (MeetsSeq.list_pop_last l its.toArray n u hy' (by rw [Yk];lia)) ⟨e,?_⟩
 refine ⟨y,_,I.lset (its':=its.dropLast) hH e ?_ r.dropLast ?_,ru,q⟩
 ·show its.toArray.eraseIdxIfInBounds (its.toArray.size - 1)=its.dropLast.toArray
  rw [Yk,YbL,ZgY]
 ·rw [List.length_dropLast]
  lia
noncomputable def ZiZ:V->List V->Hp->VK->Prop:=fun x vs H Q=>∃ l xs i k y,x=.ref l/\vs=[.int i]/\H l=some (.lst xs)/\-(2 ^ 63)<=i/\i < 2 ^ 63/\seqIndex? i xs.length=some k/\xs[k]? = some y/\Q y (upd H l (.lst (xs.eraseIdx k)))
theorem Zf8:MtM X "list.pop" ZiZ:=by
 intro pins s σ H x vs v us Q I rx rv h
 obtain ⟨l,xs,i,k,y,rfl,rfl,hH,h1,h2,hk,hy,q⟩:=h
 cases rx
 obtain ⟨u,rfl,ru⟩:=rv.one
 obtain ⟨t,rfl⟩:=ru
 obtain ⟨z,its,n,r,hl,e⟩:=I.lstM hH
 obtain ⟨w,hw,rw'⟩:=r.get hy
 refine YaW F.slot_list_pop ⟨_,e,rfl⟩ YdD (F.args_list_pop_2 _ _)
  (MeetsSeq.list_pop_at l its.toArray n i t k w (YcG h1 h2) (by rw [Yk,<- hl];exact hk) (by rw [<- YaG];exact hw) (by rw [Yk];lia)) ⟨e,?_⟩
 refine ⟨y,_,I.lset (its':=its.eraseIdx k) hH e ?_ (r.eraseIdx k) ?_,rw',q⟩
 ·show its.toArray.eraseIdxIfInBounds k=(its.eraseIdx k).toArray
  rw [YbL]
 ·have:=ZeM xs k
  lia
noncomputable def rRep:R2:=fun x y H Q=>∃ l k xs,x=.ref l/\y=.int k/\H l=some (.lst xs)/\-(2 ^ 63)<=k/\k < 2 ^ 63/\xs.length * k.toNat<=sizeLine /\
 ∀ p,H p=none->Q (.ref p) (upd H p (.lst (List.replicate k.toNat xs).flatten))
theorem len_rep {α:Type} (xs:List α) (k:Nat):(List.replicate k xs).flatten.length=k * xs.length:=by
 induction k with
 | zero=>simp
 | succ k ih=>rw [List.replicate_succ,List.flatten_cons,Yj,ih,Nat.succ_mul,Nat.add_comm]
theorem op_rep:OpR X (binaryOp .Mult) rRep:=by
 intro pins s σ H x y v u Q I rx ry h
 obtain ⟨l,k,xs,rfl,rfl,hH,h1,h2,hz,q⟩:=h
 cases rx
 obtain ⟨t,rfl⟩:=ry
 obtain ⟨z,its,n,r,hl,e⟩:=I.lstM hH
 have hlen:its.toArray.size * k.toNat<=sizeLine:=by rw [Yk,<- hl];exact hz
 have hcap:¬ its.toArray.size * k.toNat > (2 ^ 63 - 1) / 8:=by
  have:(sizeLine:Nat)<=(2 ^ 63 - 1) / 8:=by decide
  lia
 have hfit:¬ (!Builtin.List.listFitsIndex k)=true:=by
  rw [YcG h1 h2]
  exact Yr
 have hlong:¬ Builtin.List.listTooLong (its.toArray.size * k.toNat)=true:=by
  rw [Zb4 hlen]
  exact Yr
 have hnew:List.foldl (fun x1 x2=>x1++x2) #[] (List.replicate (if its.toArray.isEmpty=true then 0 else k.toNat) its.toArray)=(List.replicate k.toNat its).flatten.toArray:=by
  have f0:∀ m:Nat,List.foldl (fun x1 x2=>x1++x2) #[] (List.replicate m its.toArray)=(List.replicate m its).flatten.toArray:=fun m=>by
   have:=ZeW its m []
   rw [List.nil_append] at this
   exact this
  rw [f0]
  cases its with
  | nil=>simp
  | cons a r'=>rw [if_neg (by simp)]
 refine wpAny_binaryOp_repeat_ref (T:="list") (U:="int") (by decide) ⟨_,e,rfl⟩ (fun s'=>typeIs_int s' k t) noFill_list_mul F.fills_int_mul F.slot_int_rmul repeat_list F.slot_int_index.lookup
  (YaW F.slot_int_rmul (typeIs_int s k t) F.entry_int_rmul (F.args_int_rmul_2 _ _) (int___rmul___int_list k t l its.toArray n)
   ⟨e,rfl,⟨_,e,rfl⟩,YaW F.slot_list_mul ⟨_,e,rfl⟩ F.entry_list_mul (F.args_list_mul_2 _ _) (AutoListH.list___mul___list_int_3 l its.toArray n k t hfit hcap hlong) ⟨e,?_⟩⟩)
 rw [hnew]
 exact ⟨.ref _,_,I.lnew (t':=s.toks) (r.rep k.toNat) (by rw [len_rep,Nat.mul_comm];exact hz),rfl,q _ I.fresh⟩
end
end L2
namespace Att
open PySem PySem.W PySem.Calls PyProof.Rows
theorem ZcI {P:Params} {h:Heap}:∀ (ns:List Int) (vs:List Value),WellAll P h vs (ns.map WData.int)->IntsAre vs ns:=by
 intro ns
 induction ns with
 | nil =>
  intro vs w
  rw [YbN] at w
  cases w
  exact .nil
 | cons n ns ih =>
  intro vs w
  rw [YE] at w
  cases w with
  | cons a b =>
   cases a
   exact .cons _ _ (ih _ b)
theorem Zif {l:OpenLaw} {n:Nat} (hn:l.most=some n) {P:Params} {h:Heap} {args:List WData} {vals:List Value}
  (hpre:l.row.toRowW.claim.pre args=true) (hwl:WellAll P h vals args) :
  ∃ a vs ns,vals=[Value.ref a]/\args=[WData.list (ns.map WData.int)]/\h.get? a=some { cls:=.type "list",data:=.seq vs.toArray }/\IntsAre vs ns/\ns.length<=n:=by
 have hsh:WShape.hasAll [] args [.list .int]=true:=(pre_splitW hpre).1
 have hc:l.pre.holds [] { args:=args }=true:=(pre_splitW hpre).2
 obtain ⟨d,r,rfl,h1,h2⟩:=hasAllW_cons hsh
 obtain rfl:=hasAllW_nil h2
 obtain ⟨xs,rfl,h3⟩:=hasW_list h1
 obtain ⟨ns,rfl⟩:=items_int h3
 have hlen:ns.length<=n:=by
  unfold OpenLaw.pre at hc
  have h4:(WTm.not (.lt (.lit (.int (n:Int))) (.len (.arg 0)))).holds [] { args:=[.list (ns.map .int)] }=true:=by
   have h4:=(holds_andW hc).1
   rw [hn] at h4
   exact h4
  have h5:=condW_of h4 (w_not (w_lt w_lit (w_len_list (w_arg rfl))))
  rw [Yb] at h5
  refine Ycd fun q=>?_
  have q':(n:Int) < ((ns.length:Nat):Int):=by lia
  first
   | (rw [Yak q'] at h5;exact absurd h5 (by decide))
   | (simp at h5;lia)
 cases hwl with
 | cons w1 w2 =>
  cases w2
  cases w1 with
  | list ho hall=>exact ⟨_,_,ns,rfl,rfl,ho,ZcI ns _ hall,hlen⟩
theorem Zhn (l:OpenLaw) (args:List WData):l.row.toRowW.claim.post args (.bool true) args=true :=
 postW_of (r:=l.row.toRowW) (X:=(true == true))
  (show WShape.has [] (.bool true) .bool=true by first | rfl | decide | simp [WShape.has,WShape.arms,WShape.armsAll])
  (show (WTm.eq .res (.lit (.bool true))).value [] { args:=args,res:=some (.bool true),after:=args }=some (.bool (true == true)) from w_eq_bool (w_res rfl) w_lit) rfl
theorem attach_call {l:OpenLaw} {n:Nat} {q:Program} {loose:List Str} {XP:(Str->Option Value)->Heap->Prop} {YP:World->Heap->Prop} {d:DefRec}
  (hn:l.most=some n) (hdf:d.params.defaults=[])
  (call:∀ (w:World) (s₀ s₁:Shared) (mg mb:Str->Option Value) (fa:Addr) (o:Obj) (pm cd doc:Value) (a:Addr) (vs:List Value) (ns:List Int),
   Ground q loose [] XP w s₀ mg mb s₁.heap->YP w s₁.heap ->
   s₁.heap.get? fa=some o->o.data=.func (docDef d.name d.params d.body d.scope pm cd doc)->s₁.heap.CodeRec cd d.name->mg d.name=some (.ref fa) ->
   s₁.heap.get? a=some { cls:=.type "list",data:=.seq vs.toArray }->IntsAre vs ns->ns.length<=n->s₁.gens=#[] ->
   codeAny (model l.prog w) callerA (.call (.ref fa) ⟨[.ref a],[]⟩) (fun r s'=>r=.ok (.ret (.bool true))/\OldK s₁.heap s'.heap/\s'.os=s₁.os/\AllBare s'.gens) s₁) :
  WalkO q loose XP YP l.row.toRowW d [] (fun f vs=>PySem.call f vs):=by
 intro w s₀ s₁ mg mb G Y fa o pm cd doc dV kV ho hd hcd hD hmg hg args vals as hpre hlay hrd hwl hlo
 obtain rfl:dV=.none:=Dflts.none hD hdf
 obtain rfl:kV=.none:=Dflts.noKw hD
 obtain ⟨a,vs,ns,rfl,rfl,hobj,hints,hlen⟩:=Zif hn hpre hwl
 refine enter_call (Ybp (call w s₀ s₁ mg mb fa o pm cd doc a vs ns G Y ho (fd_plain hd) hcd hmg hobj hints hlen hg) fun r s' hq=>?_)
 obtain ⟨rfl,h2,h3,h4⟩:=hq
 exact ⟨.inl ⟨.bool true,.bool true,[],rfl,fun _=>rfl,.bool true,Zhn l _,fun _=>⟨List.Pairwise.nil,fun _ hm=>(nomatch hm)⟩⟩,h2,h3,h4⟩
end Att
namespace L2
open PySem PySem.Spec PyProof.Rows
theorem Zei:∀ {vs:List Value} {ns:List Int},IntsAre vs ns->Vals (ns.map V.int) vs
 | _,_,.nil=>.nil
 | _,_,.cons n t h=>.cons ⟨t,rfl⟩ (Zei h)
noncomputable def defArgs (s:Stmt):Arguments:=match s with
 | .FunctionDef _ a _ _ _ _ _ _ _ _=>a
 | _=>{ posonlyargs:=[],args:=[],vararg:=none,kwonlyargs:=[],kw_defaults:=[],kwarg:=none,defaults:=[] }
noncomputable def defBody (s:Stmt):List Stmt:=match s with
 | .FunctionDef _ _ b _ _ _ _ _ _ _=>b
 | _=>[]
noncomputable def defScope (s:Stmt):Scope:=match s with
 | .FunctionDef _ _ _ _ _ _ sc _ _ _=>sc
 | _=>{ kind:=.function,names:=[],isGenerator:=false,isCoroutine:=false }
noncomputable abbrev CX0:CXT:=fun _ _ _ _ _ _=>False
noncomputable abbrev E0:XK:=fun _ _ _=>False
theorem ZZ {X:Cx}:Zf6 CX0 X E0:=fun _ _ _ _ _ _ _ h=>h.elim
structure Fun (K:YFr) (x qual:Str) (st:Stmt) (f:Addr) (fd:FuncData):Prop where
 ex : ∃ (oc:Value) (od:Option Addr) (kV doc pm:Value) (an:Option Addr) (cdv ct:Value) (osl:Array (Option Value)),
  fd=PySem.W.fnOf x qual (defArgs st) (defBody st) (defScope st) .none kV doc pm an cdv ct/\K.lookup f=some ⟨oc,od,.func fd,osl⟩/\PySem.W.codeIn K cdv qual=true
 kp:PySem.W.keepIn K (.ref f)=true
section
variable {P:Program} {w:World} {K:YFr} {mg:Str->Option Value} {base:Heap}
theorem Fun.ok {x qual:Str} {st:Stmt} {f:Addr} {fd:FuncData} {N ps:List Str} {k:Nat} {sp:Sp} (F:Fun K x qual st f fd) (S:ZB N ps (defScope st)) (len:∀ vs H Q E,sp vs H Q E->vs.length=ps.length)
  (hbody:∀ (cdv:Value) (A:Around) (outer:List Env) (s:Shared) (H:Hp) (vs:List V) (Q:VK) (E:XK),Room k (A.deeper (envOfC qual (defScope st) s.heap.objs.size f cdv))->sp vs H Q E ->
   ∃ t,PSs (cxOf CX0 P w K mg base N qual (defScope st) f cdv A outer s H E).nox (defBody st) t/\t { nx:=fun _ H'=>Q .non H',rt:=Q } (start N vs) H):FnOk P w K mg base CX0 (k + 1) f fd ps sp:=by
 obtain ⟨oc,od,kV,doc,pm,an,cdv,ct,osl,rfl,lk,hcd⟩:=F.ex
 refine fn_of lk hcd S len fun A outer s H vs Q E hr hsp=>?_
 obtain ⟨t,h,q⟩:=hbody cdv A outer s H vs Q E hr hsp
 exact ⟨t,h.nox,q⟩
theorem Fun.binds {x qual:Str} {st:Stmt} {f:Addr} {fd:FuncData} {ps:List Str} (F:Fun K x qual st f fd)
  (h:∀ (kV doc pm:Value) (an:Option Addr) (cdv ct:Value) (us:List Value),us.length=ps.length->bindArgs (PySem.W.fnOf x qual (defArgs st) (defBody st) (defScope st) .none kV doc pm an cdv ct) ⟨us,[]⟩=pure (ps.zip us)):Zav K fd ps []:=by
 obtain ⟨oc,od,kV,doc,pm,an,cdv,ct,osl,rfl,lk,hcd⟩:=F.ex
 exact .all (h kV doc pm an cdv ct)
theorem Zak {x qual:Str} {st:Stmt} {f:Addr} {oc:Value} {od an:Option Addr} {osl:Array (Option Value)} {kV doc pm cdv ct:Value} (l:K.lookup f=some ⟨oc,od,.func (PySem.W.fnOf x qual (defArgs st) (defBody st) (defScope st) .none kV doc pm an cdv ct),osl⟩)
  (c:PySem.W.codeIn K cdv qual=true) (k:PySem.W.keepIn K (.ref f)=true):Fun K x qual st f (PySem.W.fnOf x qual (defArgs st) (defBody st) (defScope st) .none kV doc pm an cdv ct):=⟨⟨oc,od,kV,doc,pm,an,cdv,ct,osl,rfl,l,c⟩,k⟩
end
theorem ZiJ {n:Nat} (h:n<=1000):n < sizeLine:=Yb0 h (by decide)
section
variable {X:Cx}
theorem pv (i:Nat) {x:Str} {pos:Pos} (hN:X.N[i]? = some x:=by rfl) (hv:Vis X.env.scope x:=by first | exact Or.inl rfl | exact Or.inr (Or.inl rfl) | exact Or.inr (Or.inr rfl)) (hd:(x == ("__debug__":Str))=false:=by decide)
  (hcd:(x == ("__classdict__":Str))=false:=by decide):PE X (.Name x pos) (tVar i):=pe_var hN hv hd hcd
end
noncomputable def Same (H H':Hp):Prop:=∀ b o,H b=some o->H' b=some o
theorem Same.refl (H:Hp):Same H H:=fun _ _ h=>h
theorem Same.trans {H H1 H2:Hp} (a:Same H H1) (b:Same H1 H2):Same H H2:=fun c o h=>b c o (a c o h)
open PySem PySem.W
noncomputable def Zc6 (tb:String->Option Builtin) (p:Program) (w:World) (n₀:Nat) (ann:Option Value):Nat->SharedT->Thread->Option SharedT
 | 0,_,_=>none
 | n + 1, s,t=>match through t with
  | true=>some s
  | false=>match stepOk n₀ ann t with
   | false=>none
   | true=>match stepT (denote tb) p w s t with
    | some (s',t')=>Zc6 tb p w n₀ ann n s' t'
    | none=>none
theorem ZeO {tb:String->Option Builtin} {p:Program} {w:World} {n₀:Nat} {ann:Option Value}:∀ {n:Nat} {s s':SharedT} {t:Thread},Zc6 tb p w n₀ ann n s t=some s'->topRun tb p w n₀ ann n s.abs t=some s'.abs
 | 0,_,_,_,h=>by cases h
 | n + 1, s,s',t,h=>by
  unfold Zc6 at h
  unfold topRun
  cases ht:through t with
  | true=>rw [ht] at h;cases h;rfl
  | false =>
   rw [ht] at h
   cases hk:stepOk n₀ ann t with
   | false=>rw [hk] at h;cases h
   | true =>
    rw [hk] at h
    cases hs:stepT (denote tb) p w s t with
    | none=>rw [hs] at h;cases h
    | some r=>obtain ⟨s₂,t₂⟩:=r;rw [hs] at h;rw [stepT_spec hs];exact ZeO h
noncomputable def ZfG (x:Option (BT × Nat)) (o:Obj):Option (BT × Nat):=match x with
 | none=>none
 | some (t,n)=>match ((t.ins n o).get n).isSome with
  | true=>some (t.ins n o,n + 1)
  | false=>none
noncomputable def Zi3 (l:List Obj):Option (BT × Nat):=l.foldl ZfG (some (.nil,0))
theorem ZeX:∀ l:List Obj,l.foldl ZfG none=none
 | []=>rfl
 | o::l=>ZeX l
theorem Zgz:∀ (l pre:List Obj) (t:BT) (n:Nat) (T:BT) (m:Nat) (life:Life),n=pre.length->absHeap t n life=⟨pre.toArray,life⟩->l.foldl ZfG (some (t,n))=some (T,m)->m=(pre++l).length/\absHeap T m life=⟨(pre++l).toArray,life⟩
 | [],pre,t,n,T,m,life,hn,h,e=>by
  cases e
  rw [Y4]
  exact ⟨hn,h⟩
 | o :: l,pre,t,n,T,m,life,hn,h,e=>by
  rw [List.foldl_cons] at e
  cases hs:((t.ins n o).get n).isSome with
  | false =>
   have:ZfG (some (t,n)) o=none:=by unfold ZfG;simp only [hs]
   rw [this,ZeX] at e;cases e
  | true =>
   have hp:ZfG (some (t,n)) o=some (t.ins n o,n + 1):=by unfold ZfG;simp only [hs]
   rw [hp] at e
   have:=Zgz l (pre++[o]) (t.ins n o) (n + 1) T m life (by rw [Yj,hn];rfl) (by
    rw [absHeap_ins hs,h]
    show Heap.mk _ _=Heap.mk _ _
    simp) e
   rw [YM] at this
   exact this
theorem Zit {l:List Obj} {T:BT} {m:Nat} {life:Life} (h:Zi3 l=some (T,m)):m=l.length/\absHeap T m life=⟨l.toArray,life⟩:=by
 have:=Zgz l [] .nil 0 T m life rfl rfl h
 simpa using this
noncomputable def ZgB {β:Type}:List Obj->(List Obj->β)->β
 | [],k=>k []
 | ⟨a,b,c,d⟩::l,k=>ZgB l fun l'=>k (⟨a,b,c,d⟩::l')
theorem Zeg {β:Type}:∀ (l:List Obj) (k:List Obj->β),ZgB l k=k l
 | [],k=>rfl
 | ⟨a,b,c,d⟩::l,k=>by rw [ZgB,Zeg l]
noncomputable def headT {β:Type} (p:Program) (w:World) (os:OsState) (m:Nat) (ann:Option Value) (M:Nat) (k:Shared->β):Option β :=
 match Zi3 (boot_heap w.params).objs.toList with
 | none=>none
 | some (T,n)=>match Zc6 treeTable p w m ann M ⟨T,n,(boot_heap w.params).life,#[],boot_drawn,boot_toks,os⟩ (topStub p) with
  | none=>none
  | some s=>some (ZgB (s.tree.list s.n) fun l=>k ⟨⟨l.toArray,s.life⟩,s.gens,s.drawn,s.toks,s.os⟩)
theorem ZiB {β:Type} {p:Program} {w:World} {os:OsState} {m:Nat} {ann:Option Value} {M:Nat} {k:Shared->β} {r:β} (h:headT p w os m ann M k=some r):∃ s,topRun treeTable p w m ann M ⟨boot_heap w.params,#[],boot_drawn,boot_toks,os⟩ (topStub p)=some s/\k s=r:=by
 unfold headT at h
 cases hb:Zi3 (boot_heap w.params).objs.toList with
 | none=>rw [hb] at h;cases h
 | some x =>
  obtain ⟨T,n⟩:=x
  rw [hb] at h
  obtain ⟨hn,ha⟩:=Zit (life:=(boot_heap w.params).life) hb
  have ha:absHeap T n (boot_heap w.params).life=boot_heap w.params:=by rw [ha]
  simp only at h
  cases ht:Zc6 treeTable p w m ann M ⟨T,n,(boot_heap w.params).life,#[],boot_drawn,boot_toks,os⟩ (topStub p) with
  | none=>rw [ht] at h;cases h
  | some s =>
   rw [ht] at h
   simp only [Zeg,Option.some.injEq] at h
   have:=ZeO ht
   rw [show (SharedT.mk T n (boot_heap w.params).life #[] boot_drawn boot_toks os).abs=⟨boot_heap w.params,#[],boot_drawn,boot_toks,os⟩ from by unfold SharedT.abs;simp only;rw [ha]] at this
   exact ⟨s.abs,this,h⟩
theorem ZgV {p q:Program} {loose:List Str} {Xt:Shared->Bool} {α:Type} {Yf:Shared->α} {Ya:World->α} {N:Nat} {g0:Bool} {m:Nat} {ann:Option Value}
  (e:opening p=plainProg p.main.scope.names) (hN:Nat.ble 600 N=true) (f:∀ s,fenceModules? p s=some s)
  (size:∀ w:World,((boot_heap w.params).isNs mainGlobals,(boot_heap w.params).objs.size,(boot_heap w.params).nsMap mainGlobals "__annotations__")=(true,m,ann))
  (run:∀ (w:World) (os:OsState),headT p w os m ann N (fun s=>(staticsOk (importedModules p.main.body) (boot_heap w.params) s.heap && namesBound p s.heap && gensDone s && laidKept (boot_heap w.params) s.heap,openSeen q loose (importedModules p.main.body) Xt g0 s,Yf s))=some (true,openGood q loose,Ya w)) :
  LeftO p q loose Xt Yf Ya N g0:=fun w=>by
 obtain ⟨⟨h,gs,d,k,os⟩,eo,e'⟩:=Y8.mp (boot_open e hN f w)
 obtain ⟨rfl,rfl,rfl,rfl⟩:h=boot_heap w.params/\gs=#[]/\d=boot_drawn/\k=boot_toks:=by simpa using e'
 obtain ⟨z1,z2,z3⟩:_/\_/\_:=by simpa only [Prod.mk.injEq] using size w
 obtain ⟨s,r,l⟩:=ZiB (run w os)
 obtain ⟨l1,l2,l3⟩:_/\_/\_:=by simpa only [Prod.mk.injEq] using l
 have t:topFrom treeTable p w N ⟨boot_heap w.params,#[],boot_drawn,boot_toks,os⟩=some s:=by
  unfold topFrom
  dsimp only
  rw [z1,z2,z3,r]
  show (match staticsOk (importedModules p.main.body) (boot_heap w.params) s.heap && namesBound p s.heap && gensDone s && laidKept (boot_heap w.params) s.heap with | true=>_ | false=>_)=_
  rw [l1]
 unfold openEnds
 rw [eo]
 show (topFrom treeTable p w N _).map _=_
 rw [t]
 exact congrArg some (Prod.ext l2 l3)
noncomputable def hEnt (P:Params) (x:Str) (t:Nat) (v:Value):DictEntry:=⟨PyData.keyHash P x,.str x t,v⟩
noncomputable def hNs (n:Nat) (es:List DictEntry):Obj:=⟨.type "dict",none,.dict es.toArray n,#[]⟩
noncomputable def hTup (vs:List Value):Obj:=⟨.type "tuple",none,.seq vs.toArray 0,#[]⟩
noncomputable def hRf:Option Nat->Value
 | some a=>.ref a
 | none=>.none
noncomputable def ZaP (x q:Str) (t ln ac fl a b:Nat) (d e:Option Nat) (f m n:Nat):Obj :=
 ⟨.type "code",none,.fields #[.str x t,.str q (t + 1),.str "/claim/cut.py" (t + 2),.int ln 0,.int ac 0,.int 0 0,.int 0 0,.int fl 0,.ref a,.bool true,.int 181 0,.ref b,.none,hRf d,hRf e,.ref f,.int m 0,.int ln 0,.str "/claim/cut.py" n],#[]⟩
noncomputable def hFun (st:Stmt) (x q:Str) (pm:Value) (c:Nat):Obj:=⟨.type "function",none,.func (fnOf x q (defArgs st) (defBody st) (defScope st) .none .none .none pm none (.ref c) .none),#[]⟩
noncomputable def hBoot (w:World):Bool × Nat × Option Value:=((boot_heap w.params).isNs mainGlobals,(boot_heap w.params).objs.size,(boot_heap w.params).nsMap mainGlobals "__annotations__")
end L2
set_option maxHeartbeats 4000000
namespace L2
open PySem PySem.Spec PyProof.Rows
theorem ZeA {prog:Program} {w:World} {A:Around} {R:Result->Shared->Prop} {s:Shared} {elt target iter:Expr} {ifs:List Expr} {scope:Scope} {pos:Pos} {it acc:Value} {env:Env} (I:Nat->Shared->Prop)
  (turn : ∀ n s,I n s->wpAny (model prog w) A (pyNext it) (fun r s₁=>match r with
   | none=>R (.ok .next) s₁
   | some v => wpAny (model prog w) A (letOwnedTupleGo target it v) (fun _ s₁'=>wpAny (model prog w) A (assign target env v) (fun _ s₂ =>
     wpAny (model prog w) A (forIn ifs true fun c r=>if r=true then do let ok <- isTrue c env (eval c env);pure (ForInStep.yield ok) else pure (ForInStep.yield r)) (fun ok s₃ =>
      if ok=true then wpAny (model prog w) A (eval elt env) (fun x s₄ =>
       wpAny (model prog w) A (call (.builtin "list.append") [acc,x]) (fun _ s₅=>∃ m,m < n/\I m s₅) (fun _ _=>False) s₄) (fun _ _=>False) s₃
      else ∃ m,m < n/\I m s₃) (fun _ _=>False) s₂) (fun _ _=>False) s₁') (fun _ _=>False) s₁) (fun _ _=>False) s)
  (n:Nat) (h:I n s) :
  codeAny (model prog w) A (.compLoop (.ListComp elt [⟨target,iter,ifs,0⟩] scope pos) 0 it acc env) R s:=by
 refine codeAny_loop rfl I (fun n s hI=>?_) n h
 show wpAny _ A ((compTurn (.ListComp elt [⟨target,iter,ifs,0⟩] scope pos) 0 it acc env).onRaise (fun x=>do noteFrame x env;theTreesLotGoes x)) _ _ s
 refine wpAny_noted ?_
 rw [compTurn_list]
 refine Yc (Ya1 (Yc (YR (turn n s hI) (fun r s₁ h₁=>?_) fun _ _ h'=>h'.elim)))
 cases r with
 | none=>exact Yi h₁
 | some v =>
  refine Yc (YR h₁ (fun _ s₁' h₁'=>?_) fun _ _ h'=>h'.elim)
  refine Yc (YR h₁' (fun _ s₂ h₂=>Yc (YR h₂ (fun ok s₃ h₃=>?_) fun _ _ h'=>h'.elim)) fun _ _ h'=>h'.elim)
  cases ok with
  | false=>exact Yi ⟨rfl,h₃⟩
  | true =>
   exact Yc (Yc (YR h₃ (fun x s₄ h₄=>Yc (YR h₄ (fun _ s₅ h₅=>Yi (Yi ⟨rfl,h₅⟩)) fun _ _ h'=>h'.elim)) fun _ _ h'=>h'.elim))
noncomputable def Cx.comp (X:Cx) (scope:Scope) (cl:List (Str × Addr)) (N:List Str) (pins:List (Addr × Obj)) (s:Shared) (H:Hp) (fp:List Addr):Cx where
 prog:=X.prog
 w := X.w
 K := X.K
 mg:=X.mg
 base:=X.base
 A := X.A
 N := N
 s₀:=s
 H₀:=H
 env:=compEnvC scope cl s.heap.objs.size X.env
 outer:=X.stack
 stack:=X.stack
 ex:=fp
 fn:=fun _=>false
 calm:=X.calm
 pn:=X.pn++pins
 xe:=fun _ _=>False
noncomputable def ZaQ (nt:Nat) (frs:List (Str × Nat)) (σ:St):St:=List.replicate nt none++frs.map fun p=>(σ[p.2]?).join
structure Za0 (X:Cx) (scope:Scope) (cl:List (Str × Addr)) (ts:List Str) (frs:List (Str × Nat)):Prop where
 clos:closureFor scope X.env=pure cl
 kind:scope.kind=.function
 nocell:∀ y∈scope.names,y.2≠.cell
 names:∀ y∈scope.names,y.2=.local->scope.names.lookup y.1=some .local
 sub:∀ p∈cl,X.env.cells.lookup p.1=some p.2
 has:∀ p∈(relabel scope X.env).names,p.2=.cell\/p.2=.free->(cl.lookup p.1).isSome=true
 out:∀ p∈frs,X.N[p.2]? = some p.1/\(X.env.kindOf p.1=some .cell\/X.env.kindOf p.1=some .free)/\((relabel scope X.env).names.lookup p.1=some .cell\/(relabel scope X.env).names.lookup p.1=some .free)/\(cl.lookup p.1).isSome=true
section
variable {X:Cx} {scope:Scope} {cl:List (Str × Addr)} {ts:List Str} {frs':List (Str × Nat)} {pins:List (Addr × Obj)} {σ:St} {H:Hp} {s:Shared} {fp:List Addr}
theorem Za0.subL (S:Za0 X scope cl ts frs') {x:Str} {c:Addr} (h:cl.lookup x=some c):X.env.cells.lookup x=some c:=S.sub (x,c) (Yas h)
theorem Za0.inv (S:Za0 X scope cl ts frs') (I:Inv X pins σ H s) (hf:∀ b∈fp,FpOk X pins H b) (hlt:∀ b∈fp,b < s.heap.objs.size) {h₁:Heap} {tk:Nat} {m:Str->Option Value} (hns:h₁.Ns s.heap.objs.size m)
  (hk:∀ b o,s.heap.get? b=some o->h₁.get? b=some o):Inv (X.comp scope cl (ts++frs'.map (·.1)) pins s H fp) [] (ZaQ ts.length frs' σ) H { s with heap:=h₁,toks:=tk }:=by
 have hC:∀ b o,s.heap.get? b=some o->b≠s.heap.objs.size:=fun b o e=>Yx (Ym e)
 have hcell:∀ x c,cl.lookup x=some c->∃ v,h₁.IsCell c v:=fun x c e=>by
  obtain ⟨v,o,ho,hd⟩:=I.cell x c (S.subL e)
  exact ⟨v,o,hk c o ho,hd⟩
 refine ⟨⟨I.ok.mod,?_,I.ok.glob,I.ok.blt,Yh _,fun x y c h1 h2=>I.ok.inj x y c (S.subL h1) (S.subL h2),fun x hx=>?_,fun x c z=>(by cases z),I.ok.hd,I.ok.frames,.inl rfl,fun b hb=>⟨Yx (hlt b hb),fun x c e=>?_⟩,I.bs,YH I.ok.bsz I.sz,fun b o e hb=>?_,fun b hb z=>?_,I.stack,I.stkFree⟩,
  rfl,I.bare,Un.kept hk,⟨m,hns,fun i x v h1 h2 h3=>?_⟩,hcell,I.hok.fresh (Yh _),fun x c e=>I.freeC x c (S.subL e),fun p hp=>?_,I.hok.kept hk,?_⟩
 ·exact S.kind
 ·have hx':(relabel scope X.env).names.lookup x=some .cell\/(relabel scope X.env).names.lookup x=some .free:=hx
  have:(cl.lookup x).isSome=true:=by
   rcases hx' with e | e
   ·exact S.has (x,.cell) (Yas e) (.inl rfl)
   ·exact S.has (x,.free) (Yas e) (.inr rfl)
  exact Ybr.mp this
 ·exact (hf b hb).2.2.2.2.1 x c (S.subL e)
 ·obtain ⟨_,_,_,h4,_⟩:=hf b hb
  rcases h4 with h4 | h4
  ·exact I.ok.noex b o e h4
  ·exact absurd (YI (Ym e) (YH I.ok.bsz h4)) (YaR _)
 ·obtain ⟨_,h2,h3,_⟩:=hf b hb
  rcases Yv.mp (I.stkSub b z) with e | e
  ·exact h2 e
  ·exact h3 e
 ·have hi : ts.length<=i:=by
   by_cases hi:ts.length<=i
   ·exact hi
   ·have:(ZaQ ts.length frs' σ)[i]? = some none:=by
     unfold ZaQ
     rw [YaI (by simp;lia),Ycn,if_pos (by lia)]
    rw [this] at h2;cases h2
  obtain ⟨p,hp,e1,e2⟩:∃ p∈frs',p.1=x/\(σ[p.2]?).join=some v:=by
   have h1':(ts++frs'.map (·.1))[i]? = some x:=h1
   have h2':(ZaQ ts.length frs' σ)[i]? = some (some v):=h2
   unfold ZaQ at h2'
   rw [YaD hi,Yl] at h1'
   rw [YaD (by simpa using hi),Yl,YcF] at h2'
   cases e:frs'[i - ts.length]? with
   | none=>rw [e] at h1';cases h1'
   | some p =>
    rw [e] at h1' h2'
    exact ⟨p,YG e,Y3 h1',Y3 h2'⟩
  obtain ⟨o1,o2,o3,o4⟩:=S.out p hp
  rw [e1] at o1 o2 o3 o4
  have e3:σ[p.2]? = some (some v):=by
   cases e:σ[p.2]? with
   | none=>rw [e] at e2;cases e2
   | some q=>rw [e] at e2;exact congrArg some e2
  obtain ⟨m',_,hl⟩:=I.loc
  have hv:Vis X.env.scope x:=by
   rcases o2 with o2 | o2
   ·exact .inr (.inl o2)
   ·exact .inr (.inr o2)
  obtain ⟨u,r,l⟩:=hl p.2 x v o1 e3 hv
  refine ⟨u,r,.inr ⟨o3,?_⟩⟩
  obtain ⟨c,hc⟩:=Ybr.mp o4
  rcases l with ⟨k,_⟩ | ⟨_,c',e,ob,ho,hd⟩
  ·rcases o2 with o2 | o2 <;> (rw [o2] at k;cases k)
  ·have:c'=c:=by have:=S.subL hc;rw [this] at e;exact (Y3 e).symm
   subst this
   exact ⟨c',hc,ob,hk c' ob ho,hd⟩
 ·have hp':p∈X.pn++pins:=by
   have:p∈(X.pn++pins)++[]:=hp
   rwa [Y4] at this
  obtain ⟨e,n,ne,nf,d⟩:=I.pin p hp'
  refine ⟨hk _ _ e,n,hC _ _ e,fun z=>?_,d⟩
  rcases Yv.mp (I.stkSub _ z) with e' | e'
  ·exact ne e'
  ·exact nf e'
 ·show (ZaQ ts.length frs' σ).length=(ts++frs'.map (·.1)).length
  unfold ZaQ
  simp
theorem Za0.after (I:Inv X pins σ H s) (hf:∀ b∈fp,FpOk X pins H b) {N:List Str} {σ':St} {H':Hp} {s':Shared} (J:Inv (X.comp scope cl N pins s H fp) [] σ' H' s') {h':Heap} (hs:Heap.SameBut s.heap.objs.size s'.heap h') :
  Inv X pins σ H' { s' with heap:=h' }:=by
 have hC:∀ b o,s.heap.get? b=some o->b≠s.heap.objs.size:=fun b o e=>Yx (Ym e)
 have fr:H' s.heap.objs.size=none:=J.free
 refine I.call' (s':={ s' with heap:=h' }) (ch:=fp) J.os ?_ ?_ J.bare fun b hb=>?_
 ·have u:=J.base
  exact ⟨fun b o e n h1 h2=>(hs.2 b (hC b o e)).trans (u.keep b o e n h1 h2),fun b o e n h1 h2=>by
    obtain ⟨sl,q⟩:=u.slot b o e n h1 h2
    exact ⟨sl,(hs.2 b (hC b o e)).trans q⟩,u.free,fun b o e h2=>by
    obtain ⟨o',q⟩:=u.there b o e h2
    exact ⟨o',(hs.2 b (hC b o e)).trans q⟩,u.tups,u.frzs,u.tbls⟩
 ·intro b ob e
  refine (J.hok b ob e).stay (fun c w' hc q=>(hs.2 c ?_).trans q) (fun _ q=>q) fun _ _ q=>q
  rintro rfl
  rcases hc with hc | hc
  ·rw [<- hc,fr] at e;cases e
  ·rw [fr] at hc;cases hc
 ·obtain ⟨h1,h2,h3,h4,h5,h6⟩:=hf b hb
  exact ⟨h4,h2,h5,h6⟩
end
noncomputable def PIfs (X:Cx) (ifs:List Expr) (t:TT):Prop :=
 ∀ (pins:List (Addr × Obj)) (s:Shared) (σ:St) (H:Hp) (Q:Bool->Hp->Prop),Inv X pins σ H s->t σ H Q ->
  wpAny (model X.prog X.w) X.A (forIn ifs true fun c r=>if r=true then do let ok <- isTrue c X.env (eval c X.env);pure (ForInStep.yield ok) else pure (ForInStep.yield r)) (TP X pins σ Q) X.xe s
noncomputable def tTrue:TT:=fun _ H Q=>Q true H
theorem ZW {X:Cx}:PIfs X [] tTrue:=fun _ _ _ H _ I h=>wpAny_tests_nil ⟨H,I,h⟩
noncomputable def tComp (nt:Nat) (frs:List (Str × Nat)) (wi:TI) (g:TG) (tt:TT) (te:TE):TE:=fun σ H Q=>wi σ H fun J H1=>∀ l,H1 l=none->∃ W:Nat->Nat->St->Hp->Prop,(∃ m,W 0 m (ZaQ nt frs σ) (upd H1 l (.lst []))) /\
 ∀ i m τ H,W i m τ H->(J.stop i H/\Q (.ref l) H)\/(J.go i H/\∀ x H',J.yld i H x H'->g x τ H' fun τ2 H2=>tt τ2 H2 fun ok H3 =>
  if ok=true then te τ2 H3 fun y H4=>∃ ys,H4 l=some (.lst ys)/\ys.length < sizeLine/\∃ m',m' < m/\W (i + 1) m' τ2 (upd H4 l (.lst (ys++[y]))) else ∃ m',m' < m/\W (i + 1) m' τ2 H3)
open PySem PySem.Spec PyProof.Rows PySem.Builtin.Str
noncomputable def cutS (z:Str) (lo hi:Option Int):Str:=⟨((z.cps.toList.drop (HT.sIx z.cps.toList.length 0 lo)).take (HT.sIx z.cps.toList.length z.cps.toList.length hi - HT.sIx z.cps.toList.length 0 lo)).toArray⟩
theorem Zcw (v:Int) (n d:Nat):max 0 (min (if v < 0 then v + (n:Int) else v) (n:Int))=((HT.sIx n d (some v):Nat):Int):=by
 rw [<- HT.clip_eq v n d]
 split <;> lia
theorem ZgZ (lo hi:Option Int) (n:Nat):strSliceIndices lo hi 1 n=(List.range (HT.sIx n n hi - HT.sIx n 0 lo)).map fun k=>HT.sIx n 0 lo + k:=by
 have h1:∀ (a b:Nat),sliceRange (a:Int) (b:Int) 1=(List.range (b - a)).map fun k=>a + k:=by
  intro a b
  unfold sliceRange
  simp only [show (1:Int) > 0 by decide,if_true]
  have e:(if (a:Int) < (b:Int) then ((b:Int) - (a:Int) + 1 - 1) / 1 else 0).toNat=b - a:=by
   rw [Ydc]
   split <;> lia
  rw [e]
  refine YaB fun k _=>?_
  lia
 unfold strSliceIndices
 simp only [show (1:Int) > 0 by decide,if_true]
 cases lo with
 | none =>
  cases hi with
  | none=>exact h1 0 n
  | some v =>
   dsimp only
   rw [Zcw v n n]
   exact h1 0 _
 | some u =>
  cases hi with
  | none =>
   dsimp only
   rw [Zcw u n 0]
   exact h1 _ n
  | some v =>
   dsimp only
   rw [Zcw u n 0,Zcw v n n]
   exact h1 _ _
theorem Zg3 (l:List Nat) (a k:Nat) (h:a + k<=l.length):((List.range k).map fun i=>a + i).filterMap (fun i=>l[i]?)=(l.drop a).take k:=by
 induction k generalizing a with
 | zero=>simp
 | succ k ih =>
  rw [YcA,YE,List.filterMap_cons]
  have ha:a < l.length:=by lia
  simp only [Nat.add_zero]
  rw [Yg ha]
  dsimp only
  rw [YX ha,List.take_succ_cons]
  congr 1
  rw [YT,<- ih (a + 1) (by lia)]
  congr 1
  refine YaB fun i _=>?_
  show a + (i + 1)=a + 1 + i
  lia
theorem slice_eq (x:Str) (lo hi:Option Int):Txt.slice x lo hi=cutS x lo hi:=by
 unfold Txt.slice cutS
 have hn:x.length=x.cps.toList.length:=by show x.cps.size=_;simp
 have ha:=HT.sIx_le x.cps.toList.length 0 (YY _) lo
 have hb:=HT.sIx_le x.cps.toList.length x.cps.toList.length (Yh _) hi
 rw [hn,ZgZ]
 generalize HT.sIx x.cps.toList.length 0 lo=a at ha ⊢
 generalize HT.sIx x.cps.toList.length x.cps.toList.length hi=b at hb ⊢
 have hp:=Zg3 x.cps.toList a (b - a)
 split
 ·rename_i h
  simp only [Yb,Yax,Ye,beq_iff_eq] at h
  have h2:b - a=x.cps.toList.length:=h.2
  by_cases h0:x.cps.toList.length=0
  ·have:x.cps=#[]:=by
    apply Array.eq_empty_of_size_eq_zero;simpa using h0
   cases x;simp_all
  ·have ea:a=0:=by lia
   subst ea
   rw [YbW,Yao (by lia)]
 ·congr 1
  by_cases hab:a<=b
  ·rw [<- hp (by lia)]
   congr 1
   simp only [YaG]
  ·have:b - a=0:=by lia
   rw [this];simp
section
variable {X:Cx}
noncomputable def rSlS:V->Option Int->Option Int->Hp->VK->Prop:=fun x lo hi H Q=>∃ z,x=.str z/\z.length<=sizeLine/\Q (.str (cutS z lo hi)) H
theorem sl_str:SlR X rSlS:=by
 intro pins s σ H x v vl vu lo hi sl Q I rx hs pl pu h
 obtain ⟨z,rfl,hz,q⟩:=h
 obtain ⟨t,rfl⟩:=rx
 rw [<- slice_eq] at q
 refine ⟨"str",_,F.slot_str_getitem.lookup,typeIs_str _ _ _,?_⟩
 obtain ⟨o,ho,hc,hd⟩:=hs
 have key:∀ (l u:Option (Int × Tok)),vl=partValue l->vu=partValue u->lo=l.map (·.1)->hi=u.map (·.1)->wpAny (model X.prog X.w) X.A (getItem (.str z t) (.ref sl)) (EP X pins σ Q) X.xe s:=by
  intro l u e1 e2 e3 e4
  subst e1 e2 e3 e4
  refine wpAny_getItem_str_slice (l:=l) (u:=u) (st:=none) ⟨o,ho,hc,hd⟩ rfl (post_val_or_str ⟨YH (Txt.slice_le z _ _) hz,fun t' k=>?_⟩)
  exact ⟨.str _,H,I.tok k,⟨_,rfl⟩,q⟩
 cases pl with
 | none =>
  cases pu with
  | none=>exact key none none rfl rfl rfl rfl
  | int j u=>exact key none (some (j,u)) rfl rfl rfl rfl
 | int i t =>
  cases pu with
  | none=>exact key (some (i,t)) none rfl rfl rfl rfl
  | int j u=>exact key (some (i,t)) (some (j,u)) rfl rfl rfl rfl
theorem call_all (hc:X.calm=true):Zbf X (.builtin "all") (fun xs H Q=>∃ (p:Addr) (bs:List Bool),xs=[.ref p]/\SqL X.K H p (bs.map V.bl)/\Q (.bl (bs.all id)) H):=by
 intro pins s σ H xs us Q I r h
 obtain ⟨p,bs,rfl,hl,q⟩:=h
 obtain ⟨u,rfl,ru⟩:=r.one
 cases ru
 obtain ⟨its,rv,pl,hz⟩:=I.list hl
 refine call_all_walk (YaU pl.isList ?_)
 have hne:p≠s.heap.objs.size:=Yx (by obtain ⟨o,n,e,_⟩:=pl;exact Ym e)
 refine ⟨s.heap.objs.size,_,_,_,_,_,fun i=>bs.getD i true,rfl,YdN (show X.A.in1.handled=none from I.ok.hd hc) s.heap.objs.size p hne its.toArray,⟨⟨_,Yp _ rfl,rfl,rfl⟩,pl.isList.at fun o e=>Yd _ e⟩,?_,fun h' tk hk=>?_⟩
 ·intro i v s' Q' E' hv hQ'
  have hv':its[i]? = some v:=by simpa using hv
  cases e:(bs.map V.bl)[i]? with
  | none =>
   have:=rv.none_of e
   rw [this] at hv';cases hv'
  | some y =>
   obtain ⟨u,hu,ru⟩:=rv.get e
   rw [hv'] at hu;cases hu
   rw [Yl] at e
   cases eb:bs[i]? with
   | none=>rw [eb] at e;cases e
   | some b =>
    rw [eb] at e
    cases e
    cases ru
    have e9:bs.getD i true=b:=by rw [Yn,eb];rfl
    dsimp only at hQ'
    rw [e9] at hQ'
    exact Yap hQ'
 ·have e:(List.range its.toArray.size).all (fun i=>bs.getD i true)=bs.all id:=by
   have hlen:its.toArray.size=bs.length:=by have:=rv.length;simp at this;simp;lia
   rw [hlen,Ybl,YbH,YbH]
   constructor
   ·intro h b hb
    obtain ⟨i,hi,rfl⟩:=YcP.mp hb
    have:=h i (Ybd.mpr hi)
    rw [Yn,Yg hi] at this
    exact this
   ·intro h i hi
    have hi:=Ybd.mp hi
    rw [Yn,Yg hi]
    exact h _ (YaY hi)
  rw [e]
  exact ⟨.bl _,H,I.kept (t':=tk) fun b o e=>hk b o (by simp;exact Yx (Ym e)) (Yd _ e),rfl,q⟩
end
noncomputable def Sq (K:YFr) (H:Hp) (a:Addr) (xs:List V):Prop:=SqL K H a xs\/SqT K H a xs
noncomputable def occ (y x:Str):Bool:=!(occurrences y x 0 y.length 1).isEmpty
noncomputable def uSub:R2:=fun x y H Q=>match x,y with
 | .int i,.int j=>Q (.int (i - j)) H
 | _,_=>False
noncomputable def uDiv:R2:=fun x y H Q=>match x,y with
 | .int i,.int j=>CDiv i j/\Q (.int (i / j)) H
 | _,_=>False
noncomputable def uMod:R2:=fun x y H Q=>match x,y with
 | .int i,.int j=>0 < j/\Q (.int (i % j)) H
 | _,_=>False
noncomputable def uPow:R2:=fun x y H Q=>match x,y with
 | .int i,.int j=>CPow i j/\Q (.int (i ^ j.toNat)) H
 | _,_=>False
noncomputable def uLt:R2:=fun x y H Q=>match x,y with
 | .int i,.int j=>Q (.bl (decide (i < j))) H
 | .str i,.str j=>Q (.bl (decide (i.cps.toList < j.cps.toList))) H
 | _,_=>False
noncomputable def uLe:R2:=fun x y H Q=>match x,y with
 | .int i,.int j=>Q (.bl (decide (i<=j))) H
 | _,_=>False
noncomputable def uGt:R2:=fun x y H Q=>match x,y with
 | .int i,.int j=>Q (.bl (decide (j < i))) H
 | _,_=>False
noncomputable def uGe:R2:=fun x y H Q=>match x,y with
 | .int i,.int j=>Q (.bl (decide (j<=i))) H
 | _,_=>False
noncomputable def uEq:R2:=fun x y H Q=>match x,y with
 | .int i,.int j=>Q (.bl (decide (i=j))) H
 | .str i,.str j=>Q (.bl (decide (i=j))) H
 | .bl i,.bl j=>Q (.bl (decide (i=j))) H
 | .non,.non=>Q (.bl true) H
 | .non,.str _=>Q (.bl false) H
 | .str _,.non=>Q (.bl false) H
 | _,_=>False
noncomputable def uNe:R2:=fun x y H Q=>match x,y with
 | .int i,.int j=>Q (.bl (!decide (i=j))) H
 | .str i,.str j=>Q (.bl (!decide (i=j))) H
 | .bl i,.bl j=>Q (.bl (!decide (i=j))) H
 | .non,.non=>Q (.bl false) H
 | .non,.str _=>Q (.bl true) H
 | .str _,.non=>Q (.bl true) H
 | _,_=>False
noncomputable def uIn (K:YFr):R2:=fun x y H Q=>match x,y with
 | .str i,.str j=>Q (.bl (occ j i)) H
 | x,.ref p=>∃ xs,Sq K H p xs/\Zbz x=true/\xs.all Zbz=true/\Q (.bl (inV x xs)) H
 | _,_=>False
noncomputable def uNin (K:YFr):R2:=fun x y H Q=>match x,y with
 | .str i,.str j=>Q (.bl (!occ j i)) H
 | x,.ref p=>∃ xs,Sq K H p xs/\Zbz x=true/\xs.all Zbz=true/\Q (.bl (!inV x xs)) H
 | _,_=>False
noncomputable def uIx (K:YFr):R2:=fun x y H Q=>match x,y with
 | .str z,.int i=>z.length<=sizeLine/\∃ c,atI z.cps.toList i=some c/\Q (.str ⟨#[c]⟩) H
 | .ref p,.int i=>∃ xs v,Sq K H p xs/\atI xs i=some v/\Q v H
 | _,_=>False
noncomputable def uLen (K:YFr):List V->Hp->VK->Prop:=fun xs H Q=>match xs with
 | [.str z]=>z.length<=sizeLine/\Q (.int z.length) H
 | [.ref p]=>∃ ys,Sq K H p ys/\Q (.int ys.length) H
 | _=>False
noncomputable def uMin:List V->Hp->VK->Prop:=fun xs H Q=>match xs with
 | [.int i,.int j]=>Q (.int (min i j)) H
 | _=>False
section
variable {X:Cx}
theorem OpR.imp {f:Value->Value->Sem Value} {r r':R2} (h:OpR X f r) (hi:∀ x y H Q,r' x y H Q->r x y H Q):OpR X f r':=fun pins s σ H x y v u Q I rx ry q=>h pins s σ H x y v u Q I rx ry (hi _ _ _ _ q)
theorem Zbf.imp {f:Value} {r r':List V->Hp->VK->Prop} (h:Zbf X f r) (hi:∀ xs H Q,r' xs H Q->r xs H Q):Zbf X f r':=fun pins s σ H xs us Q I rx q=>h pins s σ H xs us Q I rx (hi _ _ _ q)
theorem Zfn:OpR X (binaryOp .Sub) uSub:=op_sub.imp fun x y H Q q=>by
 unfold uSub at q
 split at q
 ·exact ⟨_,_,rfl,rfl,q⟩
 ·exact q.elim
theorem Zgd:OpR X (binaryOp .FloorDiv) uDiv:=op_fdiv.imp fun x y H Q q=>by
 unfold uDiv at q
 split at q
 ·exact ⟨_,_,rfl,rfl,q.1,q.2⟩
 ·exact q.elim
theorem Zbw:OpR X (binaryOp .Mod) uMod:=op_mod.imp fun x y H Q q=>by
 unfold uMod at q
 split at q
 ·exact ⟨_,_,rfl,rfl,q.1,q.2⟩
 ·exact q.elim
theorem o_pow:OpR X (binaryOp .Pow) uPow:=op_pow.imp fun x y H Q q=>by
 unfold uPow at q
 split at q
 ·exact ⟨_,_,rfl,rfl,q.1,q.2⟩
 ·exact q.elim
theorem o_lt:OpR X (compareOp .Lt) uLt:=(op_lt.or ZiO).imp fun x y H Q q=>by
 unfold uLt at q
 split at q
 ·exact .inl ⟨_,_,rfl,rfl,q⟩
 ·exact .inr ⟨_,_,rfl,rfl,q⟩
 ·exact q.elim
theorem o_le:OpR X (compareOp .LtE) uLe:=op_le.imp fun x y H Q q=>by
 unfold uLe at q
 split at q
 ·exact ⟨_,_,rfl,rfl,q⟩
 ·exact q.elim
theorem o_gt:OpR X (compareOp .Gt) uGt:=op_gt.imp fun x y H Q q=>by
 unfold uGt at q
 split at q
 ·exact ⟨_,_,rfl,rfl,q⟩
 ·exact q.elim
theorem o_ge:OpR X (compareOp .GtE) uGe:=op_ge.imp fun x y H Q q=>by
 unfold uGe at q
 split at q
 ·exact ⟨_,_,rfl,rfl,q⟩
 ·exact q.elim
theorem o_eq:OpR X (compareOp .Eq) uEq:=op_eq.imp fun x y H Q q=>by
 unfold uEq at q
 split at q <;> first | exact q.elim | (refine ⟨rfl,?_⟩;simpa using q)
theorem o_ne:OpR X (compareOp .NotEq) uNe:=op_ne.imp fun x y H Q q=>by
 unfold uNe at q
 split at q <;> first | exact q.elim | (refine ⟨rfl,?_⟩;simpa using q)
theorem o_in:OpR X (compareOp .In) (uIn X.K):=(Zhx.or Zjg).imp fun x y H Q q=>by
 unfold uIn at q
 split at q
 ·exact .inl ⟨_,_,rfl,rfl,q⟩
 ·obtain ⟨xs,h1,h2,h3,h4⟩:=q
  exact .inr ⟨_,xs,rfl,h1,h2,h3,h4⟩
 ·exact q.elim
theorem o_nin:OpR X (compareOp .NotIn) (uNin X.K):=(ZeI.or ZeZ).imp fun x y H Q q=>by
 unfold uNin at q
 split at q
 ·exact .inl ⟨_,_,rfl,rfl,q⟩
 ·obtain ⟨xs,h1,h2,h3,h4⟩:=q
  exact .inr ⟨_,xs,rfl,h1,h2,h3,h4⟩
 ·exact q.elim
theorem o_ix:IxR X (uIx X.K):=by
 intro value slice pins s σ H x y v u Q I rx ry q hs
 refine ix_seq value slice pins s σ H x y v u Q I rx ry ?_ hs
 unfold uIx at q
 split at q
 ·obtain ⟨h1,c,h2,h3⟩:=q
  exact .inr (.inr ⟨_,_,c,rfl,rfl,h1,h2,h3⟩)
 ·obtain ⟨xs,v,h1 | h1,h2,h3⟩:=q
  ·exact .inl ⟨_,xs,_,v,rfl,rfl,h1,h2,h3⟩
  ·exact .inr (.inl ⟨_,xs,_,v,rfl,rfl,h1,h2,h3⟩)
 ·exact q.elim
theorem Zbn:Zbf X (.builtin "len") (uLen X.K):=(Zfa.or Zej).imp fun xs H Q q=>by
 unfold uLen at q
 split at q
 ·exact .inl ⟨_,rfl,q.1,q.2⟩
 ·obtain ⟨ys,h1,h2⟩:=q
  exact .inr ⟨_,ys,rfl,h1,h2⟩
 ·exact q.elim
theorem c_min (hc:X.calm=true):Zbf X (.builtin "min") uMin:=(ZiN hc).imp fun xs H Q q=>by
 unfold uMin at q
 split at q
 ·rename_i i j
  refine ⟨i,j,rfl,?_⟩
  have e:(if j < i then j else i)=min i j:=by split <;> lia
  rw [e];exact q
 ·exact q.elim
theorem pe_gv {x:Str} {v:V} {pos:Pos} (hg:Gl X x) (h:∃ u,X.mg x=some u/\RelV v u) (hd:(x == ("__debug__":Str))=false:=by decide):PE X (.Name x pos) (tC v):=by
 obtain ⟨u,h1,h2⟩:=h
 exact Zd6 hg h1 h2 hd
theorem ZhN {x:Str} {T:String} {pos:Pos} (hg:Gl X x) (hm:X.mg x=none) (hv:bootBuiltins x=some (.type T)) (hn:x≠"__name__":=by decide) (hd:(x == ("__debug__":Str))=false:=by decide):PE X (.Name x pos) (tC (.ty T)):=pe_bltn hg hm hv rfl hn hd
end
noncomputable def uRng1:List V->Hp->(It->Hp->Prop)->Prop:=fun vs H R=>match vs with
 | [.int j]=>-(2 ^ 62)<=j/\j < 2 ^ 62/\R (Itr 0 j.toNat) H
 | _=>False
noncomputable def uRng2:List V->Hp->(It->Hp->Prop)->Prop:=fun vs H R=>match vs with
 | [.int i,.int j]=>(-(2 ^ 62)<=i/\i < 2 ^ 62/\-(2 ^ 62)<=j/\j < 2 ^ 62)/\R (Itr i (j - i).toNat) H
 | _=>False
noncomputable def jRng1 (ta:TA):TI:=fun σ H R=>ta σ H fun vs H1=>uRng1 vs H1 R
noncomputable def jRng2 (ta:TA):TI:=fun σ H R=>ta σ H fun vs H1=>uRng2 vs H1 R
noncomputable def uList (K:YFr):V->Hp->(It->Hp->Prop)->Prop:=fun x H R=>match x with
 | .ref a=>(∃ xs,SqL K H a xs)/\R (Itl K a) H
 | _=>False
noncomputable def uTupI (K:YFr):V->Hp->(It->Hp->Prop)->Prop:=fun x H R=>match x with
 | .ref a=>(∃ xs,SqT K H a xs)/\R (Itt K a) H
 | _=>False
noncomputable def jOf (u:V->Hp->(It->Hp->Prop)->Prop) (te:TE):TI:=fun σ H R=>te σ H fun x H1=>u x H1 R
section
variable {X:Cx} {tg:Expr} {a b:Expr} {p pos:Pos} {ta:TA} {te:TE}
theorem Zex (hg:Gl X "range") (hm:X.mg "range"=none) (ha:PA X [a] ta) (hs:starEach [a] X.env=[(false,eval a X.env)]:=by rfl):PI X tg (.Call (.Name "range" p) [a] [] pos) (jRng1 ta):=by
 intro pins s σ H R I h
 refine Call_ (Zbm I hg hm YdO (YN (thn (ha pos pins s σ H _ I h) fun us s1 ⟨vs,H1,I1,r1,q1⟩=>?_) hs rfl))
 unfold uRng1 at q1
 dsimp only at q1
 split at q1
 ·obtain ⟨q1,q2,q⟩:=q1
  cases r1 with
  | cons r rr =>
   cases rr
   obtain ⟨t,rfl⟩:=r
   exact call_range_1 (ZfZ I1 (by lia) (by lia) q1 q2 (by simpa using q))
 ·exact q1.elim
theorem Zig (hg:Gl X "range") (hm:X.mg "range"=none) (ha:PA X [a,b] ta) (hs:starEach [a,b] X.env=[(false,eval a X.env),(false,eval b X.env)]:=by rfl) (hs2:starEach [b] X.env=[(false,eval b X.env)]:=by rfl) :
  PI X tg (.Call (.Name "range" p) [a,b] [] pos) (jRng2 ta):=by
 intro pins s σ H R I h
 refine Call_ (Zbm I hg hm YdO (YN (thn (ha pos pins s σ H _ I h) fun us s1 ⟨vs,H1,I1,r1,q1⟩=>?_) (by rw [hs,hs2]) (by rw [hs2];rfl)))
 unfold uRng2 at q1
 dsimp only at q1
 split at q1
 ·obtain ⟨⟨q1,q2,q3,q4⟩,q⟩:=q1
  cases r1 with
  | cons r rr =>
   cases rr with
   | cons r' rr =>
    cases rr
    obtain ⟨t,rfl⟩:=r
    obtain ⟨t',rfl⟩:=r'
    exact call_range_2 (ZfZ I1 q1 q2 q3 q4 q)
 ·exact q1.elim
end
noncomputable def Zc9:List Expr->Option (List Str)
 | []=>some []
 | .Constant (.str x) _ _::r=>(Zc9 r).map (x::·)
 | _=>none
noncomputable def tConst (vs:List V):TA:=fun _ H L=>L vs H
theorem ZaU {X:Cx}:∀ {es:List Expr} {xs:List Str},Zc9 es=some xs->PA X es (tConst (xs.map V.str))
 | [],xs,h=>by
  cases h
  exact fun pos pins s σ H Q I q=>Ze pos pins s σ H Q I q
 | e :: es, xs,h=>by
  cases e with
  | Constant c k p =>
   cases c with
   | str x =>
    cases h1:Zc9 es with
    | none=>simp [Zc9,h1] at h
    | some ys =>
     have h2:x::ys=xs:=by simpa [Zc9,h1] using h
     subst h2
     have ih:=ZaU (X:=X) h1
     exact fun pos pins s σ H Q I q=>(Za (te:=tC (.str x)) Z0 ih) pos pins s σ H Q I q
   | _=>simp [Zc9] at h
  | _=>simp [Zc9] at h
theorem Same.upd_new {H:Hp} {l:Addr} {o:HO} (h:H l=none):Same H (upd H l o):=fun b u e=>by rw [Zs (ZaB e h)];exact e
theorem Same.sq {K:YFr} {H H':Hp} {a:Addr} {xs:List V} (e:Same H H') (h:SqT K H a xs):SqT K H' a xs:=by
 rcases h with (h | ⟨o,h⟩) | h
 ·exact .inl (.inl (e _ _ h))
 ·exact .inl (.inr ⟨o,e _ _ h⟩)
 ·exact .inr h
theorem Zhy {α:Type} {xs:List α} {i:Int} (h0:0<=i) (h:i < xs.length):∃ v,atI xs i=some v/\xs[i.toNat]? = some v:=by
 have hlt:i.toNat < xs.length:=by lia
 refine ⟨xs[i.toNat],?_,Yg hlt⟩
 have e:(i.toNat:Int)=i:=by lia
 have h:=Zam (Yg hlt)
 rw [e] at h
 exact h
theorem Zg9 {n:Nat} (h:n<=1000):n<=sizeLine:=Ycb (ZiJ h)
theorem ZcO:∀ {us:List Value} {xs:List V},us.map absV=xs.map some->Vals xs us
 | [],[],_=>.nil
 | [],_::_,h=>by cases h
 | _::_,[],h=>by cases h
 | u :: us,x::xs,h=>by
  rw [YE,YE] at h
  injection h with h1 h2
  refine .cons ?_ (ZcO h2)
  cases u <;> cases h1 <;> first | rfl | exact ⟨_,rfl⟩
theorem Zeh {K:YFr} {a:Addr} {oc:Value} {od:Option Addr} {its:Array Value} {n:Nat} {sl:Array (Option Value)} {xs:List V} (h:K.lookup a=some ⟨oc,od,.seq its n,sl⟩) (ht:(oc == .type "tuple")=true/\(od == none)=true)
  (hi:its.toList.map absV=xs.map some) (hz:xs.length<=1000:=by decide):∀ H,SqT K H a xs:=fun H=>by
 have r:=ZcO hi
 have e:oc=.type "tuple":=by
  have:=ht.1
  exact Ycr this
 refine .inr ⟨_,its,n,h,e,rfl,?_,r⟩
 have h9:=r.length
 have h8:its.toList.length=its.size:=by simp
 rw [<- h8,<- h9];exact Zg9 hz
section
variable {P:Program} {w:World} {K:YFr} {mg:Str->Option Value} {base:Heap}
theorem Fun.ok2 {x qual:Str} {st:Stmt} {f:Addr} {fd:FuncData} {N ps:List Str} {k:Nat} {sp:Sp} {sc:Scope} {body:List Stmt} (F:Fun K x qual st f fd) (hs:defScope st=sc) (hb:defBody st=body) (S:ZB N ps (defScope st)) (len:∀ vs H Q E,sp vs H Q E->vs.length=ps.length)
  (hbody:ZB N ps sc->∀ (cdv:Value) (A:Around) (outer:List Env) (s:Shared) (H:Hp) (vs:List V) (Q:VK) (E:XK),Room k (A.deeper (envOfC qual sc s.heap.objs.size f cdv))->sp vs H Q E ->
   ∃ t,PSs (cxOf CX0 P w K mg base N qual sc f cdv A outer s H E).nox body t/\t { nx:=fun _ H'=>Q .non H',rt:=Q } (L2.start N vs) H):FnOk P w K mg base CX0 (k + 1) f fd ps sp:=by
 subst hs hb
 exact F.ok S len (hbody S)
end
open PySem
theorem ZN {scope:Scope} {env:Env} {names:List (Str × NameKind)} {cl:List (Str × Addr)} (h:(relabel scope env).names=names) (h2:(names.all fun p=>p.2 != .cell && p.2 != .free)=true) :
  ∀ p∈(relabel scope env).names,p.2=.cell\/p.2=.free->(cl.lookup p.1).isSome=true:=by
 intro p hp hk
 rw [h] at hp
 have:=YbH.mp h2 p hp
 rcases hk with e | e
 ·rw [e] at this;exact absurd this (by decide)
 ·rw [e] at this;exact absurd this (by decide)
theorem nd1 {x:Str}:[x].Nodup:=by simp
section
variable {X:Cx} (K:YFr) (h:X.K=K)
include h
theorem k_ix:IxR X (uIx K):=h ▸ o_ix
end
mutual
inductive Rep (K:YFr) (H:Hp):PyData->V->Prop
 | non:Rep K H .none .non
 | bl (b:Bool):Rep K H (.bool b) (.bl b)
 | int (i:Int):Rep K H (.int i) (.int i)
 | str (x:Str):Rep K H (.str x) (.str x)
 | tup {a:Addr} {xs:List V} {ds:List PyData}:SqT K H a xs->Reps K H ds xs->Rep K H (.tuple ds) (.ref a)
 | lst {a:Addr} {xs:List V} {ds:List PyData}:SqL K H a xs->Reps K H ds xs->Rep K H (.list ds) (.ref a)
inductive Reps (K:YFr) (H:Hp):List PyData->List V->Prop
 | nil:Reps K H [] []
 | cons {d:PyData} {v:V} {ds:List PyData} {vs:List V}:Rep K H d v->Reps K H ds vs->Reps K H (d::ds) (v::vs)
end
section
variable {X:Cx} {pins:List (Addr × Obj)} {σ:St} {H:Hp} {s:Shared}
mutual
theorem Rep.reads (I:Inv X pins σ H s):∀ {d:PyData} {v:V} {u:Value},Rep X.K H d v->RelV v u->∃ as,Reads s.heap u d as
 | _,_,_,.non,r=>by cases r;exact ⟨_,.none⟩
 | _,_,_,.bl b,r=>by cases r;exact ⟨_,.bool b⟩
 | _,_,_,.int i,r=>by obtain ⟨t,rfl⟩:=r;exact ⟨_,.int i t⟩
 | _,_,_,.str x,r=>by obtain ⟨t,rfl⟩:=r;exact ⟨_,.str x t⟩
 | _, _,_,.tup h q,r=>by
  cases r
  obtain ⟨its,rv,⟨o,e,c,n,d⟩,hz⟩:=I.tuple h
  obtain ⟨as,ra⟩:=Reps.reads I q rv
  exact ⟨_,.tuple e c d (by simpa using ra)⟩
 | _, _,_,.lst h q,r=>by
  cases r
  obtain ⟨its,rv,⟨o,n,e,c,_,d⟩,hz⟩:=I.list h
  obtain ⟨as,ra⟩:=Reps.reads I q rv
  exact ⟨_,.list e c d (by simpa using ra)⟩
theorem Reps.reads (I:Inv X pins σ H s):∀ {ds:List PyData} {vs:List V} {us:List Value},Reps X.K H ds vs->Vals vs us->∃ as,ReadsAll s.heap us ds as
 | _,_,_,.nil,r=>by cases r;exact ⟨_,.nil⟩
 | _, _,_,.cons h q,r=>by
  cases r with
  | cons r0 r1 =>
   obtain ⟨as,ra⟩:=Rep.reads I h r0
   obtain ⟨bs,rb⟩:=Reps.reads I q r1
   exact ⟨_,.cons ra rb⟩
end
noncomputable def rEqD (K:YFr) (ne:Bool):R2:=fun x y H Q=>∃ d e,Rep K H d x/\Rep K H e y/\d.canLay0=true/\e.canLay0=true/\d.depth<=190/\Q (.bl (if ne then !PyData.eqv d e else PyData.eqv d e)) H
theorem op_eqD (hu:X.A.units + 200 < cLine):OpR X (compareOp .Eq) (rEqD X.K false):=by
 intro pins s σ H x y v u Q I rx ry h
 obtain ⟨d,e,h1,h2,c1,c2,dp,q⟩:=h
 obtain ⟨as,ra⟩:=Rep.reads I h1 rx
 obtain ⟨bs,rb⟩:=Rep.reads I h2 ry
 refine SeqAt.compareEq_reads ra rb c1 c2 ?_ ⟨.bl _,H,I,rfl,q⟩
 have:min d.depth e.depth<=d.depth:=Ybm _ _
 lia
theorem op_neD (hu:X.A.units + 200 < cLine):OpR X (compareOp .NotEq) (rEqD X.K true):=by
 intro pins s σ H x y v u Q I rx ry h
 obtain ⟨d,e,h1,h2,c1,c2,dp,q⟩:=h
 obtain ⟨as,ra⟩:=Rep.reads I h1 rx
 obtain ⟨bs,rb⟩:=Rep.reads I h2 ry
 refine SeqAt.compareNe_reads ra rb c1 c2 ?_ ⟨.bl _,H,I,rfl,q⟩
 have:min d.depth e.depth<=d.depth:=Ybm _ _
 lia
noncomputable def uEqD (K:YFr):R2:=fun x y H Q=>match x,y with
 | .ref a,y=>rEqD K false (.ref a) y H Q
 | x,.ref b=>rEqD K false x (.ref b) H Q
 | x,y=>uEq x y H Q
noncomputable def uNeD (K:YFr):R2:=fun x y H Q=>match x,y with
 | .ref a,y=>rEqD K true (.ref a) y H Q
 | x,.ref b=>rEqD K true x (.ref b) H Q
 | x,y=>uNe x y H Q
theorem Zbi {k:Nat} (hr:Room k X.A):OpR X (compareOp .Eq) (uEqD X.K):=((op_eqD (by have:=hr.un;lia)).or o_eq).imp fun x y H Q q=>by
 unfold uEqD at q
 split at q
 ·exact .inl q
 ·exact .inl q
 ·exact .inr q
theorem Zg8 {k:Nat} (hr:Room k X.A):OpR X (compareOp .NotEq) (uNeD X.K):=((op_neD (by have:=hr.un;lia)).or o_ne).imp fun x y H Q q=>by
 unfold uNeD at q
 split at q
 ·exact .inl q
 ·exact .inl q
 ·exact .inr q
end
noncomputable def uSum (K:YFr):List V->Hp->VK->Prop:=fun xs H Q=>match xs with
 | [.ref p]=>∃ ns:List Int,SqL K H p (ns.map V.int)/\Q (.int ns.sum) H
 | _=>False
theorem ZeG (ns:List Int):∀ n,n<=ns.length->preSum (fun i=>ns.getD i 0) n=(ns.take n).sum
 | 0,_=>by simp [preSum]
 | n + 1,h=>by
  rw [preSum,ZeG ns n (by lia),Ybc,Yg (by lia),List.sum_append]
  simp [Yn,Yg (show n < ns.length by lia)]
theorem ZhI {X:Cx} (hc:X.calm=true):Zbf X (.builtin "sum") (uSum X.K):=by
 intro pins s σ H xs us Q I r h
 unfold uSum at h
 split at h
 ·rename_i p
  obtain ⟨ns,hl,q⟩:=h
  obtain ⟨u,rfl,ru⟩:=r.one
  cases ru
  obtain ⟨its,rv,pl,hz⟩:=I.list hl
  refine call_sum_walkAnyS (YaU pl.isList ?_)
  have hne:p≠s.heap.objs.size:=Yx (by obtain ⟨o,n,e,_⟩:=pl;exact Ym e)
  have hlen:its.toArray.size=ns.length:=by have:=rv.length;simp at this;simp;lia
  refine ⟨s.heap.objs.size,_,_,_,_,_,_,fun i=>ns.getD i 0,rfl,(YdN (show X.A.in1.handled=none from I.ok.hd hc) s.heap.objs.size p hne its.toArray).toS,⟨⟨_,Yp _ rfl,rfl,rfl⟩,pl.isList.at fun o e=>Yd _ e⟩,?_,?_,fun s' t' hm=>?_⟩
  ·intro b hb
   have hp:p < s.heap.objs.size:=by obtain ⟨o,n,e,_⟩:=pl;exact Ym e
   rw [YaH]
   rcases Yv.mp hb with rfl | hb
   ·exact Yce _
   ·have:b=p:=by simpa using hb
    subst this
    exact YaV hp
  ·intro i v hv
   have hv':its[i]? = some v:=by simpa using hv
   cases e:(ns.map V.int)[i]? with
   | none =>
    have:=rv.none_of e
    rw [this] at hv';cases hv'
   | some y =>
    obtain ⟨u,hu,ru⟩:=rv.get e
    rw [hv'] at hu;cases hu
    rw [Yl] at e
    cases eb:ns[i]? with
    | none=>rw [eb] at e;cases e
    | some b =>
     rw [eb] at e
     cases e
     obtain ⟨t,rfl⟩:=ru
     exact ⟨t,by dsimp only;rw [Yn,eb];rfl⟩
  ·have e:preSum (fun i=>ns.getD i 0) its.toArray.size=ns.sum:=by
    rw [hlen,ZeG ns _ (Yh _),Yaj]
   rw [e]
   have hI:Inv X pins σ H { s with heap:=s'.heap,toks:=s'.toks }:=I.kept (t':=s'.toks) fun b o e=>hm.heap b o (by simp;exact Yx (Ym e)) (Yd _ e)
   have es:({ s with heap:=s'.heap,toks:=s'.toks }:Shared)=s':=by
    have h1:=hm.gens
    have h2:=hm.drawn
    have h3:=hm.os
    cases s'
    simp only at h1 h2 h3
    subst h1 h2 h3
    rfl
   rw [es] at hI
   exact ⟨.int _,H,hI,⟨_,rfl⟩,q⟩
 ·exact h.elim
noncomputable def uMulB:R2:=fun x y H Q=>match x,y with
 | .int i,.int j=>IntMulOk i j/\Q (.int (i * j)) H
 | .ref a,.int k=>rRep (.ref a) (.int k) H Q
 | _,_=>False
theorem op_mulB {X:Cx}:OpR X (binaryOp .Mult) (fun x y H Q=>∃ i j,x=.int i/\y=.int j/\IntMulOk i j/\Q (.int (i * j)) H):=by
 intro pins s σ H x y v u Q I rx ry h
 obtain ⟨i,j,rfl,rfl,hm,q⟩:=h
 obtain ⟨t,rfl⟩:=rx
 obtain ⟨t',rfl⟩:=ry
 exact PyProof.Rows.mul_int ⟨.int _,H,I.tok _,⟨_,rfl⟩,q⟩ hm
theorem Zip {X:Cx}:OpR X (binaryOp .Mult) uMulB:=(op_mulB.or op_rep).imp fun x y H Q q=>by
 unfold uMulB at q
 split at q
 ·exact .inl ⟨_,_,rfl,rfl,q.1,q.2⟩
 ·exact .inr q
 ·exact q.elim
theorem ZbA {i j:Int} (h:CMul i j):IntMulOk i j:=h.ok
theorem ZaN {α:Type} {P:α->Prop} {a:α} {l:List α} (h:P a) (t:∀ p∈l,P p):∀ p∈a::l,P p:=fun p hp=>by
 rcases Yv.mp hp with rfl | hp
 ·exact h
 ·exact t p hp
theorem Zbc {α:Type} {P:α->Prop}:∀ p∈([]:List α),P p:=fun _ z=>nomatch z
theorem Zb6 {scope:Scope} {env:Env} {names:List (Str × NameKind)} {cl:List (Str × Addr)} (h:(relabel scope env).names=names) (h2:(names.all fun p=>(p.2 != .cell && p.2 != .free) || (cl.lookup p.1).isSome)=true) :
  ∀ p∈(relabel scope env).names,p.2=.cell\/p.2=.free->(cl.lookup p.1).isSome=true:=by
 intro p hp hk
 rw [h] at hp
 have:=YbH.mp h2 p hp
 rcases hk with e | e
 ·rw [e] at this;simpa using this
 ·rw [e] at this;simpa using this
section
variable {X:Cx}
noncomputable def rCatL (K:YFr):R2:=fun x y H Q=>∃ l b xs zs,x=.ref l/\y=.ref b/\SqL K H l xs/\SqL K H b zs/\xs.length + zs.length<=sizeLine/\∀ p,H p=none->Q (.ref p) (upd H p (.lst (xs++zs)))
theorem op_catL:OpR X (binaryOp .Add) (rCatL X.K):=by
 intro pins s σ H x y v u Q I rx ry h
 obtain ⟨l,b,xs,zs,rfl,rfl,hH,hB,hz,q⟩:=h
 cases rx
 cases ry
 obtain ⟨its,r,pl,z1⟩:=I.list hH
 obtain ⟨its2,r2,pl2,z2⟩:=I.list hB
 have hl:=r.length
 have hl2:=r2.length
 obtain ⟨⟨cls,dd,data,sl⟩,ho,hc,n,hd⟩:=id pl.isList
 obtain ⟨⟨cls2,dd2,data2,sl2⟩,ho2,hc2,n2,hd2⟩:=id pl2.isList
 simp only at hc hd hc2 hd2
 subst hc hd hc2 hd2
 have e:its.toArray++its2.toArray=(its++its2).toArray:=by simp
 refine Ycc ⟨_,ho,rfl⟩ ⟨_,ho2,rfl⟩ noFill_list_add seq_list_add PySem.F.slot_list_add PySem.F.entry_list_add (PySem.F.args_list_add_2 _ _) (PyProof.Rows.list_addW l b its.toArray its2.toArray n n2 dd dd2 sl sl2 (by rw [Yk,Yk];lia)) ⟨ho,ho2,?_⟩
 rw [e]
 exact ⟨.ref _,_,I.lnew (t':=s.toks) (r.append r2) (by rw [Yj];lia),rfl,q _ I.fresh⟩
end
theorem Zhi {X:Cx} {elt tg iter:Expr} {ifs:List Expr} {scope:Scope} {cl:List (Str × Addr)} {ts:List Str} {frs':List (Str × Nat)} {pos pos0:Pos} {wi:TI} {g:TG} {tt:TT} {te:TE} (hc:X.calm=true) (S:Za0 X scope cl ts frs')
  (hi:PI X tg iter wi) (hg:∀ pins s H fp,PG (X.comp scope cl (ts++frs'.map (·.1)) pins s H fp) tg g) (ht:∀ pins s H fp,PIfs (X.comp scope cl (ts++frs'.map (·.1)) pins s H fp) ifs tt)
  (he:∀ pins s H fp,PE (X.comp scope cl (ts++frs'.map (·.1)) pins s H fp) elt te) (hs:∀ x,foldedSetIterable iter X.env x=pure x)
  {use:Option (Value->Sem Unit)} {Qv:Value->Shared->Prop} {pins:List (Addr × Obj)} {s:Shared} {σ:St} {H:Hp} {Q:VK} (I:Inv X pins σ H s) (h:tComp ts.length frs' wi g tt te σ H Q)
  (hfin:∀ (C D:Addr) (H5:Hp) (s6:Shared) (m6:Str->Option Value),Inv X pins σ H5 s6->s6.heap.Ns C m6->FpOk X pins H5 C->(∀ h',Heap.SameBut C s6.heap h'->Inv X pins σ H5 { s6 with heap:=h' })->Q (.ref D) H5 ->
   compPost (model X.prog X.w) X.A X.xe use Qv (.ref D) C (.ok .next) s6) :
  wpAny (model X.prog X.w) X.A (comprehension (.ListComp elt [⟨tg,iter,ifs,0⟩] scope pos) scope X.env pos0 (newList []) false (eval iter X.env) use) Qv X.xe s:=by
 refine wpAny_comprehension_free (use:=use) (cl:=cl) rfl hs S.clos S.kind S.names (thn (hi pins s σ H _ I h) fun v s1 h1=>thn h1 fun itv s2 h2=>?_)
 obtain ⟨it,fp,tn,J,H2,e,I2,T,st2,f2,q2⟩:=h2
 subst e
 have fr2:H2 s2.heap.objs.size=none:=I2.hok.fresh (Yh _)
 obtain ⟨W,⟨m0,w0⟩,turn⟩:=q2 _ fr2
 refine Yaq ?_
 have hlt2:∀ b∈fp,b < s2.heap.objs.size:=fun b hb=>by
  obtain ⟨o,e,_⟩:=T.obj _ _ st2 b hb
  exact Ym e
 have I3:Inv X pins σ (upd H2 s2.heap.objs.size (.lst [])) { s2 with heap:=s2.heap.push { cls:=.type "list",data:=.seq ([]:List Value).toArray } } :=
  I2.laid (t':=s2.toks) (fun b u e=>Yd _ e) (Yh _) ⟨YY _,[],0,.nil,Yp _ rfl⟩
 have f3:∀ b∈fp,FpOk X pins (upd H2 s2.heap.objs.size (.lst [])) b:=fun b hb=>⟨by rw [Zs (Yx (hlt2 b hb))];exact (f2 b hb).1,(f2 b hb).2⟩
 have hk3:∀ b o,s2.heap.get? b=some o->(s2.heap.push { cls:=.type "list",data:=.seq ([]:List Value).toArray }).get? b=some o:=fun b o e=>Yd _ e
 have hsz3:(s2.heap.push { cls:=.type "list",data:=.seq ([]:List Value).toArray }).objs.size=s2.heap.objs.size + 1:=YaH ..
 refine wpAny_newFunctionEnv S.nocell (by intro y hy;simp at hy) (fun h₁ hns₁ hsb₁=>?_) S.kind
 dsimp only at hns₁ hsb₁ ⊢
 generalize hs3:({ s2 with heap:=s2.heap.push { cls:=.type "list",data:=.seq ([]:List Value).toArray } }:Shared)=s3 at I3 hns₁ hsb₁ ⊢
 have es3:s3.heap=s2.heap.push { cls:=.type "list",data:=.seq ([]:List Value).toArray }:=by rw [<- hs3]
 have hk4:∀ b o,s3.heap.get? b=some o->h₁.get? b=some o:=fun b o e=>by
  have:=hsb₁.2 b (by rw [<- es3];exact Yx (Ym e))
  rw [<- es3] at this
  exact this.trans (Yd _ e)
 have hlt3:∀ b∈fp,b < s3.heap.objs.size:=fun b hb=>by
  rw [es3,hsz3]
  exact YaV (hlt2 b hb)
 rw [<- es3] at hns₁
 have I4:=S.inv I3 f3 hlt3 (tk:=s2.toks + ([]:List (Str × Value)).length) hns₁ hk4
 have st4:tn 0 h₁:=T.keep _ _ _ st2 fun b hb o e=>hk4 b o (by rw [es3];exact hk3 b o e)
 have estart:({ s2 with heap:=h₁,toks:=s2.toks + ([]:List (Str × Value)).length }:Shared)={ s3 with heap:=h₁,toks:=s2.toks + ([]:List (Str × Value)).length }:=by rw [<- hs3]
 rw [estart]
 have stat:∀ {H':Hp},(∀ b∈fp,H' b=none)->∀ b∈fp,FpOk (X.comp scope cl (ts++frs'.map (·.1)) pins s3 (upd H2 s2.heap.objs.size (.lst [])) fp) [] H' b:=fun hn b hb=>by
  obtain ⟨h1,h2,h3,h4,h5,h6⟩:=f3 b hb
  refine ⟨hn b hb,Yx (hlt3 b hb),fun z=>?_,.inl hb,fun x c e=>h5 x c (S.subL e),fun p hp=>h6 p (by
   have:p∈(X.pn++pins)++[]:=hp
   rwa [Y4] at this)⟩
  rcases Yv.mp (I3.stkSub _ z) with e' | e'
  ·exact h2 e'
  ·exact h3 e'
 have loop : codeAny (model X.prog X.w) X.A (.compLoop (.ListComp elt [⟨tg,iter,ifs,0⟩] scope pos) 0 (.ref it) (.ref s2.heap.objs.size) (compEnvC scope cl s3.heap.objs.size X.env))
   (compPost (model X.prog X.w) X.A X.xe use Qv (.ref s2.heap.objs.size) s3.heap.objs.size) { s3 with heap:=h₁,toks:=s2.toks + ([]:List (Str × Value)).length }:=by
  refine ZeA (fun n s'=>∃ i τ H',Inv (X.comp scope cl (ts++frs'.map (·.1)) pins s3 (upd H2 s2.heap.objs.size (.lst [])) fp) [] τ H' s'/\tn i s'.heap/\(∀ b∈fp,H' b=none)/\W i n τ H') ?_ m0
   ⟨0,_,_,I4,st4,fun b hb=>(f3 b hb).1,w0⟩
  rintro n s5 ⟨i,τ,H5,I5,st5,fr5,w5⟩
  rcases turn i n τ H5 w5 with ⟨stop,qn⟩ | ⟨go,step⟩
  ·refine YR (T.done (X.comp scope cl (ts++frs'.map (·.1)) pins s3 (upd H2 s2.heap.objs.size (.lst [])) fp) rfl rfl rfl hc i [] s5 τ H5 (fun _ _=>False) I5 (stat fr5) st5 stop) (fun r s6 ⟨hr,I6⟩=>?_) fun _ _ z=>z
   subst hr
   obtain ⟨m6,hn6,_⟩:=id I6.loc
   have hA:∀ h',Heap.SameBut s3.heap.objs.size s6.heap h'->Inv X pins σ H5 { s6 with heap:=h' }:=fun h' hs'=>Za0.after I3 f3 I6 hs'
   have hC0:=I3.fpOk (b:=s3.heap.objs.size) (Yh _) (I3.hok.fresh (Yh _))
   exact hfin _ _ H5 s6 m6 (hA s6.heap ⟨rfl,fun _ _=>rfl⟩) hn6 ⟨I6.free,hC0.2⟩ hA qn
  ·refine YR (T.item (X.comp scope cl (ts++frs'.map (·.1)) pins s3 (upd H2 s2.heap.objs.size (.lst [])) fp) rfl rfl rfl hc i [] s5 τ H5 (fun _ _=>False) I5 (stat fr5) st5 go) (fun r s6 ⟨u,hr,h6⟩=>?_) fun _ _ z=>z
   subst hr
   refine thn h6 fun _ s7 h_q=>?_
   obtain ⟨x,H7,I7,r7,y7,st7,fr7⟩:=h_q
   have I7':=I7.pinned (stat fr7) (T.obj _ _ st7)
   refine thn (hg _ _ _ _ _ s7 τ H7 x u _ I7' r7 (step x H7 y7)) fun _ s8 h_q=>?_
   obtain ⟨τ8,H8,I8,q8⟩:=h_q
   refine thn (ht _ _ _ _ _ s8 τ8 H8 _ I8 q8) fun ok s9 h_q=>?_
   obtain ⟨H9,I9,q9⟩:=h_q
   have again:∀ {m':Nat} {H':Hp} {s':Shared},Inv (X.comp scope cl (ts++frs'.map (·.1)) pins s3 (upd H2 s2.heap.objs.size (.lst [])) fp) ([]++ZeE fp s7.heap) τ8 H' s'->m' < n->W (i + 1) m' τ8 H' ->
     ∃ m,m < n/\∃ i τ H',Inv (X.comp scope cl (ts++frs'.map (·.1)) pins s3 (upd H2 s2.heap.objs.size (.lst [])) fp) [] τ H' s'/\tn i s'.heap/\(∀ b∈fp,H' b=none)/\W i m τ H':=fun {m' H' s'} I' hm w'=>by
    refine ⟨m',hm,i + 1,τ8,H',I'.unpinned,T.keep _ _ _ st7 fun b hb o e=>(I'.pin (b,o) (Yw _ (Yw _ (ZaX hb e)))).1,fun b hb=>?_,w'⟩
    obtain ⟨o,e,d⟩:=T.obj _ _ st7 b hb
    exact (I'.pin (b,o) (Yw _ (Yw _ (ZaX hb e)))).2.1
   cases ok with
   | false =>
    rw [if_neg Yr]
    rw [if_neg Yr] at q9
    obtain ⟨m',hm,w'⟩:=q9
    exact again I9 hm w'
   | true =>
    rw [if_pos rfl]
    rw [if_pos rfl] at q9
    refine thn (he _ _ _ _ _ s9 τ8 H9 _ I9 q9) fun yv s10 h_q=>?_
    obtain ⟨y,H10,I10,r10,ys,hl,hz,m',hm,w'⟩:=h_q
    refine thn (ZaR _ s10 τ8 H10 (.ref s2.heap.objs.size) [y] (.ref s2.heap.objs.size) [yv] (fun _ H'=>W (i + 1) m' τ8 H') I10 rfl (.cons r10 .nil) ⟨_,ys,y,rfl,rfl,hl,hz,w'⟩) fun _ s11 h_q=>?_
    obtain ⟨_,H11,I11,_,w11⟩:=h_q
    exact again I11 hm w11
 have es:(s2.heap.push { cls:=.type "list",data:=.seq ([]:List Value).toArray }).objs.size=s3.heap.objs.size:=by rw [es3]
 rw [es]
 exact codeAny_compStart_list loop (T.self _ 0 _ _ _ st4 loop)
theorem Zaw {X:Cx} {elt tg iter:Expr} {ifs:List Expr} {scope:Scope} {cl:List (Str × Addr)} {ts:List Str} {frs':List (Str × Nat)} {pos:Pos} {wi:TI} {g:TG} {tt:TT} {te:TE} (hc:X.calm=true) (S:Za0 X scope cl ts frs')
  (hi:PI X tg iter wi) (hg:∀ pins s H fp,PG (X.comp scope cl (ts++frs'.map (·.1)) pins s H fp) tg g) (ht:∀ pins s H fp,PIfs (X.comp scope cl (ts++frs'.map (·.1)) pins s H fp) ifs tt)
  (he:∀ pins s H fp,PE (X.comp scope cl (ts++frs'.map (·.1)) pins s H fp) elt te) (hs:∀ x,foldedSetIterable iter X.env x=pure x:=by intro _;rfl) :
  PE X (.ListComp elt [⟨tg,iter,ifs,0⟩] scope pos) (tComp ts.length frs' wi g tt te):=by
 intro pins s σ H Q I h
 rw [eval_ListComp]
 exact Zhi hc S hi hg ht he hs (use:=none) (Qv:=EP X pins σ Q) I h fun C D H5 s6 m6 I6 hn fpc hA q=>⟨m6,hn,fun h' hs'=>⟨.ref D,H5,hA h' hs',rfl,q⟩⟩
theorem Zce {X:Cx} {elt tg iter:Expr} {ifs:List Expr} {scope:Scope} {cl:List (Str × Addr)} {ts:List Str} {frs':List (Str × Nat)} {pos spos py:Pos} {wi:TI} {g:TG} {tt:TT} {te:TE} {i:Nat} {y:Str}
  (hN:X.N.Nodup) (hi':X.N[i]? = some y) (hy:Loc X.env.scope y) (hsw:swapsWith (.ListComp elt [⟨tg,iter,ifs,0⟩] scope pos) (some (.Name y py)) spos.line X.env=pure true) (hc:X.calm=true) (S:Za0 X scope cl ts frs')
  (hi:PI X tg iter wi) (hg:∀ pins s H fp,PG (X.comp scope cl (ts++frs'.map (·.1)) pins s H fp) tg g) (ht:∀ pins s H fp,PIfs (X.comp scope cl (ts++frs'.map (·.1)) pins s H fp) ifs tt)
  (he:∀ pins s H fp,PE (X.comp scope cl (ts++frs'.map (·.1)) pins s H fp) elt te) (hs:∀ x,foldedSetIterable iter X.env x=pure x:=by intro _;rfl) (hf:X.fn y=true\/X.env.scope.names.lookup y=some .local:=by first | exact .inl rfl | exact .inr rfl | assumption) :
  PS X (.Assign [.Name y py] (.ListComp elt [⟨tg,iter,ifs,0⟩] scope pos) spos) (tAsg (tComp ts.length frs' wi g tt te) (ZgC i)):=by
 intro pins s σ H D I h
 rw [exec_Assign_Name_used _ _ _ _ hsw]
 refine Yc (Ya1 (Yc ?_))
 show wpAny _ X.A (do let _ <- comprehension (.ListComp elt [⟨tg,iter,ifs,0⟩] scope pos) scope X.env _ (newList []) false (eval iter X.env) (some (assign (.Name y py) X.env))) _ _ s
 refine Yc (YR (Zhi hc S hi hg ht he hs (Qv:=fun _ s'=>SP X pins D .next s') (use:=some (assign (.Name y py) X.env)) I h ?_) (fun _ s' hq=>Yi (Yi hq)) fun _ _ e=>e)
 intro C Da H5 s6 m6 I6 hn6 fpC hA qn
 show wpAny _ X.A (assign (.Name y py) X.env (.ref Da)) _ _ _
 refine Ydo (ZeV I6 hN hi' hy (v:=.ref Da) rfl (fun s7 I7 ⟨a,sb,ha⟩=>?_) hf)
 have hCa:C≠a:=by
  obtain ⟨_,h2,_,_,h5,_⟩:=fpC
  rcases ha with rfl | ha
  ·exact h2
  ·exact fun e=>h5 _ _ ha e.symm
 refine ⟨m6,hn6.sameBut sb hCa,fun h' hs'=>?_⟩
 obtain ⟨f0,f1,f2,f3,f4,f5⟩:=fpC
 exact ⟨_,H5,I7.turned (h':=h') (t':=s7.toks) (fun b o hb e=>(hs'.2 b hb).trans e) f0 f1 f3 f4 f5,qn⟩
noncomputable def Zfz (K:YFr):List V->Hp->VK->Prop:=fun xs H Q=>match xs with
 | [.ref p]=>∃ ys,Sq K H p ys/\∀ l,H l=none->Q (.ref l) (upd H l (.lst ys))
 | _=>False
theorem c_list {X:Cx}:Zbf X (.type "list") (Zfz X.K):=Zev.imp fun xs H Q q=>by
 unfold Zfz at q
 split at q
 ·obtain ⟨ys,h1,h2⟩:=q
  exact ⟨_,ys,rfl,h1,h2⟩
 ·exact q.elim
noncomputable def Zid (K:YFr):List V->Hp->VK->Prop:=fun xs H Q=>match xs with
 | [.ref p]=>∃ ys,((SqL K H p ys/\∀ l,H l=none->Q (.ref l) (upd H l (.tup ys)))\/(SqT K H p ys/\Q (.ref p) H))
 | _=>False
theorem Za8 {X:Cx}:Zbf X (.type "tuple") (Zid X.K):=ZdZ.imp fun xs H Q q=>by
 unfold Zid at q
 split at q
 ·obtain ⟨ys,h⟩:=q
  exact ⟨_,ys,rfl,h⟩
 ·exact q.elim
end L2
namespace MM
noncomputable def sm (n:Nat) (f:Nat->Int):Int:=((List.range n).map f).sum
noncomputable abbrev at0 (l:List Int) (i:Nat):Int:=l.getD i 0
end MM
namespace MM
noncomputable def mc:Nat->Nat->Nat
 | _,0=>1
 | 0,_ + 1=>0
 | m + 1,j + 1=>mc m (j + 1) + mc (m + 1) j
noncomputable def ch:Nat->Nat->Nat
 | _,0=>1
 | 0,_ + 1=>0
 | n + 1,k + 1=>ch n k + ch n (k + 1)
noncomputable def hat (l:List Int):Int->Int:=fun z=>if 0<=z then at0 l z.toNat else 0
noncomputable def part (w:Nat->Int) (s:Nat) (bs:List Int) (m n:Nat):Int:=sm (m + 1) fun j=>if j * s<=n then w j * at0 bs (n - j * s) else 0
end MM
namespace L2
open PySem PySem.Spec PyProof.Rows
theorem iteP {c A B:Prop} [Decidable c] (hc:c) (h:A):if c then A else B:=by rw [if_pos hc];exact h
theorem iteN {c A B:Prop} [Decidable c] (hc:¬ c) (h:B):if c then A else B:=by rw [if_neg hc];exact h
section
variable {X:Cx} {pins:List (Addr × Obj)} {σ:St} {H:Hp} {s:Shared}
theorem Inv.turnedL {h':Heap} {ch:List Addr} {T:Addr} {o:HO} {t':Nat} (I:Inv X pins σ H s) (hch:∀ b∈ch,FpOk X pins H b) (k:∀ b u,b ∉ ch->s.heap.get? b=some u->h'.get? b=some u) (hT:s.heap.objs.size<=T)
  (new:Zbt X.prog X.w (upd H T o) h' T o):Inv X pins σ (upd H T o) { s with heap:=h',toks:=t' }:=by
 have hn:H T=none:=I.hok.fresh hT
 have nT:∀ b u,s.heap.get? b=some u->b≠T:=fun b u e=>Yx (YI (Ym e) hT)
 have nch:∀ b u,H b=some u->b ∉ ch:=fun b u e z=>by rw [(hch b z).1] at e;cases e
 refine I.step (g':=s.gens) (d':=s.drawn) (ch:=ch) (fun b hb=>?_) (fun b u _ _ hc e _=>k b u hc e) (fun b u _ _ hc e _=>⟨u.slots,k b u hc e⟩) (fun b u _ e n=>by rw [Zs (nT b u e)];exact n)
  (fun b u hc e=>⟨u,k b u hc e⟩) (fun b xs e=>by rw [Zs (ZaB e hn)];exact e) (fun b u v e=>by rw [Zs (ZaB e hn)];exact e) (fun b ps e=>⟨#[],by rw [Zs (ZaB e hn),e];simp⟩) (fun m hm=>?_) (fun b u e=>?_) I.bare
 ·obtain ⟨h0,h1,h2,h3,h4,h5⟩:=hch b hb
  exact ⟨h3,h1,h4,h5⟩
 ·obtain ⟨ob,es,ep,ho,r⟩:=hm
  exact ⟨ob,es,ep,k _ ob (fun z=>(hch _ z).2.1 rfl) ho,r⟩
 ·by_cases hb:b=T
  ·subst hb;rw [Z3] at e;cases e;exact new
  ·rw [Zs hb] at e
   refine (I.hok b u e).stay (fun c v hc q=>k c v ?_ q) (fun c q=>by rw [Zs (ZaB q hn)];exact q) fun c xs q=>by rw [Zs (ZaB q hn)];exact q
   rcases hc with z | z
   ·rw [z];exact nch b u e
   ·exact nch c _ z
theorem Inv.turnedM {h':Heap} {ch:List Addr} {t':Nat} (I:Inv X pins σ H s) (hch:∀ b∈ch,FpOk X pins H b) (k:∀ b u,b ∉ ch->s.heap.get? b=some u->h'.get? b=some u):Inv X pins σ H { s with heap:=h',toks:=t' }:=by
 have nch:∀ b u,H b=some u->b ∉ ch:=fun b u e z=>by rw [(hch b z).1] at e;cases e
 refine I.step (g':=s.gens) (d':=s.drawn) (ch:=ch) (fun b hb=>?_) (fun b u _ _ hc e _=>k b u hc e) (fun b u _ _ hc e _=>⟨u.slots,k b u hc e⟩) (fun _ _ _ _ n=>n)
  (fun b u hc e=>⟨u,k b u hc e⟩) (fun _ _ e=>e) (fun _ _ _ e=>e) (fun b ps e=>⟨#[],by rw [e];simp⟩) (fun m hm=>?_) (fun b u e=>?_) I.bare
 ·obtain ⟨h0,h1,h2,h3,h4,h5⟩:=hch b hb
  exact ⟨h3,h1,h4,h5⟩
 ·obtain ⟨ob,es,ep,ho,r⟩:=hm
  exact ⟨ob,es,ep,k _ ob (fun z=>(hch _ z).2.1 rfl) ho,r⟩
 ·refine (I.hok b u e).stay (fun c v hc q=>k c v ?_ q) (fun _ q=>q) fun _ _ q=>q
  rcases hc with z | z
  ·rw [z];exact nch b u e
  ·exact nch c _ z
end
noncomputable def Ite (K:YFr) (a:Addr):It :=
 ⟨fun i H=>∃ xs x,SqL K H a xs/\xs[i]? = some x,
  fun i H v H'=>∃ T x,v=.ref T/\H T=none/\H'=upd H T (.tup [.int i,x])/\(∀ xs,SqL K H a xs->xs[i]? = some x),
  fun i H=>∃ xs,SqL K H a xs/\xs.length<=i⟩
theorem Zji {P:Program} {w:World} {K:YFr} {elts:List Expr} {k0} {pos:Pos} {e it l:Addr} (hne:e≠it):Turn P w K (.Tuple elts k0 pos) (Ite K l) [e,it] e
  (fun i h=>(∃ old,IsEnum h e it i old)/\h.IsListIter it l i) where
 mem:=by simp
 obj := fun i h st b hb=>by
  obtain ⟨⟨old,he⟩,h1⟩:=st
  simp only [Yv,YU,YaL] at hb
  rcases hb with rfl | rfl
  ·exact ⟨_,he,fun v q=>nomatch q⟩
  ·obtain ⟨o,e,c,d⟩:=h1
   exact ⟨o,e,fun v q=>by rw [d] at q;cases q⟩
 keep:=fun i h h' st k=>by
  obtain ⟨⟨old,he⟩,h1⟩:=st
  exact ⟨⟨old,k e (by simp) _ he⟩,h1.at fun o q=>k it (by simp) o q⟩
 item := by
  intro X hP hw hK hc i pins s σ H E I hf st hg
  subst hP hw hK
  obtain ⟨⟨old,he⟩,h1⟩:=st
  obtain ⟨xs,x,hx,hxi⟩:=hg
  obtain ⟨its,rv,p,_⟩:=I.list hx
  obtain ⟨u,hu,ru⟩:=rv.get hxi
  refine wpAny_pyNext_enum_item he h1 p.isList (x:=u) (by simpa using hu) hne fun h' a1 a2 a3 a4 hk=>?_
  refine ⟨_,rfl,Yb4 a1 fun h'' he' sb=>?_⟩
  have nz:s.heap.objs.size≠e:=YaK (Ym he)
  have hT':IsTup h'' s.heap.objs.size [Value.int i s.toks,u].toArray:=⟨_,sb.extBut _ _ nz a3,rfl,_,rfl⟩
  have I':Inv X pins σ (upd H s.heap.objs.size (.tup [.int i,x])) { s with heap:=h'',toks:=s.toks + 1 }:=I.turnedL (ch:=[e,it]) hf (fun b o hb q=>by
   simp only [Yv,YU,YaL,not_or] at hb
   exact sb.extBut _ _ hb.1 (hk b o hb.1 hb.2 q)) (Yh _) ⟨by show 2<=sizeLine;decide,[Value.int i s.toks,u],.cons ⟨_,rfl⟩ (.cons ru .nil),hT'⟩
  have hn:H s.heap.objs.size=none:=I.hok.fresh (Yh _)
  refine ⟨.ref s.heap.objs.size,_,I',rfl,⟨_,x,rfl,hn,rfl,fun zs hzs=>by rw [I.list_inj hzs hx];exact hxi⟩,⟨⟨_,by push_cast;exact he'⟩,a2.extBut sb.extBut (Ne.symm hne)⟩,fun b hb=>?_⟩
  have hfb:=(hf b hb).1
  have : b≠s.heap.objs.size:=by
   obtain ⟨o,q⟩:∃ o,s.heap.get? b=some o:=by
    simp only [Yv,YU,YaL] at hb
    rcases hb with rfl | rfl
    ·exact ⟨_,he⟩
    ·obtain ⟨o,q,_⟩:=h1;exact ⟨o,q⟩
   exact Yx (Ym q)
  rw [Zs this];exact hfb
 done := by
  intro X hP hw hK hc i pins s σ H E I hf st hg
  subst hP hw hK
  obtain ⟨⟨old,he⟩,h1⟩:=st
  obtain ⟨xs,hx,hend⟩:=hg
  obtain ⟨its,rv,p,_⟩:=I.list hx
  have hl:=rv.length
  exact wpAny_pyNext_enum_end (I.ok.hd hc) he h1 p.isList (by simp;lia) fun h' hk=>⟨rfl,I.turnedM (t':=s.toks) (ch:=[e,it]) hf (fun b o hb q=>by
   simp only [Yv,YU,YaL,not_or] at hb
   exact hk b o hb.2 q)⟩
 self:=fun _ _ _ _ _ st h=>by
  obtain ⟨⟨old,he⟩,h1⟩:=st
  exact YbD he h
theorem Ziv (n l1 l2:Nat) (h1:l1 < n) (h2:l2 < n):ZipApart (n + 4) (n + 2) (n + 3) n (n + 1) l1 l2:=by
 constructor <;> exact (show (_:Nat)≠_ by lia)
noncomputable def uEnum (K:YFr):List V->Hp->(It->Hp->Prop)->Prop:=fun vs H R=>match vs with
 | [.ref a]=>(∃ xs,SqL K H a xs)/\R (Ite K a) H
 | _=>False
noncomputable def Zim (u:List V->Hp->(It->Hp->Prop)->Prop) (ta:TA):TI:=fun σ H R=>ta σ H fun vs H1=>u vs H1 R
theorem boot_zip:bootBuiltins "zip"=some (.type "zip"):=by decide +kernel
theorem ZbV:bootBuiltins "enumerate"=some (.type "enumerate"):=by decide +kernel
section
variable {X:Cx} {elts:List Expr} {k0:Nat} {a b:Expr} {p pos tp:Pos} {ta:TA}
theorem Zft (hg:Gl X "enumerate") (hm:X.mg "enumerate"=none) (ha:PA X [a] ta) (hs:starEach [a] X.env=[(false,eval a X.env)]:=by rfl) :
  PI X (.Tuple elts k0 tp) (.Call (.Name "enumerate" p) [a] [] pos) (Zim (uEnum X.K) ta):=by
 intro pins s σ H R I h
 refine Call_ (Zbm I hg hm ZbV (YN (thn (ha pos pins s σ H _ I h) fun us s1 ⟨vs,H1,I1,r1,q1⟩=>?_) hs rfl))
 unfold uEnum at q1
 dsimp only at q1
 split at q1
 ·rename_i l1
  obtain ⟨⟨xs,hx⟩,q⟩:=q1
  cases r1 with
  | cons r rr =>
   cases rr
   cases r
   obtain ⟨its,rv,pl,_⟩:=I1.list hx
   refine call_enumerate_list pl.isList fun h' a1 a2 a3 hk=>?_
   refine YbD a1 ?_
   have I2:Inv X pins σ H1 { s1 with heap:=h' }:=I1.kept (t':=s1.toks) hk
   refine ⟨s1.heap.objs.size + 1,_,_,_,H1,rfl,I2,Zji (Nat.succ_ne_self _),⟨⟨_,a1⟩,a2⟩,fun b hb=>?_,q⟩
   have hb':s1.heap.objs.size<=b:=by
    simp only [Yv,YU,YaL] at hb
    rcases hb with rfl | rfl <;> first | exact Ycf _ _ | exact Yh _
   exact I1.fpOk hb' (I1.hok.fresh hb')
 ·exact q1.elim
end
theorem Zdc {X:Cx} (K:YFr) (hK:X.K=K) (n:Nat) {es:List Expr} {k:Nat} {t:TGs} {pos:Pos} (hc:X.calm=true) (h:PGs X es t) (hn:(assignEach es X.env).length=n) (hst:(assignEach es X.env).findIdx? (·.1)=none):PG X (.Tuple es k pos) (gTup K n t):=by
 subst hK
 exact Zb7 hc h hn hst
theorem g2 {K:YFr} {T:Addr} {x y:V} {k0 k1:Option V} {fr:St} {H:Hp} {Q:St->Hp->Prop} (h:SqT K H T [x,y]) (q:Q (some x::some y::fr) H):gTup K 2 (gCons (ZgC 0) (gCons (ZgC 1) gNil)) (.ref T) (k0::k1::fr) H Q :=
 ⟨T,_,rfl,h,rfl,_,_,rfl,_,_,rfl,rfl,q⟩
theorem ZcZ (ns:List Int):∀ k i,i<=k->MM.at0 ns (argBest (fun i j=>decide (MM.at0 ns i < MM.at0 ns j)) k)<=MM.at0 ns i
 | 0, i,h=>by
  have:i=0:=by lia
  subst this
  exact YcB _
 | k + 1, i,h=>by
  rw [argBest]
  have ih:=ZcZ ns k
  split
  ·rename_i hb
   have hb:=Yay hb
   by_cases e:i=k + 1
   ·rw [e];exact YcB _
   ·have:=ih i (by lia)
    lia
  ·rename_i hb
   have hb:¬ (MM.at0 ns (k + 1) < MM.at0 ns (argBest (fun i j=>decide (MM.at0 ns i < MM.at0 ns j)) k)):=fun z=>hb (Yak z)
   by_cases e:i=k + 1
   ·rw [e];lia
   ·exact ih i (by lia)
theorem at0_mem {ns:List Int} {i:Nat} (h:i < ns.length):MM.at0 ns i∈ns:=by
 unfold MM.at0
 rw [Yn,Yg h]
 exact YaY h
theorem mem_at0 {ns:List Int} {x:Int} (h:x∈ns):∃ i,i < ns.length/\MM.at0 ns i=x:=by
 obtain ⟨i,hi,e⟩:=YcP.mp h
 refine ⟨i,hi,?_⟩
 unfold MM.at0
 rw [Yn,Yg hi]
 exact e
theorem ZdK {ns:List Int} {its:List Value} (rv:Vals (ns.map V.int) its) {i:Nat} {v:Value} (h:its.toArray[i]? = some v):i < ns.length/\∃ t,v=.int (MM.at0 ns i) t:=by
 have hv':its[i]? = some v:=by simpa using h
 have hlen:=rv.length
 have hi:i < ns.length:=by
  have:=(Yq.mp hv').1
  rw [Yb] at hlen
  lia
 refine ⟨hi,?_⟩
 have e:(ns.map V.int)[i]? = some (.int (MM.at0 ns i)):=by
  rw [Yl,Yg hi]
  unfold MM.at0
  rw [Yn,Yg hi]
  rfl
 obtain ⟨u,hu,ru⟩:=rv.get e
 rw [hv'] at hu
 cases hu
 exact ru
section
variable {X:Cx}
noncomputable def uMinA (K:YFr):List V->Hp->VK->Prop:=fun xs H Q=>match xs with
 | [.int i,.int j]=>Q (.int (min i j)) H
 | [.ref p]=>∃ ns:List Int,SqL K H p (ns.map V.int)/\1<=ns.length/\∀ m,m∈ns->(∀ x∈ns,m<=x)->Q (.int m) H
 | _=>False
theorem c_minL (hc:X.calm=true):Zbf X (.builtin "min") (fun xs H Q=>∃ (p:Addr) (ns:List Int),xs=[.ref p]/\SqL X.K H p (ns.map V.int)/\1<=ns.length/\∀ m,m∈ns->(∀ x∈ns,m<=x)->Q (.int m) H):=by
 intro pins s σ H xs us Q I r h
 obtain ⟨p,ns,rfl,hl,h1,q⟩:=h
 obtain ⟨u,rfl,ru⟩:=r.one
 cases ru
 obtain ⟨its,rv,pl,hz⟩:=I.list hl
 have hlen:its.toArray.size=ns.length:=by have:=rv.length;simp at this;simp;lia
 have hp:p < s.heap.objs.size:=by obtain ⟨o,n,e,_⟩:=pl;exact Ym e
 refine call_min_walk (YaU pl.isList ?_)
 refine ⟨s.heap.objs.size,_,_,_,_,_,fun i j=>decide (MM.at0 ns i < MM.at0 ns j),rfl,YdN (show X.A.in1.handled=none from I.ok.hd hc) s.heap.objs.size p (Yx hp) its.toArray,⟨⟨_,Yp _ rfl,rfl,rfl⟩,pl.isList.at fun o e=>Yd _ e⟩,?_,by rw [hlen];exact h1,?_,?_⟩
 ·intro b hb
  rw [YaH]
  rcases Yv.mp hb with rfl | hb
  ·exact Yce _
  ·have:b=p:=by simpa using hb
   subst this
   exact YaV hp
 ·intro i j vi vj s' Q' E' hi hj hq
  obtain ⟨_,t,rfl⟩:=ZdK rv hi
  obtain ⟨_,t',rfl⟩:=ZdK rv hj
  exact HT.rcLt_int _ _ _ _ _ _ _ _ _ _ hq
 ·intro v h' tk hv hk
  obtain ⟨hi,t,rfl⟩:=ZdK rv hv
  rw [hlen] at hi ⊢
  refine ⟨.int _,H,I.kept (t':=tk) fun b o e=>hk b o (by simp;exact Yx (Ym e)) (Yd _ e),⟨_,rfl⟩,q _ (at0_mem hi) fun x hx=>?_⟩
  obtain ⟨j,hj,rfl⟩:=mem_at0 hx
  exact ZcZ ns (ns.length - 1) j (by lia)
theorem c_minA (hc:X.calm=true):Zbf X (.builtin "min") (uMinA X.K):=((c_min hc).or (c_minL hc)).imp fun xs H Q q=>by
 unfold uMinA at q
 split at q
 ·exact .inl q
 ·obtain ⟨ns,h1,h2,h3⟩:=q
  exact .inr ⟨_,ns,rfl,h1,h2,h3⟩
 ·exact q.elim
end
section
variable {prog:Program} {w:World} {A:Around} {E:Value->Shared->Prop} {s:Shared}
theorem cat_tup0 {t b:Addr} {ws:List Value} {Q:Value->Shared->Prop} (ht:IsTup s.heap t #[]) (hb:IsTup s.heap b ws.toArray) (h:Q (.ref b) s):wpAny (model prog w) A (binaryOp .Add (.ref t) (.ref b)) Q E s:=by
 obtain ⟨⟨c1,d1,x1,l1⟩,g1,k1,n1,z1⟩:=id ht
 obtain ⟨⟨c2,d2,x2,l2⟩,g2,k2,n2,z2⟩:=id hb
 simp only at k1 z1 k2 z2
 subst k1 z1 k2 z2
 exact Ycc ⟨_,g1,rfl⟩ ⟨_,g2,rfl⟩ PySem.noFill_tuple_add PySem.seq_tuple_add YbG YbB (Ybt _ _) (tuple_addW0 t b #[] ws.toArray n1 n2 d1 d2 l1 l2 rfl) ⟨g1,g2,h⟩
end
section
variable {X:Cx}
noncomputable def rCatU (K:YFr):R2:=fun x y H Q=>∃ a b xs ys,x=.ref a/\y=.ref b/\SqT K H a xs/\SqT K H b ys/\xs.length + ys.length<=sizeLine/\∀ p H',Same H H'->SqT K H' p (xs++ys)->Q (.ref p) H'
theorem op_catU:OpR X (binaryOp .Add) (rCatU X.K):=by
 intro pins s σ H x y v u Q I rx ry h
 obtain ⟨a,b,xs,ys,rfl,rfl,ha,hb,hz,q⟩:=h
 by_cases hx:xs=[]
 ·subst hx
  cases rx
  cases ry
  obtain ⟨its,r1,p1,_⟩:=I.tuple ha
  obtain ⟨its2,r2,p2,_⟩:=I.tuple hb
  cases r1
  exact cat_tup0 p1 p2 ⟨.ref b,H,I,rfl,q b H (Same.refl _) hb⟩
 ·refine op_catT pins s σ H (.ref a) (.ref b) v u Q I rx ry ⟨a,b,xs,ys,rfl,rfl,ha,hb,hx,hz,fun e=>?_,fun _ p hp=>?_⟩
  ·subst e
   exact q a H (Same.refl _) (by rw [Y4];exact ha)
  ·exact q p _ (Same.upd_new hp) (SqT.of Z3)
noncomputable def rSlU (K:YFr):V->Option Int->Option Int->Hp->VK->Prop:=fun x lo hi H Q=>∃ a xs,x=.ref a/\SqT K H a xs/\∀ p H',Same H H'->SqT K H' p (cutV xs lo hi)->Q (.ref p) H'
end
section
variable {prog:Program} {w:World} {A:Around} {E:Value->Shared->Prop} {s:Shared}
theorem ZhT {t sl:Addr} {items:Array Value} {vl vu:Value} {lo hi:Option Int} {Q:Value->Shared->Prop} (ht:IsTup s.heap t items) (hs:s.heap.IsSliceOf sl vl vu .none) (pl:IsPart vl lo) (pu:IsPart vu hi)
  (h1:HT.sIx items.size 0 lo=0) (h2:HT.sIx items.size items.size hi=items.size) (h:Q (.ref t) s):wpAny (model prog w) A (getItem (.ref t) (.ref sl)) Q E s:=by
 obtain ⟨ob,g1,g2,g3⟩:=id hs
 have hT:s.TypeIs (.ref sl) "slice":=⟨ob,g1,g2⟩
 unfold getItem
 try with_reducible refine YS ?_
 first | refine Yc (Yi ?_) | skip
 refine Yc (Yb9 ht.typeIs (by decide) ?_)
 have key:wpAny (model prog w) A.in1 (Builtin.«tuple.__getitem__» ⟨[.ref t,.ref sl],[]⟩) (fun fin s'=>∃ v,fin=.done (.ret v)/\Q v s') E s:=by
  show wpAny _ _ (Builtin.Tuple.tupleItemsOf (.ref t) >>= _) _ _ s
  refine Yc (PyProof.Rows.tupleItemsOf_ ht (Yc (YaX hT ?_)))
  rw [if_pos (by decide)]
  refine Yc (HT.sliceApplied_gen hs pl pu ?_)
  rw [h1,h2]
  show wpAny _ _ (if ((((0:Nat):Int) == 0 && (1:Int) == 1 && (items.size - 0) == items.size))=true then _ else _) _ _ s
  rw [if_pos (by simp)]
  refine Yc (Yc (YaX ht.typeIs (Yi ?_)))
  rw [if_pos (by decide)]
  exact Yc (Ybi (Yi ⟨_,rfl,h⟩))
 exact Yc (Y6 (name:=Str.ofString "__getitem__") ht.typeIs Yae (Yau Yae ht.typeIs PyProof.Rows.entry_tuple_getitem (YR key (fun fin s' ⟨v,e,q⟩=>⟨v,e,Yi q⟩) fun _ _ z=>z) (PyProof.Rows.args_tuple_getitem _ _)))
end
section
variable {X:Cx}
theorem Zg0 {xs:List V} {lo hi:Option Int} (h1:HT.sIx xs.length 0 lo=0) (h2:HT.sIx xs.length xs.length hi=xs.length):cutV xs lo hi=xs:=by
 unfold cutV
 rw [h1,h2,YbW,Nat.sub_zero,Yaj]
theorem sl_tupU:SlR X (rSlU X.K):=by
 intro pins s σ H x v vl vu lo hi sl Q I rx hs pl pu h
 obtain ⟨a,xs,rfl,hx,q⟩:=h
 by_cases hw:HT.sIx xs.length 0 lo=0/\HT.sIx xs.length xs.length hi=xs.length
 ·cases rx
  obtain ⟨its,r,ht,hz⟩:=I.tuple hx
  have hlen:its.toArray.size=xs.length:=by rw [Yk];exact r.length.symm
  refine ⟨"tuple",_,Yae.lookup,ht.typeIs,ZhT ht hs pl pu (by rw [hlen];exact hw.1) (by rw [hlen];exact hw.2) ⟨.ref a,H,I,rfl,q a H (Same.refl _) ?_⟩⟩
  rw [Zg0 hw.1 hw.2]
  exact hx
 ·exact sl_tup pins s σ H (.ref a) v vl vu lo hi sl Q I rx hs pl pu ⟨a,xs,rfl,hx,hw,fun p hp=>q p _ (Same.upd_new hp) (SqT.of Z3)⟩
noncomputable def uAddW (K:YFr):R2:=fun x y H Q=>match x,y with
 | .int i,.int j=>Q (.int (i + j)) H
 | .str i,.str j=>i.length + j.length<=sizeLine/\Q (.str (i++j)) H
 | .ref a,.ref b=>(∃ xs zs,SqL K H a xs/\SqL K H b zs/\xs.length + zs.length<=sizeLine/\∀ p,H p=none->Q (.ref p) (upd H p (.lst (xs++zs)))) \/
   (∃ xs zs,SqT K H a xs/\SqT K H b zs/\xs.length + zs.length<=sizeLine/\∀ p H',Same H H'->SqT K H' p (xs++zs)->Q (.ref p) H')
 | _,_=>False
theorem Zaf:OpR X (binaryOp .Add) (uAddW X.K):=((op_add.or ZgX).or (op_catL.or op_catU)).imp fun x y H Q q=>by
 unfold uAddW at q
 split at q
 ·exact .inl (.inl ⟨_,_,rfl,rfl,q⟩)
 ·exact .inl (.inr ⟨_,_,rfl,rfl,q.1,q.2⟩)
 ·rcases q with ⟨xs,zs,h1,h2,h3,h4⟩ | ⟨xs,zs,h1,h2,h3,h4⟩
  ·exact .inr (.inl ⟨_,_,xs,zs,rfl,rfl,h1,h2,h3,h4⟩)
  ·exact .inr (.inr ⟨_,_,xs,zs,rfl,rfl,h1,h2,h3,h4⟩)
 ·exact q.elim
theorem k_addW (K:YFr) (h:X.K=K):OpR X (binaryOp .Add) (uAddW K):=h ▸ Zaf
noncomputable def uSlW (K:YFr):V->Option Int->Option Int->Hp->VK->Prop:=fun x lo hi H Q=>match x with
 | .str z=>z.length<=sizeLine/\Q (.str (cutS z lo hi)) H
 | .ref a=>(∃ xs,SqL K H a xs/\∀ p,H p=none->Q (.ref p) (upd H p (.lst (cutV xs lo hi))))\/(∃ xs,SqT K H a xs/\∀ p H',Same H H'->SqT K H' p (cutV xs lo hi)->Q (.ref p) H')
 | _=>False
theorem ZaL:SlR X (uSlW X.K):=by
 intro pins s σ H x v vl vu lo hi sl Q I rx hs pl pu q
 unfold uSlW at q
 split at q
 ·exact sl_str pins s σ H _ v vl vu lo hi sl Q I rx hs pl pu ⟨_,rfl,q.1,q.2⟩
 ·rcases q with ⟨xs,h1,h2⟩ | ⟨xs,h1,h2⟩
  ·exact sl_list pins s σ H _ v vl vu lo hi sl Q I rx hs pl pu ⟨_,xs,rfl,h1,h2⟩
  ·exact sl_tupU pins s σ H _ v vl vu lo hi sl Q I rx hs pl pu ⟨_,xs,rfl,h1,h2⟩
 ·exact q.elim
theorem k_slW (K:YFr) (h:X.K=K):SlR X (uSlW K):=h ▸ ZaL
end
section
variable {prog:Program} {w:World} {A:Around} {E:Value->Shared->Prop} {s:Shared}
theorem ZdU {it t:Addr} {i:Nat} {items:Array Value} {x:Value} {Q:Value->Shared->Prop} (st:s.heap.IsTupleIter it t i) (ht:s.heap.IsTuple t items) (hx:items[i]? = some x)
  (hQ:∀ h',h'.IsTupleIter it t (i + 1)->Heap.SameBut it s.heap h'->Q x { s with heap:=h' }):wpAny (model prog w) A (Builtin.SmallTypes.nextOf (.ref it)) Q E s:=by
 obtain ⟨ob,g1,g2,g3⟩:=id st
 obtain ⟨ol,k1,k2,n,k3⟩:=ht
 have no:¬ ((Value.ref t == Value.none)=true):=Yr
 unfold Builtin.SmallTypes.nextOf
 refine Yc (Y6 (name:=Str.ofString "__next__") st.typeIs YaS (Yau YaS st.typeIs Yb1 ?_ (YbX _)))
 refine (show wpAny _ _ (field (.ref it) 0 >>= _) _ _ s from Yc (YO g1 g3 (x:=.ref t) rfl ?_))
 refine (show wpAny _ _ (if (Value.ref t == Value.none)=true then _ else _) _ _ s from ?_)
 rw [if_neg no]
 refine (show wpAny _ _ (field (.ref it) 1 >>= _) _ _ s from Yc (YO g1 g3 (x:=.int i 0) rfl ?_))
 refine (show wpAny _ _ (seqItems? (.ref t) >>= _) _ _ s from Yc (Y9 k1 k3 ?_))
 simp only [hx,Int.toNat_natCast]
 refine Yc (wpAny_setField g1 g3 (by simp) (Yi ⟨x,rfl,Yi (hQ _ ⟨_,YcH _ g1 (Obj.isFreed_of_fields (Ydg g3 _)),(Obj.cls_mapFields ..).trans g2,?_⟩ (Yac ..))⟩))
 rw [Ydg g3]
 simp [rawInt]
end
section
variable {prog:Program} {w:World} {A:Around} {E:Value->Shared->Prop} {s:Shared}
theorem Zet {it t:Addr} {i:Nat} {items:Array Value} {Q:Value->Shared->Prop} (hh:A.handled=none) (st:s.heap.IsTupleIter it t i) (ht:s.heap.IsTuple t items) (hx:items[i]? = none)
  (hE:∀ h' e,Heap.ExtBut it s.heap h'->(∃ o,h'.get? e=some o/\o.cls=.type "StopIteration")->E (.ref e) { s with heap:=h' }):wpAny (model prog w) A (Builtin.SmallTypes.nextOf (.ref it)) Q E s:=by
 obtain ⟨ob,g1,g2,g3⟩:=id st
 obtain ⟨ol,k1,k2,n,k3⟩:=ht
 have no:¬ ((Value.ref t == Value.none)=true):=Yr
 unfold Builtin.SmallTypes.nextOf
 refine Yc (Y6 (name:=Str.ofString "__next__") st.typeIs YaS (Yau YaS st.typeIs Yb1 ?_ (YbX _)))
 refine (show wpAny _ _ (field (.ref it) 0 >>= _) _ _ s from Yc (YO g1 g3 (x:=.ref t) rfl ?_))
 refine (show wpAny _ _ (if (Value.ref t == Value.none)=true then _ else _) _ _ s from ?_)
 rw [if_neg no]
 refine (show wpAny _ _ (field (.ref it) 1 >>= _) _ _ s from Yc (YO g1 g3 (x:=.int i 0) rfl ?_))
 refine (show wpAny _ _ (seqItems? (.ref t) >>= _) _ _ s from Yc (Y9 k1 k3 ?_))
 simp only [hx,Int.toNat_natCast]
 refine Yc (Ybi (Yc (wpAny_setField g1 g3 (by simp) (show wpAny _ _ (newExc (.type "StopIteration") [] >>= _) _ _ _ from Yc ?_))))
 simp only [newTuple,newExc]
 refine Yc (Yaq (Yc (m:=firstArgMember _ _) (Ydy (a:=Value.none) (by first | rfl | (simp only [firstArgMember];rfl)) (Yaq ?_ (by size_fits)))) (by size_fits))
 simp only [raiseNew]
 refine Yc (wpAny_handled ?_)
 first | rw [hh] | rw [show A.in1.handled=none from hh]
 exact Yc (Yi (wpAny_throw (hE _ _ (((Yac ..).extBut.push _).push _) ⟨_,Yp _ rfl,rfl⟩)))
end
theorem ZeQ:typeLookup (.type "list_reverseiterator") "__len__"=pure none:=by rw [typeLookup_type,YcI];kernel_rfl
theorem Zf5:typeLookup (.type "list_reverseiterator") "__length_hint__"=pure (some (.builtin "list_reverseiterator.__length_hint__")):=by rw [typeLookup_type,YcI];kernel_rfl
theorem Zes {items acc:Array Value} (h:ItemsOf (fun i v=>items[items.size - 1 - i]? = some v) acc items.size):acc.toList=items.toList.reverse:=by
 obtain ⟨h1,h2⟩:=h
 apply Ydr
 intro j
 by_cases hj:j < items.size
 ·have e:=h2 j (acc[j]'(by lia)) (Ybn (by lia))
  rw [Ybe (by simpa using hj),YaG,YaG,Array.length_toList,e]
  exact Ybn (by lia)
 ·rw [YV (by rw [Array.length_toList];lia),YV (by rw [Y5,Array.length_toList];lia)]
section
variable {prog:Program} {w:World} {A:Around} {E:Value->Shared->Prop} {s:Shared}
theorem Zfq {I l:Addr} {items:Array Value} {Q:List Value->Shared->Prop} (hh:A.handled=none) (hne:l≠I) (st:s.heap.IsRevIter I l ((items.size:Int) - 1)) (hl:s.heap.IsList l items) (hn:items.size<=sizeLine)
  (hQ:∀ s',Moved [I] (fun a b=>b=a) s s'->Q items.toList.reverse s'):wpAny (model prog w) A (collect (.ref I)) Q E s:=by
 have W:=(Walks.listRev (prog:=prog) (w:=w) (A:=A.in1) hh I l hne items).toS
 have hlt:∀ b∈[I,l],b < s.heap.objs.size:=fun b hb=>by
  simp only [Yv,YU,YaL] at hb
  rcases hb with rfl | rfl
  ·obtain ⟨o,e,_⟩:=st;exact Ym e
  ·obtain ⟨o,e,_⟩:=hl;exact Ym e
 have nf:s.heap.objs.size ∉ [I,l]:=fun z=>YaR _ (hlt _ z)
 have nI:s.heap.objs.size≠I:=fun z=>nf (by rw [z];simp)
 have st0:(0<=items.size/\s.heap.IsRevIter I l ((items.size:Int) - 1 - ((0:Nat):Int))/\s.heap.IsList l items):=⟨YY _,by rw [show ((0:Nat):Int)=0 from rfl,Int.sub_zero];exact st,hl⟩
 unfold collect
 refine Yc (wpAny_runValue (Ya4 F.entry_proto_collect ?_))
 rw [YaM F.plain_proto_collect _]
 refine (show wpAny _ A.in1 (newList [] >>= fun z=>again (.builtin "list.__iadd__" ⟨[z,.ref I],[]⟩)) _ _ s from Yc (Yaq (Yi ⟨YaN Yds _,Ya4 F.entry_list_iadd ?_⟩)))
 rw [YaM Yds _]
 have st1:=W.frame 0 s (s.heap.push { cls:=.type "list",data:=.seq ([]:List Value).toArray }) s.toks st0 (Yh _) fun b _ o e=>Yd _ e
 have new1:(s.heap.push { cls:=.type "list",data:=.seq ([]:List Value).toArray }).get? s.heap.objs.size=some { cls:=.type "list",data:=.seq ([]:List Value).toArray }:=Yp _ rfl
 have apart:Builtin.List.listSameRef (.ref s.heap.objs.size) (.ref I)=false:=by simp [Builtin.List.listSameRef,nI]
 have ty:({ s with heap:=s.heap.push { cls:=.type "list",data:=.seq ([]:List Value).toArray } }:Shared).TypeIs (.ref I) "list_reverseiterator":=st1.2.1.typeIs
 show wpAny _ A.in1 (Builtin.List.listExtendWith (.ref s.heap.objs.size) (.ref I) (.ref s.heap.objs.size)) _ _ _
 unfold Builtin.List.listExtendWith
 refine Yc (YaX ty ?_)
 rw [if_neg (by rw [apart];decide)]
 refine Yc (W.self 0 _ _ _ st1 (Yc (YS ?_)))
 unfold Builtin.List.listLengthHint
 refine Yc (Ya5 ty ZeQ ?_)
 refine (show wpAny _ A.in1 (specialOf (Value.ref I) (Str.ofString "__length_hint__") >>= _) _ _ _ from Yc (Ya5 ty Zf5 ?_))
 generalize hid:("list_reverseiterator.__length_hint__":String)=id0
 (fail_if_success (clear hid id0));wp_delta
 rw [show splitId id0=some ("list_reverseiterator","__length_hint__") from by subst hid;decide +kernel]
 subst hid
 refine Yc (YbI (b:=true) ty (by rw [isSubtype_type];kernel_rfl) (Yi ?_))
 rw [if_neg (by decide)]
 refine Yi ⟨YaN YcZ _,YcQ W hn _ nf _ items.size 0 _ _ _ rfl (YY _) st1 new1 (ItemsOf.nil _) fun s' acc c' mv here got=>?_⟩
 refine (show wpAny _ A (load s.heap.objs.size >>= _) _ _ s' from Yc (wpAny_load here (Yi ?_)))
 have e:=Zes got
 show Q acc.toList s'
 rw [e]
 exact hQ s' (Moved.drop_new (o:={ cls:=.type "list",data:=.seq ([]:List Value).toArray }) (tk:=s.toks) mv (Yh _))
end
section
open PySem.AutoSeq1 (wpAny_loadPart')
theorem ZfC (I l:Addr) (items:Array Value) (hne:l≠I) (hn:items.size<=sizeLine) :
  Meets (Builtin.«tuple.__new__» ⟨[.type "tuple",.ref I],[]⟩) (fun A R s=>A.handled=none/\s.heap.IsRevIter I l ((items.size:Int) - 1)/\s.heap.IsList l items /\
   ∀ s':Shared,Moved [I] (fun a b=>b=a) s s'->R (.ok (.ret (.ref s'.heap.objs.size))) { s' with heap:=s'.heap.push { cls:=.type "tuple",data:=.seq items.reverse } }) :=
 .of_wp fun prog w A R s hq0=>by
  obtain ⟨hh,g1,g2,g3⟩:=hq0
  obtain ⟨hp,ge,dr,tk,os⟩:=s
  have e1:=sub_tuple_self
  have e2:=init_tuple_lookup
  have e3:=madeHere_tuple
  have ty:Shared.TypeIs ⟨hp,ge,dr,tk,os⟩ (.ref I) "list_reverseiterator":=g1.typeIs
  wp_walk using YaX ty,Zfq (A:=A.in1) (show A.in1.handled=none from hh) hne g1 g2 hn
  intro s' mv
  refine (show wpAny _ _ (Builtin.Tuple.tupleExact items.toList.reverse.toArray >>= fun v=>ret v) _ _ _ from ?_)
  unfold Builtin.Tuple.tupleExact
  have e4:items.toList.reverse.toArray=items.reverse:=by apply Yav.mp;rw [YcR]
  rw [e4]
  exact Yc (Yaq (Yi ⟨_,rfl,g3 s' mv⟩) (by show items.reverse.size<=sizeLine;simpa using hn))
end
section
variable {prog:Program} {w:World} {A:Around} {E:Value->Shared->Prop} {s:Shared}
theorem Zew {I l:Addr} {items:Array Value} {Q:Value->Shared->Prop} (hh:A.handled=none) (hne:l≠I) (st:s.heap.IsRevIter I l ((items.size:Int) - 1)) (hl:s.heap.IsList l items) (hn:items.size<=sizeLine)
  (hQ:∀ s':Shared,Moved [I] (fun a b=>b=a) s s'->Q (.ref s'.heap.objs.size) { s' with heap:=s'.heap.push { cls:=.type "tuple",data:=.seq items.reverse } }):wpAny (model prog w) A (call (.type "tuple") [.ref I]) Q E s :=
 Ydh F.called_tuple (by decide) (F.typeCall_tuple_1 _) (F.newCall_tuple_1 _) (fun ob=>YcS ob _) F.entry_tuple_new (ZfC I l items hne hn) ⟨hh,st,hl,fun s' mv=>⟨⟨_,Yp _ rfl,rfl⟩,hQ s' mv⟩⟩
end
theorem ZdY:bootBuiltins "reversed"=some (.type "reversed"):=by decide +kernel
theorem ZgK:bootBuiltins "tuple"=some (.type "tuple"):=by decide +kernel
noncomputable def ZiP (K:YFr) (te:TE):TE:=fun σ H Q=>te σ H fun x H1=>∃ a xs,x=.ref a/\SqL K H1 a xs/\∀ p,H1 p=none->Q (.ref p) (upd H1 p (.tup xs.reverse))
theorem Zcn {s s':Shared} {wr:List Addr} (m:Moved wr (fun a b=>b=a) s s'):s'={ s with heap:=s'.heap,toks:=s'.toks }:=by
 have h1:=m.gens
 have h2:=m.drawn
 have h3:=m.os
 cases s'
 simp only at h1 h2 h3
 subst h1 h2 h3
 rfl
section
variable {X:Cx} {e:Expr} {te:TE} {p1 p2 pos1 pos2:Pos}
theorem Zef (hc:X.calm=true) (hg2:Gl X "reversed") (hm2:X.mg "reversed"=none) (he:PE X e te) (hs2:starEach [e] X.env=[(false,eval e X.env)]) {pins:List (Addr × Obj)} {s:Shared} {σ:St} {H:Hp} {R:Addr->List V->Hp->Prop} {Q:Value->Shared->Prop} (I:Inv X pins σ H s)
  (h:te σ H fun x H1=>∃ a xs,x=.ref a/\SqL X.K H1 a xs/\R a xs H1)
  (k:∀ a xs H1 s1 its,Inv X pins σ H1 s1->SqL X.K H1 a xs->Vals xs its->s1.heap.IsList a its.toArray->xs.length<=sizeLine->R a xs H1->Q (.ref s1.heap.objs.size) { s1 with heap:=s1.heap.push (revObj a ((its.toArray.size:Int) - 1)) }) :
  wpAny (model X.prog X.w) X.A (eval (.Call (.Name "reversed" p2) [e] [] pos2) X.env) Q X.xe s:=by
 refine Yah (Zbm I hg2 hm2 ZdY ?_ (by decide) (by decide))
 refine YN (T:="reversed") ?_ hs2 rfl
 rw [hs2]
 refine (show wpAny _ _ (spliced ((false,eval e X.env)::[])) _ _ s from Ya2 (thn (he pins s σ H _ I h) fun v s1 ⟨x,H1,I1,r1,a,xs,e1,hx,q⟩=>Ybb ?_))
 subst e1
 cases r1
 obtain ⟨its,rv,pl,hz⟩:=I1.list hx
 exact call_reversed_list pl.isList (k a xs H1 s1 its I1 hx rv pl.isList hz q)
theorem ZiA (hc:X.calm=true) (hg1:Gl X "tuple") (hm1:X.mg "tuple"=none) (hg2:Gl X "reversed") (hm2:X.mg "reversed"=none) (he:PE X e te) (hs2:starEach [e] X.env=[(false,eval e X.env)]:=by rfl)
  (hs1:starEach [.Call (.Name "reversed" p2) [e] [] pos2] X.env=[(false,eval (.Call (.Name "reversed" p2) [e] [] pos2) X.env)]:=by rfl):PE X (.Call (.Name "tuple" p1) [.Call (.Name "reversed" p2) [e] [] pos2] [] pos1) (ZiP X.K te):=by
 intro pins s σ H Q I h
 refine Yah (Zbm I hg1 hm1 ZgK ?_ (by decide) (by decide))
 refine YN (T:="tuple") ?_ hs1 rfl
 rw [hs1]
 refine (show wpAny _ _ (spliced ((false,eval (.Call (.Name "reversed" p2) [e] [] pos2) X.env)::[])) _ _ s from Ya2 (Zef hc hg2 hm2 he hs2 I h fun a xs H1 s1 its I1 hx rv pl hz q=>Ybb ?_))
 have la:a < s1.heap.objs.size:=by obtain ⟨o,e,_⟩:=pl;exact Ym e
 have hlen:=rv.length
 refine Zew (I:=s1.heap.objs.size) (l:=a) (items:=its.toArray) (I1.ok.hd hc) (Yx la) ⟨_,Yp _ rfl,rfl,rfl⟩ (pl.at fun o z=>Yd _ z) (by rw [Yk,<- hlen];exact hz) fun s' mv=>?_
 have e':=Zcn mv
 have kp:∀ b o,s1.heap.get? b=some o->s'.heap.get? b=some o:=fun b o z=>mv.heap b o (by simp;exact Yx (Ym z)) (Yd _ z)
 have I2:Inv X pins σ H1 { s1 with heap:=s'.heap,toks:=s'.toks }:=I1.kept (t':=s'.toks) kp
 have I3:Inv X pins σ (upd H1 s'.heap.objs.size (.tup xs.reverse)) { s1 with heap:=s'.heap.push { cls:=.type "tuple",data:=.seq its.toArray.reverse },toks:=s'.toks } :=
  I2.laid (t':=s'.toks) (fun b o z=>Yd _ z) (Yh _) ⟨by rw [Y5];exact hz,its.reverse,Vals.reverse rv,by
   have e9:its.toArray.reverse=its.reverse.toArray:=by apply Yav.mp;simp
   rw [e9]
   exact Yde _ _⟩
 rw [e']
 exact ⟨.ref s'.heap.objs.size,_,I3,rfl,q _ (I2.hok.fresh (Yh _))⟩
end
inductive Wr where
 | nothing
 | bead (c:Str)
 | side (b:Bool) (f:Wr)
 | pair (f g:Wr)
 | many (k:Nat) (ps:List Wr)
noncomputable def Za2:Nat->Str
 | 0=>"row"
 | 1=>"bag"
 | 2=>"choice"
 | _=>"ring"
noncomputable def Zcs:Bool->Str
 | true=>"right"
 | false=>"left"
noncomputable def Wr.name:Wr->Str
 | .nothing=>"nothing"
 | .bead _=>"bead"
 | .side b _=>Zcs b
 | .pair _ _=>"pair"
 | .many k _=>Za2 k
noncomputable def Wr.parts:Wr->List Wr
 | .nothing=>[]
 | .bead _=>[]
 | .side _ f=>[f]
 | .pair f g=>[f,g]
 | .many _ ps=>ps
mutual
noncomputable def Wr.tups:Wr->Nat
 | .nothing=>1
 | .bead _=>1
 | .side _ f=>1 + f.tups
 | .pair f g=>1 + (f.tups + (g.tups + 0))
 | .many _ ps=>1 + tupsL ps
noncomputable def tupsL:List Wr->Nat
 | []=>0
 | w::ws=>w.tups + tupsL ws
end
mutual
noncomputable def Wr.dep:Wr->Nat
 | .nothing=>1
 | .bead _=>1
 | .side _ f=>1 + f.dep
 | .pair f g=>1 + max f.dep g.dep
 | .many _ ps=>1 + depL ps
noncomputable def depL:List Wr->Nat
 | []=>0
 | w::ws=>max w.dep (depL ws)
end
mutual
noncomputable def Wr.ok:Wr->Bool
 | .nothing=>true
 | .bead c=>PyData.strOk c
 | .side _ f=>f.ok
 | .pair f g=>f.ok && g.ok
 | .many _ ps=>okL ps
noncomputable def okL:List Wr->Bool
 | []=>true
 | w::ws=>w.ok && okL ws
end
theorem Wr.tups_pos:∀ w:Wr,1<=w.tups
 | .nothing=>by simp [Wr.tups]
 | .bead _=>by simp [Wr.tups]
 | .side _ f=>by simp [Wr.tups]
 | .pair f g=>by simp [Wr.tups]
 | .many _ ps=>by simp [Wr.tups]
theorem Wr.dep_pos:∀ w:Wr,1<=w.dep
 | .nothing=>by simp [Wr.dep]
 | .bead _=>by simp [Wr.dep]
 | .side _ f=>by simp [Wr.dep]
 | .pair f g=>by simp [Wr.dep]
 | .many _ ps=>by simp [Wr.dep]
mutual
theorem Wr.dep_le:∀ w:Wr,w.dep<=w.tups
 | .nothing=>Yh _
 | .bead _=>Yh _
 | .side _ f=>by have:=f.dep_le;simp only [Wr.dep,Wr.tups];lia
 | .pair f g=>by have:=f.dep_le;have:=g.dep_le;simp only [Wr.dep,Wr.tups];lia
 | .many _ ps=>by have:=ZfB ps;simp only [Wr.dep,Wr.tups];lia
theorem ZfB:∀ ws:List Wr,depL ws<=tupsL ws
 | []=>Yh _
 | w::ws=>by have:=w.dep_le;have:=ZfB ws;simp only [depL,tupsL];lia
end
theorem ZaS:∀ {ws:List Wr} {w:Wr},w∈ws->w.dep<=depL ws
 | v :: ws,w,h=>by
  simp only [depL]
  rcases Yv.mp h with rfl | h
  ·lia
  ·have:=ZaS h;lia
theorem Zie:∀ {ws:List Wr} {w:Wr},okL ws=true->w∈ws->w.ok=true
 | v :: ws,w,h0,h=>by
  simp only [okL,Ye] at h0
  rcases Yv.mp h with rfl | h
  ·exact h0.1
  ·exact Zie h0.2 h
theorem Zal:∀ {ws:List Wr} {w:Wr},w∈ws->w.tups<=tupsL ws
 | v :: ws,w,h=>by
  simp only [tupsL]
  rcases Yv.mp h with rfl | h
  ·lia
  ·have:=Zal h;lia
theorem Zas:∀ (ws us:List Wr),tupsL (ws++us)=tupsL ws + tupsL us
 | [],us=>by simp [tupsL]
 | w::ws,us=>by simp only [List.cons_append,tupsL,Zas ws us];lia
theorem Wr.parts_dep (w:Wr):depL w.parts + 1<=w.dep:=by
 cases w with
 | nothing=>simp [Wr.parts,depL,Wr.dep]
 | bead c=>simp [Wr.parts,depL,Wr.dep]
 | side b f=>simp [Wr.parts,depL,Wr.dep];lia
 | pair f g=>simp [Wr.parts,depL,Wr.dep];lia
 | many k ps=>simp [Wr.parts,Wr.dep];lia
theorem Wr.parts_tups (w:Wr):tupsL w.parts + 1<=w.tups:=by
 cases w with
 | nothing=>simp [Wr.parts,tupsL,Wr.tups]
 | bead c=>simp [Wr.parts,tupsL,Wr.tups]
 | side b f=>simp [Wr.parts,tupsL,Wr.tups];lia
 | pair f g=>simp [Wr.parts,tupsL,Wr.tups];lia
 | many k ps=>simp [Wr.parts,Wr.tups];lia
noncomputable def Zd1 (K:YFr) (H H':Hp):Prop:=∀ a xs,SqT K H a xs->SqT K H' a xs
theorem Zd1.trans {K:YFr} {H H1 H2:Hp} (h:Zd1 K H H1) (k:Zd1 K H1 H2):Zd1 K H H2:=fun a xs q=>k a xs (h a xs q)
theorem Same.tups {K:YFr} {H H':Hp} (e:Same H H'):Zd1 K H H':=fun _ _ h=>e.sq h
theorem Zd1.lst {K:YFr} {H:Hp} {l:Addr} {ys zs:List V} (h:H l=some (.lst ys)):Zd1 K H (upd H l (.lst zs)):=fun a xs q=>by
 rcases q with (q | ⟨o,q⟩) | q
 ·refine .inl (.inl ?_)
  rw [Zs (Zct q h (by intro z;cases z))];exact q
 ·refine .inl (.inr ⟨o,?_⟩)
  rw [Zs (Zct q h (by intro z;cases z))];exact q
 ·exact .inr q
mutual
noncomputable def Wr.toD:Wr->PyData
 | .nothing=>.tuple [.str "nothing"]
 | .bead c=>.tuple [.str "bead",.str c]
 | .side b f=>.tuple [.str (Zcs b),f.toD]
 | .pair f g=>.tuple [.str "pair",f.toD,g.toD]
 | .many k ps=>.tuple [.str (Za2 k),.tuple (toDL ps)]
noncomputable def toDL:List Wr->List PyData
 | []=>[]
 | w::ws=>w.toD::toDL ws
end
theorem ok_sname (b:Bool):PyData.strOk (Zcs b)=true:=by cases b <;> decide +kernel
theorem ok_mname:∀ k,PyData.strOk (Za2 k)=true
 | 0=>by decide +kernel
 | 1=>by decide +kernel
 | 2=>by decide +kernel
 | k + 3=>by show PyData.strOk "ring"=true;decide +kernel
mutual
theorem Wr.can:∀ w:Wr,w.ok=true->w.toD.canLay0=true
 | .nothing,_=>by simp only [Wr.toD,PyData.canLay0,PyData.canLayAll0];decide +kernel
 | .bead c,h=>by simp only [Wr.toD,PyData.canLay0,PyData.canLayAll0,Ys];simp only [Wr.ok] at h;rw [h];decide +kernel
 | .side b f,h=>by
  simp only [Wr.ok] at h
  simp only [Wr.toD,PyData.canLay0,PyData.canLayAll0,Ys,ok_sname,f.can h]
 | .pair f g,h=>by
  simp only [Wr.ok,Ye] at h
  simp only [Wr.toD,PyData.canLay0,PyData.canLayAll0,Ys,f.can h.1,g.can h.2]
  decide +kernel
 | .many k ps,h=>by
  simp only [Wr.ok] at h
  simp only [Wr.toD,PyData.canLay0,PyData.canLayAll0,Ys,ok_mname,canL ps h]
theorem canL:∀ ws:List Wr,okL ws=true->PyData.canLayAll0 (toDL ws)=true
 | [],_=>by simp only [toDL,PyData.canLayAll0]
 | w :: ws,h=>by
  simp only [okL,Ye] at h
  simp only [toDL,PyData.canLayAll0,w.can h.1,canL ws h.2,Ys]
end
mutual
theorem Wr.deep:∀ w:Wr,w.toD.depth<=2 * w.dep
 | .nothing=>by simp [Wr.toD,PyData.depth,PyData.depthAll,Wr.dep]
 | .bead c=>by simp [Wr.toD,PyData.depth,PyData.depthAll,Wr.dep]
 | .side b f=>by have:=f.deep;simp only [Wr.toD,PyData.depth,PyData.depthAll,Wr.dep];lia
 | .pair f g=>by have:=f.deep;have:=g.deep;simp only [Wr.toD,PyData.depth,PyData.depthAll,Wr.dep];lia
 | .many k ps=>by have:=deepL ps;simp only [Wr.toD,PyData.depth,PyData.depthAll,Wr.dep];lia
theorem deepL:∀ ws:List Wr,PyData.depthAll (toDL ws)<=2 * depL ws
 | []=>by simp [toDL,PyData.depthAll,depL]
 | w::ws=>by have:=w.deep;have:=deepL ws;simp only [toDL,PyData.depthAll,depL];lia
end
theorem Wr.same_eqv (w:Wr) (h:w.ok=true):PyData.eqv w.toD w.toD=true:=SeqAt.eqv_refl _ (w.can h)
noncomputable def tn (ps:List Wr) (i:Nat):Int:=((ps.map Wr.tups).getD i 0:Nat)
theorem Zjk (w:Wr):inV (.str w.name) [V.str "row",V.str "bag",V.str "choice",V.str "ring"]=match w with | .many _ _=>true | _=>false:=by
 cases w with
 | nothing=>decide +kernel
 | bead c=>show inV (.str "bead") _=false;decide +kernel
 | side b f =>
  cases b
  ·show inV (.str "left") _=false;decide +kernel
  ·show inV (.str "right") _=false;decide +kernel
 | pair f g=>show inV (.str "pair") _=false;decide +kernel
 | many k ps =>
  match k with
  | 0=>show inV (.str "row") _=true;decide +kernel
  | 1=>show inV (.str "bag") _=true;decide +kernel
  | 2=>show inV (.str "choice") _=true;decide +kernel
  | k + 3=>show inV (.str "ring") _=true;decide +kernel
theorem nb_side (b:Bool):¬ (decide (Zcs b=Str.ofString "bead")=true):=by
 cases b
 ·show ¬ (decide ((Str.ofString "left")=(Str.ofString "bead"))=true);decide +kernel
 ·show ¬ (decide ((Str.ofString "right")=(Str.ofString "bead"))=true);decide +kernel
theorem Zii:∀ k,¬ (decide (Za2 k=Str.ofString "bead")=true)
 | 0=>by show ¬ (decide ((Str.ofString "row")=(Str.ofString "bead"))=true);decide +kernel
 | 1=>by show ¬ (decide ((Str.ofString "bag")=(Str.ofString "bead"))=true);decide +kernel
 | 2=>by show ¬ (decide ((Str.ofString "choice")=(Str.ofString "bead"))=true);decide +kernel
 | k + 3=>by show ¬ (decide ((Str.ofString "ring")=(Str.ofString "bead"))=true);decide +kernel
theorem nb_pair:¬ (decide (Str.ofString "pair"=Str.ofString "bead")=true):=by decide +kernel
theorem ZgH:¬ (decide (Str.ofString "nothing"=Str.ofString "bead")=true):=by decide +kernel
theorem k_bm0 {X:Cx} {o:Expr} {to:TE} {name:Str} {apos cpos:Pos} {T id:String} {r:V->List V->Hp->VK->Prop} (K:YFr) (hK:X.K=K) (pa:PlainAttrs T) (slot:Slot T name id) (hty:typeOf (.builtin id)=pure (.type "method_descriptor")) (hm:MtR X id r) (ho:PE X o to)
  (hbase:attributeBase o name X.env (eval o X.env)=eval o X.env:=by rfl) (hline:(apos.endLine == cpos.line)=true:=by rfl):PE X (.Call (.Attribute o name apos) [] [] cpos) (tBM0 K T r to):=hK ▸ Zdw pa slot hty hm ho hbase hline
theorem ZaE:∀ us:List Wr,us.length<=tupsL us
 | []=>Yh _
 | u::us=>by have:=u.tups_pos;have:=ZaE us;simp only [List.length_cons,tupsL];lia
noncomputable def tCallV (f:Addr) (sp:Sp) (dvs:List V) (E:XK) (tf:TE) (t:TA):TE:=fun σ H Q=>tf σ H fun y H0=>y=.ref f/\t σ H0 fun vs H1=>sp (vs++dvs) H1 Q E
section
variable {X:Cx} {CX:CXT} {k:Nat} {f:Addr} {fd:FuncData} {ps:List Str} {sp:Sp} {x:Str} {ds:List Value} {dvs:List V} {E:XK} {e:Expr} {es:List Expr} {t:TA} {p pos:Pos} {tf:TE}
theorem Zgh (F:FnOk X.prog X.w X.K X.mg X.base CX k f fd ps sp) (hr:Room k X.A) (hv:PE X (.Name x p) tf) (hk:PySem.W.keepIn X.K (.ref f)=true) (hb:Zav X.K fd ps ds) (hd:Vals dvs ds) (hx:Zf6 CX X E) (ha:PA X (e::es) t)
  (he:starEach (e::es) X.env=(false,eval e X.env)::starEach es X.env:=by rfl) (hpl:(backTo pos (starEach es X.env)).any (·.1)=false:=by rfl):PE X (.Call (.Name x p) (e::es) [] pos) (tCallV f sp dvs E tf t):=by
 intro pins s σ H Q I h
 refine Yah (thn (hv pins s σ H _ I h) fun u s0 h_q=>?_)
 obtain ⟨y,H0,I0,r0,e0,q0⟩:=h_q
 subst e0
 cases r0
 exact Ydb (h₀:=X.base) I.ok.mod.kin hk (thn (ha pos pins s0 σ H0 _ I0 q0) fun us s1 ⟨vs,H1,I1,r,q⟩=>⟨I1.kIn,run_fn F hr hb hd hx I1 r q⟩) he hpl
end
section
open PySem.AutoSeq1 (wpAny_loadPart')
theorem Zg4 (l:Addr) (items:Array Value) (n:Nat) (t:Addr) (more:Array Value) (m:Nat) (dd:Option Addr) (sl:Array (Option Value)) (h1:¬ (!items.isEmpty && Builtin.List.listTooLong (items.size + more.size))=true) (h2:items.size<=sizeLine) (h3:(items++more).size<=sizeLine + 1) :
  Meets (Builtin.«list.extend» ⟨[.ref l,.ref t],[]⟩) (fun _ R s=>s.heap.get? l=some { cls:=.type "list",data:=.seq items n } /\
   s.heap.get? t=some { cls:=.type "tuple",dict:=dd,data:=.seq more m,slots:=sl }/\R (.ok (.ret .none)) { s with heap:=s.heap.update l (Obj.mapSeq fun x=>x++more) }) :=
 .of_wp fun prog w A R s hq0=>by
  obtain ⟨g1,g2,q⟩:=hq0
  obtain ⟨hp,ge,dr,tk,os⟩:=s
  have a1:=PySem.AutoSeq1.idx_int
  have a2:=PySem.AutoSeq1.sub_tuple_tuple
  have a3:=PySem.AutoSeq1.sub_list_list
  have a4:=PySem.AutoSeq1.sub_tuple_list
  have a5:=PySem.AutoSeq1.sub_list_tuple
  wp_walk using (Ya6 g1 rfl (hz:=h2) (_hz':=h3)),YF g1,YF g2
  exact ⟨_,rfl,q⟩
end
section
variable {X:Cx}
noncomputable def rExtT (K:YFr):V->List V->Hp->VK->Prop:=fun x vs H Q=>∃ l b xs zs,x=.ref l/\vs=[.ref b]/\H l=some (.lst xs)/\SqT K H b zs/\xs.length + zs.length<=sizeLine/\Q .non (upd H l (.lst (xs++zs)))
theorem mt_extT:MtM X "list.extend" (rExtT X.K):=by
 intro pins s σ H x vs v us Q I rx rv h
 obtain ⟨l,b,xs,zs,rfl,rfl,hH,hB,hz,q⟩:=h
 cases rx
 obtain ⟨u,rfl,ru⟩:=rv.one
 cases ru
 obtain ⟨z,its,n,r,hl,e⟩:=I.lstM hH
 obtain ⟨its2,r2,⟨⟨c,dd,dt,sl⟩,e2,k1,m,k2⟩,z2⟩:=I.tuple hB
 simp only at k1 k2
 subst k1 k2
 have hl2:=r2.length
 have hsz:its.toArray.size + its2.toArray.size<=sizeLine:=by simp only [Yk];lia
 refine YaW Ydf ⟨_,e,rfl⟩ YcY (YcO _ _) (Zg4 l its.toArray n b its2.toArray m dd sl (by rw [Zb4 hsz,YA];decide) (by lia) (by rw [Ydt];lia)) ⟨e,e2,?_⟩
 refine ⟨.non,_,I.lset (its':=its++its2) (t':=s.toks) hH e (by simp) (r.append r2) ?_,rfl,q⟩
 simp only [Yj]
 lia
end
noncomputable def Itv (K:YFr) (a:Addr) (n:Nat):It :=
 ⟨fun i H=>i < n/\∃ xs x,SqL K H a xs/\xs[n - 1 - i]? = some x,fun i H x H'=>H'=H/\∀ xs,SqL K H a xs->xs[n - 1 - i]? = some x,fun i _=>i=n⟩
theorem turn_rev {P:Program} {w:World} {K:YFr} {tg:Expr} (a it:Addr) (n:Nat):Turn P w K tg (Itv K a n) [it] it (fun i h=>h.IsRevIter it a ((n:Int) - 1 - (i:Int))):=by
 refine ⟨by simp,fun i h st b hb=>?_,fun i h h' st k=>st.at fun o e=>k it (by simp) o e,?_,?_,fun _ _ _ _ _ st h=>YcT st h⟩
 ·obtain rfl:b=it:=by simpa using hb
  obtain ⟨o,e1,_,d⟩:=st
  exact ⟨o,e1,fun v z=>by rw [d] at z;cases z⟩
 ·intro X e1 e2 e3 hc i pins s σ H E I hf st ⟨hi,xs,x,hq,hx⟩
  subst e1 e2 e3
  obtain ⟨its,rv,pl,hz⟩:=I.list hq
  obtain ⟨u,hu,ru⟩:=rv.get hx
  obtain ⟨f0,f1,_,f3,f4,f5⟩:=hf it (by simp)
  have st2:s.heap.IsRevIter it a ((n - 1 - i:Nat):Int):=by
   have:((n - 1 - i:Nat):Int)=(n:Int) - 1 - (i:Int):=by lia
   rw [this];exact st
  refine wpAny_pyNext_rev_item st2 pl.isList (x:=u) (by simpa using hu) fun h' st' sb=>?_
  have J1:Inv X pins σ H { s with heap:=h' }:=I.turned (t':=s.toks) (fun b o hb z=>(sb.2 b hb).trans z) f0 f1 f3 f4 f5
  have st3:h'.IsRevIter it a ((n:Int) - 1 - ((i + 1:Nat):Int)):=by
   have:(n:Int) - 1 - ((i + 1:Nat):Int)=((n - 1 - i:Nat):Int) - 1:=by lia
   rw [this];exact st'
  obtain ⟨o,z1,z2,z3⟩:=id st'
  refine ⟨u,rfl,ZhS (s:={ s with heap:=h' }) z1 z2 z3 (by decide) ⟨x,H,J1,ru,⟨rfl,fun ys hy=>?_⟩,st3,fun b hb=>(hf b hb).1⟩⟩
  rw [I.list_inj hy hq];exact hx
 ·intro X e1 e2 e3 hc i pins s σ H E I hf st hi
  subst e1 e2 e3
  have hi:i=n:=hi
  subst hi
  obtain ⟨f0,f1,_,f3,f4,f5⟩:=hf it (by simp)
  have st2:s.heap.IsRevIter it a (-1):=by
   have:(-1:Int)=(i:Int) - 1 - (i:Int):=by lia
   rw [this];exact st
  exact wpAny_pyNext_rev_end (I.ok.hd hc) st2 fun h' eb=>⟨rfl,I.turned (t':=s.toks) (fun b o hb z=>eb b o hb z) f0 f1 f3 f4 f5⟩
section
variable {X:Cx} {tg e:Expr} {te:TE} {p2 pos2:Pos}
noncomputable def jRev (K:YFr) (te:TE):TI:=fun σ H R=>te σ H fun x H1=>∃ a xs,x=.ref a/\SqL K H1 a xs/\R (Itv K a xs.length) H1
theorem pj_rev (hc:X.calm=true) (hg:Gl X "reversed") (hm:X.mg "reversed"=none) (he:PE X e te) (hs:starEach [e] X.env=[(false,eval e X.env)]:=by rfl):PI X tg (.Call (.Name "reversed" p2) [e] [] pos2) (jRev X.K te):=by
 intro pins s σ H R I h
 refine Zef hc hg hm he hs I h fun a xs H1 s1 its I1 hx rv pl hz q=>?_
 have hlen:its.toArray.size=xs.length:=by rw [Yk];exact rv.length.symm
 have hit:(s1.heap.push (revObj a ((its.toArray.size:Int) - 1))).IsRevIter s1.heap.objs.size a ((its.toArray.size:Int) - 1):=⟨_,Yp _ rfl,rfl,rfl⟩
 refine YcT (s:={ s1 with heap:=s1.heap.push (revObj a ((its.toArray.size:Int) - 1)) }) hit ⟨_,[s1.heap.objs.size],_,_,H1,rfl,I1.kept (t':=s1.toks) fun b o z=>Yd _ z,turn_rev a s1.heap.objs.size xs.length,?_,fun b hb=>?_,q⟩
 ·show Heap.IsRevIter _ _ _ _
  rw [<- hlen,show ((its.toArray.size:Nat):Int) - 1 - ((0:Nat):Int)=(its.toArray.size:Int) - 1 from by lia]
  exact hit
 ·obtain rfl:b=s1.heap.objs.size:=by simpa using hb
  exact I1.fpOk (Yh _) I1.fresh
end
theorem ZfD {a n:Nat} (h:a<=n):sliceBounds (some (a:Int)) none none n=((a:Int),(n:Int),1):=by
 have h1:¬ ((a:Int) < 0):=by lia
 have h2:min (a:Int) (n:Int)=a:=by lia
 simp [sliceBounds,h1,h2]
theorem ZfA (its its2:List Value) (a:Nat) (n:Nat) (h:its.length<=n):its.toArray.extract 0 a++its2.toArray++its.toArray.extract n its.toArray.size=(its.take a++its2).toArray:=by
 apply Yav.mp
 simp
 lia
section
variable {prog:Program} {w:World} {A:Around} {E:Value->Shared->Prop} {s:Shared}
theorem Zfb {l b sl:Addr} {items new:Array Value} {n n2:Nat} {vl:Value} {a:Nat} {Q:Unit->Shared->Prop} (g1:s.heap.get? l=some { cls:=.type "list",data:=.seq items n }) (g2:s.heap.get? b=some { cls:=.type "list",data:=.seq new n2 }) (hne:l≠b)
  (hs:s.heap.IsSliceOf sl vl .none .none) (pl:IsPart vl (some (a:Int))) (ha:a<=items.size) (hz:items.size + new.size<=sizeLine)
  (h:Q () { s with heap:=s.heap.update l (Obj.mapSeq fun xs=>xs.extract 0 a++new++xs.extract items.size xs.size) }):wpAny (model prog w) A (setItem (.ref l) (.ref sl) (.ref b)) Q E s:=by
 have k1:s.heap.IsList l items:=YdE g1
 have k2:s.heap.IsList b new:=YdE g2
 obtain ⟨o,k3,k4,k5⟩:=id hs
 have ts:s.TypeIs (.ref sl) "slice":=⟨o,k3,k4⟩
 have st:¬ ((rawPart none == rawInt 0)=true):=by decide
 have df:Builtin.List.listSameRef (.ref l) (.ref b)=false:=Yar.mpr hne
 have mx:(max (a:Int) (items.size:Int)).toNat=items.size:=by lia
 have z2:((fun xs:Array Value=>xs.extract 0 a++new++xs.extract items.size xs.size) items).size<=sizeLine + 1:=by
  simp only [Ydt,Array.size_extract]
  lia
 unfold setItem
 try with_reducible refine YS ?_
 first | refine Yc (Yi ?_) | skip
 refine Yc (Yb9 k1.typeIs (by decide) (Yc (Y6 (name:=Str.ofString "__setitem__") k1.typeIs Ydu (Yau Ydu k1.typeIs entry_list_setitem ?_ (args_list_setitem _ _ _)))))
 refine (show wpAny _ _ (Builtin.List.listSubscript? (.ref sl) >>= _) _ _ s from Yc ?_)
 unfold Builtin.List.listSubscript?
 refine Yc (Ya5 ts slice_no_index ?_)
 simp only [Option.isNone_none,if_true]
 refine Yi (show wpAny _ _ (typeOf (.ref sl) >>= _) _ _ s from Yc (YaX ts ?_))
 first | rw [if_neg (by decide)] | refine Yb2 (by decide) ?_
 rw [listSliceParts_eq]
 refine Yc (Yc (YO k3 k5 (x:=.none) rfl (Yc (YcJ .none ?_))))
 rw [if_neg st]
 refine Yc (YO k3 k5 (x:=vl) rfl (Yc (YcJ pl (Yc (YO k3 k5 (x:=.none) rfl (Yc (YcJ .none (Yi ?_))))))))
 first
  | simp only [df,YZ,YaE]
  | refine Yb2 df ?_
 refine Yc (m:=Builtin.List.listAllItems (.ref b) "must assign iterable to extended slice") ?_
 unfold Builtin.List.listAllItems
 refine Yc (YaX k2.typeIs ?_)
 first
  | refine PySem.W.KFB.if_so (by decide) ?_
  | rw [if_pos (by decide)]
 unfold Builtin.List.listItems
 refine Yc (Y9 g2 rfl (Yi (Yc (Yc (Y9 g1 rfl (Yi ?_))))))
 refine Yc (Ydy ((sliceIndices_raw (some (a:Int)) none none items.size (by simp)).trans (congrArg (pure:Int × Int × Int->Sem (Int × Int × Int)) (ZfD ha))) ?_)
 refine (show wpAny _ _ (if ((1:Int) == 1)=true then _ else _) _ _ s from ?_)
 rw [if_pos (by decide)]
 refine Yc (Ybi ?_)
 first
  | simp only [Zb4 hz,YZ,YaE]
  | refine Yb2 (Zb4 hz) ?_
 first | refine Yc (Yi ?_) | skip
 refine (show wpAny _ _ (updateSeq l (fun xs=>xs.extract 0 ((a:Int)).toNat++new++xs.extract (max (a:Int) (items.size:Int)).toNat xs.size) >>= _) _ _ s from ?_)
 rw [mx,Int.toNat_natCast]
 refine Yc (Ya6 (hz:=YH (Ycf _ _) hz) (_hz':=z2) g1 rfl (Yc (YaJ ?_)))
 first
  | exact Yc (Yi (Yi ⟨.none,rfl,Yi h⟩))
  | exact Yi ⟨.none,rfl,Yi h⟩
end
noncomputable def gTail (to:TE) (tl:TO):TG:=fun v σ H Q=>to σ H fun x H1=>tl σ H1 fun l H2=>∃ (a b:Addr) (xs ys:List V) (i:Int),x=.ref a/\v=.ref b/\l=some i/\H2 a=some (.lst xs)/\H2 b=some (.lst ys)/\a≠b/\0<=i/\i<=xs.length/\xs.length + ys.length<=sizeLine /\
 Q σ (upd H2 a (.lst (xs.take i.toNat++ys)))
section
variable {X:Cx} {o:Expr} {lo:Option Expr} {to:TE} {tl:TO} {p2 pos:Pos}
theorem pg_tail (ho:PE X o to) (hl:PO X lo tl)
  (ha : ∀ v,assign (.Subscript o (.Slice lo none none p2) pos) X.env v=(do
   let ov <- holding [v] (eval o X.env)
   let iv <- holding [v,ov] (eval (.Slice lo none none p2) X.env)
   standAt pos
   holding [v,ov,iv] (setItem ov iv v)
   release [iv,v,ov] []):=by intro _;rfl):PG X (.Subscript o (.Slice lo none none p2) pos) (gTail to tl):=by
 intro pins s σ H v u Q I r h
 rw [ha]
 refine Yc (YS (thn (ho pins s σ H _ I h) fun ov s1 ⟨x,H1,I1,r1,q1⟩=>Yc (YS ?_)))
 refine wpAny_Slice (thn (hl pins s1 σ H1 _ I1 q1) fun vl s2 h_q=>?_)
 obtain ⟨l,H2,I2,pl,a,b,xs,ys,i,e1,e2,e3,h1,h2,hne,h0,hi,hz,q2⟩:=h_q
 subst e1 e2 e3
 cases r1
 cases r
 rw [evalPart_none]
 refine Yi ?_
 refine Yi ?_
 have I4:Inv X pins σ H2 { s2 with heap:=s2.heap.push { cls:=.type "slice",data:=.fields #[vl,.none,.none] } }:=I2.kept (t':=s2.toks) fun b ob q=>Yd _ q
 obtain ⟨i',rfl⟩:=YaZ h0
 obtain ⟨z,its,n,rv,hl1,g1⟩:=I4.lstM h1
 obtain ⟨z2,its2,n2,rv2,hl2,g2⟩:=I4.lstM h2
 refine Yc (Ya1 (Yc (YS (Zfb (a:=i') g1 g2 hne (Ydd ..) pl (by rw [Yk];lia) (by simp only [Yk];lia) (wpAny_release ⟨σ,_,?_,q2⟩)))))
 refine I4.lset (its':=its.take i'++its2) (t':=s2.toks) h1 g1 ?_ (Vals.append (rv.take _) rv2) ?_
 ·exact ZfA its its2 i' _ (by simp)
 ·simp only [Yj,YL,Int.toNat_natCast]
  lia
end
open PySem PySem.Spec PyProof.Rows PySem.MeetsSeq
open PySem.AutoSeq1 (wpAny_loadPart')
theorem Zir (t : Addr) (items:Array Value) (n:Nat) (dd:Option Addr) (sl:Array (Option Value)) (x:Value) (e:Value->Bool) (he:∀ y,y∈items->EqGives y x (e y)) (j:Nat) (hj:j < items.size) (hit:e items[j]=true) (hno:∀ m (hm:m < items.size),m < j->e items[m]=false) :
  Meets (Builtin.«tuple.index» ⟨[.ref t,x],[]⟩) (fun _ R s=>s.heap.get? t=some { cls:=.type "tuple",dict:=dd,data:=.seq items n,slots:=sl }/\R (.ok (.ret (.int j s.toks))) { s with toks:=s.toks + 1 }) :=
 .of_wp fun prog w A R s hq0=>by
  obtain ⟨g1,q⟩:=hq0
  obtain ⟨hp,ge,dr,tk,os⟩:=s
  wp_walk using YF g1
  refine (show wpAny (model prog w) A.in1 (forIn [:min items.size items.size] ((none,()):Option PySem.Fin × Unit) fun (i:Nat) r=>(match items[i]? with
      | some y=>do
       let b <- eqBool y x
       if b = true then do
         let v <- retInt (i:Int)
         pure (ForInStep.done (some v,()))
        else pure (ForInStep.yield (none,()))
      | _=>pure (ForInStep.yield (none,())))) _ _ _ from ?_)
  rw [Std.Legacy.Range.forIn_eq_forIn_range']
  refine Ycg _ (fun rest r s'=>r.1=none/\s'=⟨hp,ge,dr,tk,os⟩/\∃ i,i<=j/\rest=List.range' i (items.size - i)) _ ?_ ?_ _ _ ⟨rfl,rfl,0,YY _,by simp [Std.Legacy.Range.size]⟩
  ·rintro m rest r s' ⟨_,rfl,i,hi,hm⟩
   obtain ⟨k,hk⟩:∃ k,items.size - i=k + 1:=⟨items.size - i - 1,by lia⟩
   rw [hk,List.range'_succ] at hm
   obtain ⟨rfl,rfl⟩:=List.cons.inj hm
   have hlt:m < items.size:=by lia
   rw [Ybn hlt]
   refine Yc (he _ (Array.getElem_mem hlt) prog w _ _ _ _ ?_)
   by_cases hmj:m=j
   ·subst hmj
    rw [hit,if_pos rfl]
    unfold retInt
    exact Yc (Yc (wpAny_mkInt (Yi (Yi (Yi ⟨_,rfl,q⟩)))))
   ·rw [hno m hlt (by lia),if_neg (by decide)]
    exact Yi ⟨rfl,rfl,m + 1,by lia,by rw [show items.size - (m + 1)=k from by lia]⟩
  ·rintro r s' ⟨_,rfl,i,hi,hm⟩
   have:(List.range' i (items.size - i)).length=0:=by rw [<- hm];rfl
   rw [List.length_range'] at this
   lia
section
variable {X:Cx}
noncomputable def strB (z:Str):Value->Bool
 | .str s _=>s.cps.toList == z.cps.toList
 | _=>false
theorem Zda {ss:List Str} {its:List Value} (r:Vals (ss.map V.str) its) {i:Nat} {u:Value} (hu:its[i]? = some u):∃ s t,ss[i]? = some s/\u=.str s t:=by
 have hl:=r.length
 rw [Yb] at hl
 have hi:i < its.length:=(Yq.mp hu).1
 obtain ⟨v,hv,rv⟩:=r.get (i:=i) (x:=V.str (ss[i]'(by lia))) (by rw [Yl,Yg (by lia)];rfl)
 rw [hu] at hv
 cases hv
 obtain ⟨t,rfl⟩:=rv
 exact ⟨_,t,Yg (by lia),rfl⟩
theorem Zdm {ss:List Str} {its:List Value} (r:Vals (ss.map V.str) its) {z:Str} {t:Tok} {j:Nat} (hj:ss[j]? = some z) (hno:∀ m,m < j->ss[m]?≠some z) :
  (∀ y,y∈its.toArray->EqGives y (.str z t) (strB z y))/\∃ h:j < its.toArray.size,strB z (its.toArray[j])=true/\∀ m (hm:m < its.toArray.size),m < j->strB z (its.toArray[m])=false:=by
 have hl:=r.length
 rw [Yb] at hl
 refine ⟨fun y hy=>?_,?_⟩
 ·obtain ⟨i,hi⟩:=YaP.mp (show y∈its by simpa using hy)
  obtain ⟨s,u,_,rfl⟩:=Zda r hi
  exact SeqRoads2.EqGives.str s z u t
 ·have h0:j < ss.length:=(Yq.mp hj).1
  refine ⟨by rw [Yk];lia,?_,fun m hm h=>?_⟩
  ·obtain ⟨s,u,h1,h2⟩:=Zda r (i:=j) (u:=its[j]'(by lia)) (Yg (by lia))
   rw [hj] at h1
   cases h1
   show strB z (its[j]'(by lia))=true
   rw [h2]
   show (z.cps.toList == z.cps.toList)=true
   simp
  ·rw [Yk] at hm
   obtain ⟨s,u,h1,h2⟩:=Zda r (i:=m) (u:=its[m]) (Yg hm)
   show strB z its[m]=false
   rw [h2]
   show (s.cps.toList == z.cps.toList)=false
   refine Yar.mpr fun e=>hno m h ?_
   have:s=z:=by
    cases s;cases z
    simp only at e
    rw [Yav.mp e]
   rw [h1,this]
noncomputable def rIdxS (T:V->List Str->Hp->Prop):V->List V->Hp->VK->Prop:=fun x vs H Q=>∃ (ss:List Str) (z:Str) (j:Nat),T x ss H/\vs=[.str z]/\ss[j]? = some z/\(∀ m,m < j->ss[m]?≠some z)/\Q (.int j) H
theorem mt_idxL:MtR X "list.index" (rIdxS fun x ss H=>∃ a,x=.ref a/\H a=some (.lst (ss.map V.str))):=by
 intro pins s σ H x vs v us Q I rx rv h
 obtain ⟨ss,z,j,⟨a,rfl,hH⟩,rfl,hj,hno,q⟩:=h
 cases rx
 obtain ⟨u,rfl,ru⟩:=rv.one
 obtain ⟨t,rfl⟩:=ru
 obtain ⟨zz,its,n,r,hl,e⟩:=I.lstM hH
 obtain ⟨h1,h2,h3,h4⟩:=Zdm (t:=t) r hj hno
 have hj2:j < sizeLine:=by rw [Yk,<- hl] at h2;lia
 have big:(sizeLine:Int) < 2 ^ 63 - 1:=by decide
 exact YaW F.slot_list_index ⟨_,e,rfl⟩ F.entry_list_index (F.args_list_index_2 _ _) (MeetsSeq.list_index a its.toArray n (.str z t) (strB z) h1 j h2 (by lia) h3 h4) ⟨e,.int j,H,I.tok _,⟨_,rfl⟩,q⟩
theorem ZiF:MtR X "tuple.index" (rIdxS fun x ss H=>∃ a,x=.ref a/\SqT X.K H a (ss.map V.str)):=by
 intro pins s σ H x vs v us Q I rx rv h
 obtain ⟨ss,z,j,⟨a,rfl,hH⟩,rfl,hj,hno,q⟩:=h
 cases rx
 obtain ⟨u,rfl,ru⟩:=rv.one
 obtain ⟨t,rfl⟩:=ru
 obtain ⟨its,r,⟨⟨c,dd,dt,sl⟩,e,k1,n,k2⟩,hz⟩:=I.tuple hH
 simp only at k1 k2
 subst k1 k2
 obtain ⟨h1,h2,h3,h4⟩:=Zdm (t:=t) r hj hno
 exact YaW F.slot_tuple_index ⟨_,e,rfl⟩ F.entry_tuple_index (F.args_tuple_index_2 _ _) (Zir a its.toArray n dd sl (.str z t) (strB z) h1 j h2 h3 h4) ⟨e,.int j,H,I.tok _,⟨_,rfl⟩,q⟩
end
mutual
noncomputable def Wr.post:Wr->List Wr
 | .nothing=>[.nothing]
 | .bead c=>[.bead c]
 | .side b f=>f.post++[.side b f]
 | .pair f g=>f.post++(g.post++[.pair f g])
 | .many k ps=>Za7 ps++[.many k ps]
noncomputable def Za7:List Wr->List Wr
 | []=>[]
 | w::ws=>w.post++Za7 ws
end
theorem Wr.post_eq (w:Wr):w.post=Za7 w.parts++[w]:=by
 cases w <;> simp [Wr.post,Wr.parts,Za7]
theorem ZcC:∀ (ws us:List Wr),Za7 (ws++us)=Za7 ws++Za7 us
 | [],us=>rfl
 | w::ws,us=>by simp only [List.cons_append,Za7,ZcC ws us,YM]
mutual
theorem Wr.post_len:∀ w:Wr,w.post.length=w.tups
 | .nothing=>rfl
 | .bead _=>rfl
 | .side b f=>by simp [Wr.post,Wr.tups,f.post_len];lia
 | .pair f g=>by simp [Wr.post,Wr.tups,f.post_len,g.post_len];lia
 | .many k ps=>by simp [Wr.post,Wr.tups,Zc2 ps];lia
theorem Zc2:∀ ws:List Wr,(Za7 ws).length=tupsL ws
 | []=>rfl
 | w::ws=>by simp [Za7,tupsL,w.post_len,Zc2 ws]
end
noncomputable def Run:List Wr->List Wr->List Wr->Prop
 | S,[],F=>S=F
 | S,x::l,F=>∃ S0,S=S0++x.parts/\Run (S0++[x]) l F
mutual
theorem Wr.run:∀ (w:Wr) (S l F:List Wr),Run (S++[w]) l F->Run S (w.post++l) F
 | .nothing,S,l,F,h=>⟨S,by simp [Wr.parts],h⟩
 | .bead c,S,l,F,h=>⟨S,by simp [Wr.parts],h⟩
 | .side b f,S,l,F,h=>by
  simp only [Wr.post,YM]
  exact f.run S _ F ⟨S,by simp [Wr.parts],h⟩
 | .pair f g,S,l,F,h=>by
  simp only [Wr.post,YM]
  refine f.run S _ F (g.run (S++[f]) _ F ⟨S,by simp [Wr.parts],h⟩)
 | .many k ps,S,l,F,h=>by
  simp only [Wr.post,YM]
  exact runL ps S _ F ⟨S,by simp [Wr.parts],h⟩
theorem runL:∀ (ws S l F:List Wr),Run (S++ws) l F->Run S (Za7 ws++l) F
 | [],S,l,F,h=>by simpa [Za7] using h
 | w :: ws,S,l,F,h=>by
  simp only [Za7,YM]
  refine w.run S _ F (runL ws (S++[w]) l F ?_)
  simpa using h
end
theorem Wr.run_all (w:Wr):Run [] w.post [w]:=by
 have:=w.run [] [] [w] rfl
 simpa using this
mutual
theorem Wr.post_mem:∀ (w y:Wr),y∈w.post->w.ok=true->y.ok=true/\y.tups<=w.tups
 | .nothing,y,h,o=>by simp [Wr.post] at h;subst h;exact ⟨o,Yh _⟩
 | .bead c,y,h,o=>by simp [Wr.post] at h;subst h;exact ⟨o,Yh _⟩
 | .side b f,y,h,o=>by
  simp only [Wr.post,Yaa,YJ] at h
  rcases h with h | rfl
  ·have:=f.post_mem y h (by simpa [Wr.ok] using o)
   exact ⟨this.1,by simp only [Wr.tups];lia⟩
  ·exact ⟨o,Yh _⟩
 | .pair f g,y,h,o=>by
  have o2:f.ok=true/\g.ok=true:=by simpa [Wr.ok] using o
  simp only [Wr.post,Yaa,YJ] at h
  rcases h with h | h | rfl
  ·have:=f.post_mem y h o2.1
   exact ⟨this.1,by simp only [Wr.tups];lia⟩
  ·have:=g.post_mem y h o2.2
   exact ⟨this.1,by simp only [Wr.tups];lia⟩
  ·exact ⟨o,Yh _⟩
 | .many k ps,y,h,o=>by
  simp only [Wr.post,Yaa,YJ] at h
  rcases h with h | rfl
  ·have:=Ze6 ps y h (by simpa [Wr.ok] using o)
   exact ⟨this.1,by simp only [Wr.tups];lia⟩
  ·exact ⟨o,Yh _⟩
theorem Ze6:∀ (ws:List Wr) (y:Wr),y∈Za7 ws->okL ws=true->y.ok=true/\y.tups<=tupsL ws
 | [],y,h,o=>by simp [Za7] at h
 | w :: ws,y,h,o=>by
  have o2:w.ok=true/\okL ws=true:=by simpa [okL] using o
  simp only [Za7,Yaa] at h
  rcases h with h | h
  ·have:=w.post_mem y h o2.1
   exact ⟨this.1,by simp only [tupsL];lia⟩
  ·have:=Ze6 ws y h o2.2
   exact ⟨this.1,by simp only [tupsL];lia⟩
end
theorem Wr.nb (w:Wr) (h:∀ c,w≠.bead c):¬ (decide (w.name=Str.ofString "bead")=true):=by
 cases w with
 | bead c=>exact absurd rfl (h c)
 | nothing=>exact ZgH
 | side b f=>exact nb_side b
 | pair f g=>exact nb_pair
 | many k ps=>exact Zii k
mutual
noncomputable def Wr.size:Wr->Nat
 | .nothing=>0
 | .bead _=>1
 | .side _ f=>f.size
 | .pair f g=>f.size + (g.size + 0)
 | .many _ ps=>Zbd ps
noncomputable def Zbd:List Wr->Nat
 | []=>0
 | w::ws=>w.size + Zbd ws
end
theorem Wr.size_parts (w:Wr) (h:∀ c,w≠.bead c):w.size=Zbd w.parts:=by
 cases w with
 | bead c=>exact absurd rfl (h c)
 | nothing=>rfl
 | side b f=>simp [Wr.size,Wr.parts,Zbd]
 | pair f g=>simp [Wr.size,Wr.parts,Zbd]
 | many k ps=>rfl
theorem bead_or (w:Wr):(∃ c,w=.bead c)\/∀ c,w≠.bead c:=by
 cases w with
 | bead c=>exact .inl ⟨c,rfl⟩
 | _=>exact .inr fun c=>by simp
noncomputable def Wr.kidx:Wr->Nat
 | .nothing=>0
 | .bead _=>1
 | .side b _=>if b then 3 else 2
 | .pair _ _=>4
 | .many k _=>match k with | 0=>5 | 1=>6 | 2=>7 | _=>8
noncomputable def ZdT:List Str:=["nothing","bead","left","right","pair","row","bag","choice","ring"]
theorem Wr.kidx_at (w:Wr):ZdT[w.kidx]? = some w.name/\∀ m,m < w.kidx->ZdT[m]?≠some w.name:=by
 have fin:∀ (i:Nat) (s:Str),ZdT[i]? = some s->(∀ m,m < 9->m < i->ZdT[m]?≠some s)->i < 9->ZdT[i]? = some s/\∀ m,m < i->ZdT[m]?≠some s:=fun i s h1 h2 h3=>⟨h1,fun m hm=>h2 m (by lia) hm⟩
 cases w with
 | nothing=>exact fin 0 "nothing" (by decide +kernel) (by decide +kernel) (by decide)
 | bead c=>exact fin 1 "bead" (by decide +kernel) (by decide +kernel) (by decide)
 | side b f =>
  cases b
  ·exact fin 2 "left" (by decide +kernel) (by decide +kernel) (by decide)
  ·exact fin 3 "right" (by decide +kernel) (by decide +kernel) (by decide)
 | pair f g=>exact fin 4 "pair" (by decide +kernel) (by decide +kernel) (by decide)
 | many k ps =>
  match k with
  | 0=>exact fin 5 "row" (by decide +kernel) (by decide +kernel) (by decide)
  | 1=>exact fin 6 "bag" (by decide +kernel) (by decide +kernel) (by decide)
  | 2=>exact fin 7 "choice" (by decide +kernel) (by decide +kernel) (by decide)
  | k + 3=>exact fin 8 "ring" (by decide +kernel) (by decide +kernel) (by decide)
mutual
noncomputable def Wr.keyD:Wr->PyData
 | .nothing=>.tuple [.int 0,.int 0]
 | .bead c=>.tuple [.int 1,.int 1,.str c]
 | .side b f=>.tuple [.int f.size,.int (Wr.side b f).kidx,f.keyD]
 | .pair f g=>.tuple [.int (Wr.pair f g).size,.int 4,f.keyD,g.keyD]
 | .many k ps=>.tuple (.int (Zbd ps)::.int (Wr.many k ps).kidx::ZaO ps)
noncomputable def ZaO:List Wr->List PyData
 | []=>[]
 | w::ws=>w.keyD::ZaO ws
end
theorem Zbq:∀ ws:List Wr,ZaO ws=ws.map Wr.keyD
 | []=>rfl
 | w::ws=>by rw [ZaO,YE,Zbq ws]
theorem Wr.keyD_parts (w:Wr) (h:∀ c,w≠.bead c):w.keyD=.tuple (.int w.size::.int w.kidx::w.parts.map Wr.keyD):=by
 cases w with
 | bead c=>exact absurd rfl (h c)
 | nothing=>rfl
 | side b f=>rfl
 | pair f g=>rfl
 | many k ps=>simp only [Wr.keyD,Wr.parts,Zbq];rfl
theorem ZfS {K:YFr} {a:Addr} {oc:Value} {od:Option Addr} {is:Array Value} {sn:Nat} {sl:Array (Option Value)} (o:K.lookup a=some ⟨oc,od,.seq is sn,sl⟩) (t:(oc == .type "tuple")=true/\(od == none)=true):∀ H,tyV K "tuple" (.ref a) H :=
 fun H=>.inr (.inl ⟨rfl,_,o,Ycr t.1,Ycr t.2⟩)
theorem Wr.keyD_head (w:Wr):∃ rest,w.keyD=.tuple (.int w.size::rest):=by
 rcases bead_or w with ⟨c,rfl⟩ | h
 ·exact ⟨_,rfl⟩
 ·exact ⟨_,w.keyD_parts h⟩
inductive U where
 | non | bl (b:Bool) | int (i:Int) | str (x:Str) | ty (n:String) | tup (xs:List U) | rol (xs:List U) | ref (a:Addr)
noncomputable def SqR (K:YFr) (H:Hp) (a:Addr) (xs:List V):Prop:=(∃ o,H a=some (.frz o (.lst xs))) \/
  ∃ (o:Obj) (its:Array Value) (n:Nat),K.lookup a=some o/\o.cls=.type "list"/\o.dict=none/\o.data=.seq its n/\its.size<=sizeLine/\Vals xs its.toList
theorem SqR.sq {K:YFr} {H:Hp} {a:Addr} {xs:List V} (h:SqR K H a xs):SqL K H a xs:=by
 rcases h with h | h
 ·exact .inl (.inr h)
 ·exact .inr h
structure Kp (K:YFr) (H H':Hp):Prop where
 t : Zd1 K H H'
 r : ∀ a xs,SqR K H a xs->SqR K H' a xs
 f : ∀ a o u,H a=some (.frz o u)->H' a=some (.frz o u)
theorem Kp.refl {K:YFr} (H:Hp):Kp K H H:=⟨fun _ _ h=>h,fun _ _ h=>h,fun _ _ _ h=>h⟩
theorem Kp.trans {K:YFr} {H H1 H2:Hp} (h:Kp K H H1) (k:Kp K H1 H2):Kp K H H2:=⟨h.t.trans k.t,fun a xs q=>k.r a xs (h.r a xs q),fun a o u q=>k.f a o u (h.f a o u q)⟩
theorem Same.kp {K:YFr} {H H':Hp} (e:Same H H'):Kp K H H':=⟨e.tups,fun a xs q=>by
 rcases q with ⟨o,q⟩ | q
 ·exact .inl ⟨o,e _ _ q⟩
 ·exact .inr q,fun a o u q=>e _ _ q⟩
theorem Kp.lst {K:YFr} {H:Hp} {l:Addr} {ys zs:List V} (h:H l=some (.lst ys)):Kp K H (upd H l (.lst zs)):=⟨Zd1.lst h,fun a xs q=>by
 rcases q with ⟨o,q⟩ | q
 ·exact .inl ⟨o,by rw [Zs (Zct q h (by intro z;cases z))];exact q⟩
 ·exact .inr q,fun a o u q=>by rw [Zs (Zct q h (by intro z;cases z))];exact q⟩
mutual
inductive RU (K:YFr) (H:Hp):U->V->Prop
 | non:RU K H .non .non
 | bl (b:Bool):RU K H (.bl b) (.bl b)
 | int (i:Int):RU K H (.int i) (.int i)
 | str (x:Str):RU K H (.str x) (.str x)
 | ty (n:String):RU K H (.ty n) (.ty n)
 | ref (a:Addr):RU K H (.ref a) (.ref a)
 | tup {a:Addr} {vs:List V} {us:List U}:SqT K H a vs->RUs K H us vs->RU K H (.tup us) (.ref a)
 | rol {a:Addr} {vs:List V} {us:List U}:SqR K H a vs->RUs K H us vs->RU K H (.rol us) (.ref a)
inductive RUs (K:YFr) (H:Hp):List U->List V->Prop
 | nil:RUs K H [] []
 | cons {u:U} {v:V} {us:List U} {vs:List V}:RU K H u v->RUs K H us vs->RUs K H (u::us) (v::vs)
end
section
variable {K:YFr} {H H':Hp}
mutual
theorem RU.same (e:Kp K H H'):∀ {u:U} {v:V},RU K H u v->RU K H' u v
 | _,_,.non=>.non
 | _,_,.bl b=>.bl b
 | _,_,.int i=>.int i
 | _,_,.str x=>.str x
 | _,_,.ty n=>.ty n
 | _,_,.ref a=>.ref a
 | _,_,.tup h r=>.tup (e.t _ _ h) (RUs.same e r)
 | _,_,.rol h r=>.rol (e.r _ _ h) (RUs.same e r)
theorem RUs.same (e:Kp K H H'):∀ {us:List U} {vs:List V},RUs K H us vs->RUs K H' us vs
 | _,_,.nil=>.nil
 | _,_,.cons h r=>.cons (RU.same e h) (RUs.same e r)
end
theorem RUs.length:∀ {us:List U} {vs:List V},RUs K H us vs->us.length=vs.length
 | _,_,.nil=>rfl
 | _,_,.cons _ r=>by rw [List.length_cons,List.length_cons,r.length]
theorem RUs.app:∀ {us ws:List U} {vs xs:List V},RUs K H us vs->RUs K H ws xs->RUs K H (us++ws) (vs++xs)
 | _,_,_,_,.nil,s=>s
 | _,_,_,_,.cons h r,s=>.cons h (RUs.app r s)
theorem RUs.one {u:U} {v:V} (h:RU K H u v):RUs K H [u] [v]:=.cons h .nil
theorem RUs.get:∀ {us:List U} {vs:List V} {i:Nat} {v:V},RUs K H us vs->vs[i]? = some v->∃ u,us[i]? = some u/\RU K H u v
 | _,_,_,_,.nil,e=>by simp at e
 | _,_,0,_,.cons h _,e=>by simp at e;subst e;exact ⟨_,rfl,h⟩
 | _,_,i + 1,_,.cons _ r,e=>by simp at e;simpa using RUs.get r e
theorem RUs.get':∀ {us:List U} {vs:List V} {i:Nat} {u:U},RUs K H us vs->us[i]? = some u->∃ v,vs[i]? = some v/\RU K H u v
 | _,_,_,_,.nil,e=>by simp at e
 | _,_,0,_,.cons h _,e=>by simp at e;subst e;exact ⟨_,rfl,h⟩
 | _,_,i + 1,_,.cons _ r,e=>by simp at e;simpa using RUs.get' r e
theorem RUs.take:∀ {us:List U} {vs:List V} (n:Nat),RUs K H us vs->RUs K H (us.take n) (vs.take n)
 | _,_,0,_=>.nil
 | _,_,_ + 1,.nil=>.nil
 | _,_,n + 1,.cons r t=>.cons r (RUs.take n t)
theorem RUs.drop:∀ {us:List U} {vs:List V} (n:Nat),RUs K H us vs->RUs K H (us.drop n) (vs.drop n)
 | _,_,0,r=>r
 | _,_,_ + 1,.nil=>.nil
 | _,_,n + 1,.cons _ t=>RUs.drop n t
theorem RUs.rev {us:List U} {vs:List V} (h:RUs K H us vs):RUs K H us.reverse vs.reverse:=by
 induction us generalizing vs with
 | nil=>cases h;exact .nil
 | cons w ws ih =>
  cases h with
  | cons h r=>rw [Yad,Yad];exact (ih r).app (.one h)
theorem RUs.dropLast {us:List U} {vs:List V} (h:RUs K H us vs):RUs K H us.dropLast vs.dropLast:=by
 rw [YcK,YcK,h.length];exact h.take _
theorem RUs.ints:∀ {ns:List Int} {vs:List V},RUs K H (ns.map U.int) vs->vs=ns.map V.int
 | [],_,.nil=>rfl
 | n::ns,_,.cons h r=>by cases h;rw [YE,RUs.ints r]
theorem RUs.bls:∀ {ns:List Bool} {vs:List V},RUs K H (ns.map U.bl) vs->vs=ns.map V.bl
 | [],_,.nil=>rfl
 | n::ns,_,.cons h r=>by cases h;rw [YE,RUs.bls r]
theorem RUs.strs:∀ {ns:List Str} {vs:List V},RUs K H (ns.map U.str) vs->vs=ns.map V.str
 | [],_,.nil=>rfl
 | n::ns,_,.cons h r=>by cases h;rw [YE,RUs.strs r]
theorem RUs.of_strs:∀ {ns:List Str},RUs K H (ns.map U.str) (ns.map V.str)
 | []=>.nil
 | n::ns=>.cons (.str n) RUs.of_strs
theorem RUs.of_ints:∀ {ns:List Int},RUs K H (ns.map U.int) (ns.map V.int)
 | []=>.nil
 | n::ns=>.cons (.int n) RUs.of_ints
end
inductive AO where
 | lst (us:List U) | ins (C dx:Addr) (fs:List (Str × U)) | oth (φ:YFr->Hp->Addr->Prop)
noncomputable abbrev AHp:=Addr->Option AO
noncomputable def updA (A:AHp) (a:Addr) (o:AO):AHp:=fun b=>if b=a then some o else A b
theorem Zd {A:AHp} {a:Addr} {o:AO}:updA A a o a=some o:=by unfold updA;rw [if_pos rfl]
theorem Zk {A:AHp} {a b:Addr} {o:AO} (h:b≠a):updA A a o b=A b:=by unfold updA;rw [if_neg h]
theorem Zan {A:AHp} {a:Addr} {o u:AO}:updA (updA A a o) a u=updA A a u:=by funext b;unfold updA;split <;> rfl
noncomputable def RFs (K:YFr) (H:Hp) (fs:List (Str × U)) (gs:List (Str × V)):Prop:=fs.map (·.1)=gs.map (·.1)/\RUs K H (fs.map (·.2)) (gs.map (·.2))
noncomputable def RO (K:YFr) (H:Hp) (a:Addr):AO->Prop
 | .lst us=>∃ vs,H a=some (.lst vs)/\RUs K H us vs
 | .ins C dx fs=>∃ gs,H a=some (.ins C dx gs)/\RFs K H fs gs
 | .oth φ=>(∃ o,H a=some o)/\φ K H a/\∀ H1 H2,φ K H1 a->Kp K H1 H2->H2 a=H1 a->φ K H2 a
noncomputable def HR (K:YFr) (H:Hp) (A:AHp):Prop:=∀ a o,A a=some o->RO K H a o
section
variable {K:YFr} {H H':Hp} {A:AHp} {a:Addr}
theorem RO.keep {b:Addr} {o:AO} (t:Kp K H H') (e:H' b=H b) (h:RO K H b o):RO K H' b o:=by
 cases o with
 | lst us=>obtain ⟨vs,h1,h2⟩:=h;exact ⟨vs,by rw [e];exact h1,h2.same t⟩
 | ins C dx fs=>obtain ⟨gs,h1,h2,h3⟩:=h;exact ⟨gs,by rw [e];exact h1,h2,h3.same t⟩
 | oth φ=>obtain ⟨h0,h1,h2⟩:=h;exact ⟨by rw [e];exact h0,h2 _ _ h1 t e,h2⟩
theorem HR.grow (t:Same H H') (h:HR K H A):HR K H' A:=fun a o e=>by
 have q:=h a o e
 cases o with
 | lst us=>obtain ⟨vs,h1,h2⟩:=q;exact ⟨vs,t _ _ h1,h2.same t.kp⟩
 | ins C dx fs=>obtain ⟨gs,h1,h2,h3⟩:=q;exact ⟨gs,t _ _ h1,h2,h3.same t.kp⟩
 | oth φ=>obtain ⟨⟨o,h0⟩,h1,h2⟩:=q;exact ⟨⟨o,t _ _ h0⟩,h2 _ _ h1 t.kp (by rw [h0];exact t _ _ h0),h2⟩
theorem HR.none (h:HR K H A) (e:H a=none):A a=none:=by
 cases q:A a with
 | none=>rfl
 | some o =>
  have:=h a o q
  cases o with
  | lst us=>obtain ⟨vs,h1,_⟩:=this;rw [e] at h1;cases h1
  | ins C dx fs=>obtain ⟨vs,h1,_⟩:=this;rw [e] at h1;cases h1
  | oth φ=>obtain ⟨⟨_,h1⟩,_⟩:=this;rw [e] at h1;cases h1
theorem HR.newL {us:List U} {vs:List V} (h:HR K H A) (e:H a=Option.none) (r:RUs K H us vs):HR K (upd H a (.lst vs)) (updA A a (.lst us)):=fun b o q=>by
 have s:=Same.upd_new (o:=.lst vs) e
 by_cases hb:b=a
 ·subst hb
  rw [Zd] at q
  cases q
  exact ⟨vs,Z3,r.same s.kp⟩
 ·rw [Zk hb] at q
  exact (h b o q).keep s.kp (Zs hb)
theorem HR.setL {us:List U} {vs xs:List V} (h:HR K H A) (e:H a=some (.lst xs)) (r:RUs K H us vs):HR K (upd H a (.lst vs)) (updA A a (.lst us)):=fun b o q=>by
 have s:Kp K H (upd H a (.lst vs)):=Kp.lst e
 by_cases hb:b=a
 ·subst hb
  rw [Zd] at q
  cases q
  exact ⟨vs,Z3,r.same s⟩
 ·rw [Zk hb] at q
  exact (h b o q).keep s (Zs hb)
theorem HR.list {us:List U} (h:HR K H A) (e:A a=some (.lst us)):∃ vs,H a=some (.lst vs)/\RUs K H us vs:=h a _ e
end
noncomputable abbrev ASt:=List (Option U)
inductive RSt (K:YFr) (H:Hp):ASt->St->Prop
 | nil:RSt K H [] []
 | skip {x:Option V} {ρ:ASt} {σ:St}:RSt K H ρ σ->RSt K H (none::ρ) (x::σ)
 | cons {u:U} {v:V} {ρ:ASt} {σ:St}:RU K H u v->RSt K H ρ σ->RSt K H (some u::ρ) (some v::σ)
section
variable {K:YFr} {H H':Hp}
theorem RSt.same (e:Kp K H H'):∀ {ρ:ASt} {σ:St},RSt K H ρ σ->RSt K H' ρ σ
 | _,_,.nil=>.nil
 | _,_,.skip r=>.skip (RSt.same e r)
 | _,_,.cons h r=>.cons (h.same e) (RSt.same e r)
noncomputable def aGetN:Nat->ASt->(U->Prop)->Prop
 | 0, ρ,k=>match ρ with
  | some u::_=>k u
  | _=>False
 | i + 1,ρ,k=>match ρ with
  | _::ρ=>aGetN i ρ k
  | []=>False
noncomputable def aGet (ρ:ASt) (i:Nat) (k:U->Prop):Prop:=aGetN i ρ k
theorem RSt.get:∀ {ρ:ASt} {σ:St} {i:Nat} {k:U->Prop},RSt K H ρ σ->aGet ρ i k->∃ u v,σ[i]? = some (some v)/\RU K H u v/\k u
 | _,_,0,_,.nil,h=>h.elim
 | _,_,_ + 1,_,.nil,h=>h.elim
 | _,_,0,_,.skip _,h=>h.elim
 | _,_,i + 1,_,.skip r,h=>by simpa using RSt.get r h
 | _,_,0,_,.cons q _,h=>⟨_,_,rfl,q,h⟩
 | _,_,i + 1,_,.cons _ r,h=>by simpa using RSt.get r h
theorem RSt.set {u:U} {v:V} (q:RU K H u v):∀ {ρ:ASt} {σ:St} (i:Nat),RSt K H ρ σ->RSt K H (ρ.set i (some u)) (σ.set i (some v))
 | _,_,_,.nil=>.nil
 | _,_,0,.skip r=>.cons q r
 | _,_,i + 1,.skip r=>.skip (RSt.set q i r)
 | _,_,0,.cons _ r=>.cons q r
 | _,_,i + 1,.cons h r=>.cons h (RSt.set q i r)
end
noncomputable abbrev AVK:=U->AHp->Prop
noncomputable abbrev AE:=ASt->AHp->AVK->Prop
noncomputable abbrev AT:=ASt->AHp->(Bool->AHp->Prop)->Prop
noncomputable abbrev AA:=ASt->AHp->(List U->AHp->Prop)->Prop
noncomputable abbrev AP1:=ASt->AHp->(Option Int->AHp->Prop)->Prop
structure ZbS where
 nx:ASt->AHp->Prop
 rt:AVK
 bk:ASt->AHp->Prop:=fun _ _=>False
 ct:ASt->AHp->Prop:=fun _ _=>False
noncomputable abbrev AS:=ZbS->ASt->AHp->Prop
noncomputable abbrev Aft (K:YFr) (H:Hp) (Q':AVK) (Q:VK):Prop:=∀ u A' v H',Kp K H H'->HR K H' A'->RU K H' u v->Q' u A'->Q v H'
noncomputable def AbE (K:YFr) (te:TE) (ae:AE):Prop:=∀ ρ A σ H Q' Q,RSt K H ρ σ->HR K H A->ae ρ A Q'->Aft K H Q' Q->te σ H Q
noncomputable def AbT (K:YFr) (te:TT) (ae:AT):Prop:=∀ ρ A σ H (Q':Bool->AHp->Prop) (Q:Bool->Hp->Prop),RSt K H ρ σ->HR K H A->ae ρ A Q'->(∀ b A' H',Kp K H H'->HR K H' A'->Q' b A'->Q b H')->te σ H Q
noncomputable def AbA (K:YFr) (te:TA) (ae:AA):Prop:=∀ ρ A σ H (Q':List U->AHp->Prop) (Q:List V->Hp->Prop),RSt K H ρ σ->HR K H A->ae ρ A Q'->(∀ us A' vs H',Kp K H H'->HR K H' A'->RUs K H' us vs->Q' us A'->Q vs H')->te σ H Q
noncomputable def AbP (K:YFr) (te:TO) (ae:AP1):Prop:=∀ ρ A σ H (Q':Option Int->AHp->Prop) (Q:Option Int->Hp->Prop),RSt K H ρ σ->HR K H A->ae ρ A Q'->(∀ b A' H',Kp K H H'->HR K H' A'->Q' b A'->Q b H')->te σ H Q
structure AftS (K:YFr) (H:Hp) (D':ZbS) (D:Ends):Prop where
 nx:∀ ρ A σ H',Kp K H H'->HR K H' A->RSt K H' ρ σ->D'.nx ρ A->D.nx σ H'
 rt:Aft K H D'.rt D.rt
 bk:∀ ρ A σ H',Kp K H H'->HR K H' A->RSt K H' ρ σ->D'.bk ρ A->D.bk σ H'
 ct:∀ ρ A σ H',Kp K H H'->HR K H' A->RSt K H' ρ σ->D'.ct ρ A->D.ct σ H'
theorem AftS.same {K:YFr} {H H1:Hp} {D':ZbS} {D:Ends} (h:AftS K H D' D) (k:Kp K H H1):AftS K H1 D' D :=
 ⟨fun ρ A σ H' q=>h.nx ρ A σ H' (k.trans q),fun u A v H' q=>h.rt u A v H' (k.trans q),fun ρ A σ H' q=>h.bk ρ A σ H' (k.trans q),fun ρ A σ H' q=>h.ct ρ A σ H' (k.trans q)⟩
noncomputable def AbS (K:YFr) (ts:TS) (as:AS):Prop:=∀ ρ A σ H D' D,RSt K H ρ σ->HR K H A->as D' ρ A->AftS K H D' D->ts D σ H
section
variable {K:YFr}
noncomputable def aVar (i:Nat):AE:=fun ρ A Q=>aGet ρ i fun u=>Q u A
theorem Zc {i:Nat}:AbE K (tVar i) (aVar i):=fun ρ A σ H Q' Q hr hh h k=>by
 obtain ⟨u,v,e,r,q⟩:=hr.get h
 exact ⟨v,e,k u A v H (.refl H) hh r q⟩
noncomputable def aC (u:U):AE:=fun _ A Q=>Q u A
theorem ab_c {u:U} {v:V} (h:∀ H,RU K H u v):AbE K (tC v) (aC u):=fun ρ A σ H Q' Q hr hh q k=>k u A v H (.refl H) hh (h H) q
theorem Zi {i:Int}:AbE K (tC (.int i)) (aC (.int i)):=ab_c fun _=>.int i
theorem Z1 {i:Str}:AbE K (tC (.str i)) (aC (.str i)):=ab_c fun _=>.str i
theorem ZgJ {i:Bool}:AbE K (tC (.bl i)) (aC (.bl i)):=ab_c fun _=>.bl i
theorem ZcG:AbE K (tC .non) (aC .non):=ab_c fun _=>.non
theorem Zjv {n:String}:AbE K (tC (.ty n)) (aC (.ty n)):=ab_c fun _=>.ty n
theorem ab_ref {a:Addr}:AbE K (tC (.ref a)) (aC (.ref a)):=ab_c fun _=>.ref a
noncomputable abbrev AR2:=U->U->AHp->AVK->Prop
noncomputable def AbR (K:YFr) (r:R2) (ar:AR2):Prop:=∀ x y u w A H Q' Q,RU K H u x->RU K H w y->HR K H A->ar u w A Q'->Aft K H Q' Q->r x y H Q
noncomputable def aOp (ar:AR2) (a b:AE):AE:=fun ρ A Q=>a ρ A fun x A1=>b ρ A1 fun y A2=>ar x y A2 Q
theorem Zl {r:R2} {ar:AR2} {ta tb:TE} {aa ab:AE} (hr:AbR K r ar) (ha:AbE K ta aa) (hb:AbE K tb ab):AbE K (tOp r ta tb) (aOp ar aa ab):=fun ρ A σ H Q' Q hs hh h k =>
 ha ρ A σ H _ _ hs hh h fun x A1 v H1 k1 h1 r1 q1=>hb ρ A1 σ H1 _ _ (hs.same k1) h1 q1 fun y A2 v2 H2 k2 h2 r2 q2=>hr _ _ _ _ _ _ _ _ (r1.same k2) r2 h2 q2 fun z A3 v3 H3 k3 h3 r3 q3=>k _ _ _ _ (k1.trans (k2.trans k3)) h3 r3 q3
noncomputable def AbU (K:YFr) (r:V->Hp->VK->Prop) (ar:U->AHp->AVK->Prop):Prop:=∀ x u A H Q' Q,RU K H u x->HR K H A->ar u A Q'->Aft K H Q' Q->r x H Q
noncomputable def aUn (ar:U->AHp->AVK->Prop) (a:AE):AE:=fun ρ A Q=>a ρ A fun x A1=>ar x A1 Q
theorem ab_un {r:V->Hp->VK->Prop} {ar:U->AHp->AVK->Prop} {ta:TE} {aa:AE} (hr:AbU K r ar) (ha:AbE K ta aa):AbE K (tUn r ta) (aUn ar aa):=fun ρ A σ H Q' Q hs hh h k =>
 ha ρ A σ H _ _ hs hh h fun x A1 v H1 k1 h1 r1 q1=>hr _ _ _ _ _ _ r1 h1 q1 fun z A3 v3 H3 k3 h3 r3 q3=>k _ _ _ _ (k1.trans k3) h3 r3 q3
noncomputable def aB (a:AE):AT:=fun ρ A Q=>a ρ A fun x A1=>∃ c,x=.bl c/\Q c A1
theorem ZdN {ta:TE} {aa:AE} (ha:AbE K ta aa):AbT K (tB ta) (aB aa):=fun ρ A σ H Q' Q hs hh h k =>
 ha ρ A σ H _ _ hs hh h fun x A1 v H1 k1 h1 r1 hq0=>by obtain ⟨c,e,q1⟩:=hq0;subst e;cases r1;exact ⟨c,rfl,k c A1 H1 k1 h1 q1⟩
theorem Zo {ta:TE} {aa:AE} (ha:AbE K ta aa):AbT K (tTest ta) (aB aa):=ZdN ha
noncomputable def aAnd (t u:AT):AT:=fun ρ A Q=>t ρ A fun c A1=>if c=true then u ρ A1 Q else Q false A1
noncomputable def aOr (t u:AT):AT:=fun ρ A Q=>t ρ A fun c A1=>if c=true then Q true A1 else u ρ A1 Q
noncomputable def aNot (t:AT):AT:=fun ρ A Q=>t ρ A fun c A1=>Q (!c) A1
theorem Zcq {t u:TT} {a b:AT} (ha:AbT K t a) (hb:AbT K u b):AbT K (tAnd t u) (aAnd a b):=fun ρ A σ H Q' Q hs hh h k =>
 ha ρ A σ H _ _ hs hh h fun c A1 H1 k1 h1 q1=>by
  cases c
  ·exact iteN (by decide) (k _ _ _ k1 h1 (by simpa using q1))
  ·exact iteP rfl (hb ρ A1 σ H1 _ _ (hs.same k1) h1 (by simpa using q1) fun c A2 H2 k2 h2 q2=>k _ _ _ (k1.trans k2) h2 q2)
theorem Ze5 {t u:TT} {a b:AT} (ha:AbT K t a) (hb:AbT K u b):AbT K (tOr t u) (aOr a b):=fun ρ A σ H Q' Q hs hh h k =>
 ha ρ A σ H _ _ hs hh h fun c A1 H1 k1 h1 q1=>by
  cases c
  ·exact iteN (by decide) (hb ρ A1 σ H1 _ _ (hs.same k1) h1 (by simpa using q1) fun c A2 H2 k2 h2 q2=>k _ _ _ (k1.trans k2) h2 q2)
  ·exact iteP rfl (k _ _ _ k1 h1 (by simpa using q1))
theorem Zco {t:TT} {a:AT} (ha:AbT K t a):AbT K (tNot t) (aNot a):=fun ρ A σ H Q' Q hs hh h k=>ha ρ A σ H _ _ hs hh h fun c A1 H1 k1 h1 q1=>k _ _ _ k1 h1 q1
noncomputable def aAndV (a b:AE):AE:=fun ρ A Q=>a ρ A fun x A1=>∃ c,x=.bl c/\if c=true then b ρ A1 Q else Q (.bl false) A1
noncomputable def aNotV (a:AE):AE:=fun ρ A Q=>a ρ A fun x A1=>∃ c,x=.bl c/\Q (.bl (!c)) A1
theorem Zho {t u:TE} {a b:AE} (ha:AbE K t a) (hb:AbE K u b):AbE K (tAndV t u) (aAndV a b):=fun ρ A σ H Q' Q hs hh h k =>
 ha ρ A σ H _ _ hs hh h fun x A1 v H1 k1 h1 r1 hq0=>by
  obtain ⟨c,e,q1⟩:=hq0
  subst e;cases r1
  refine ⟨c,rfl,?_⟩
  cases c
  ·exact iteN (by decide) (k _ _ _ _ k1 h1 (.bl _) (by simpa using q1))
  ·exact iteP rfl (hb ρ A1 σ H1 _ _ (hs.same k1) h1 (by simpa using q1) fun z A2 v2 H2 k2 h2 r2 q2=>k _ _ _ _ (k1.trans k2) h2 r2 q2)
theorem ab_notv {t:TE} {a:AE} (ha:AbE K t a):AbE K (tNotV t) (aNotV a):=fun ρ A σ H Q' Q hs hh h k =>
 ha ρ A σ H _ _ hs hh h fun x A1 v H1 k1 h1 r1 hq0=>by obtain ⟨c,e,q1⟩:=hq0;subst e;cases r1;exact ⟨c,rfl,k _ _ _ _ k1 h1 (.bl _) q1⟩
noncomputable def aIf (t:AT) (a b:AE):AE:=fun ρ A Q=>t ρ A fun c A1=>if c=true then a ρ A1 Q else b ρ A1 Q
theorem ab_if {t:TT} {ta tb:TE} {c:AT} {a b:AE} (hc:AbT K t c) (ha:AbE K ta a) (hb:AbE K tb b):AbE K (tIf t ta tb) (aIf c a b):=fun ρ A σ H Q' Q hs hh h k =>
 hc ρ A σ H _ _ hs hh h fun c A1 H1 k1 h1 q1=>by
  cases c
  ·exact iteN (by decide) (hb ρ A1 σ H1 _ _ (hs.same k1) h1 (by simpa using q1) fun z A2 v2 H2 k2 h2 r2 q2=>k _ _ _ _ (k1.trans k2) h2 r2 q2)
  ·exact iteP rfl (ha ρ A1 σ H1 _ _ (hs.same k1) h1 (by simpa using q1) fun z A2 v2 H2 k2 h2 r2 q2=>k _ _ _ _ (k1.trans k2) h2 r2 q2)
noncomputable def aChain (r r':AR2) (a b c:AE):AE:=fun ρ A Q=>a ρ A fun x A1=>b ρ A1 fun y A2=>r x y A2 fun z A3=>∃ k,z=.bl k/\(if k=true then c ρ A3 fun w A4=>r' y w A4 Q else Q (.bl false) A3)
theorem Zgm {r r':R2} {s s':AR2} {ta tb tc:TE} {a b c:AE} (h1:AbR K r s) (h2:AbR K r' s') (ha:AbE K ta a) (hb:AbE K tb b) (hc:AbE K tc c):AbE K (tChain r r' ta tb tc) (aChain s s' a b c):=fun ρ A σ H Q' Q hs hh h k =>
 ha ρ A σ H _ _ hs hh h fun x A1 v H1 k1 g1 r1 q1=>hb ρ A1 σ H1 _ _ (hs.same k1) g1 q1 fun y A2 v2 H2 k2 g2 r2 q2=>h1 _ _ _ _ _ _ _ _ (r1.same k2) r2 g2 q2 fun z A3 v3 H3 k3 g3 r3 hq0=>by
  obtain ⟨b,e,q3⟩:=hq0
  subst e;cases r3
  refine ⟨b,rfl,?_⟩
  cases b
  ·exact iteN (by decide) (k _ _ _ _ (k1.trans (k2.trans k3)) g3 (.bl _) (by simpa using q3))
  ·exact iteP rfl (hc ρ A3 σ H3 _ _ (hs.same (k1.trans (k2.trans k3))) g3 (by simpa using q3) fun w A4 v4 H4 k4 g4 r4 q4=>h2 _ _ _ _ _ _ _ _ (r2.same (k3.trans k4)) r4 g4 q4 fun z A5 v5 H5 k5 g5 r5 q5=>k _ _ _ _ (k1.trans (k2.trans (k3.trans (k4.trans k5)))) g5 r5 q5)
noncomputable def Zcr:AT:=fun _ A Q=>Q true A
theorem Z7:AbT K tTrue Zcr:=fun ρ A σ H Q' Q hs hh h k=>k _ _ _ (.refl H) hh h
noncomputable def aNil:AA:=fun _ A Q=>Q [] A
theorem Zf:AbA K tNil aNil:=fun ρ A σ H Q' Q hs hh h k=>k _ _ _ _ (.refl H) hh .nil h
noncomputable def ZfM (a:AE) (l:AA):AA:=fun ρ A Q=>a ρ A fun x A1=>l ρ A1 fun xs A2=>Q (x::xs) A2
theorem Zb {ta:TE} {tl:TA} {a:AE} {l:AA} (ha:AbE K ta a) (hl:AbA K tl l):AbA K (Zcc ta tl) (ZfM a l):=fun ρ A σ H Q' Q hs hh h k =>
 ha ρ A σ H _ _ hs hh h fun x A1 v H1 k1 g1 r1 q1=>hl ρ A1 σ H1 _ _ (hs.same k1) g1 q1 fun xs A2 vs H2 k2 g2 r2 q2=>k _ _ _ _ (k1.trans k2) g2 (.cons (r1.same k2) r2) q2
noncomputable def aConst (us:List U):AA:=fun _ A L=>L us A
theorem Za4 {xs:List Str}:AbA K (tConst (xs.map V.str)) (aConst (xs.map U.str)):=fun ρ A σ H Q' Q hs hh h k=>k _ _ _ _ (.refl H) hh RUs.of_strs h
noncomputable def aTup (l:AA):AE:=fun ρ A Q=>l ρ A fun xs A1=>xs.length<=sizeLine/\Q (.tup xs) A1
theorem ZC {tl:TA} {l:AA} (hl:AbA K tl l):AbE K (tTup tl) (aTup l):=fun ρ A σ H Q' Q hs hh h k =>
 hl ρ A σ H _ _ hs hh h fun xs A1 vs H1 k1 g1 r1 ⟨hz,q1⟩=>⟨by rw [<- r1.length];exact hz,fun p hp=>by
  have s:=Same.upd_new (o:=.tup vs) hp
  exact k _ _ _ _ (k1.trans s.kp) (g1.grow s) (.tup (SqT.of Z3) (r1.same s.kp)) q1⟩
noncomputable def aLst (l:AA):AE:=fun ρ A Q=>l ρ A fun xs A1=>xs.length<=sizeLine/\∀ p,A1 p=none->Q (.ref p) (updA A1 p (.lst xs))
theorem ZaI {tl:TA} {l:AA} (hl:AbA K tl l):AbE K (tLst tl) (aLst l):=fun ρ A σ H Q' Q hs hh h k =>
 hl ρ A σ H _ _ hs hh h fun xs A1 vs H1 k1 g1 r1 ⟨hz,q1⟩=>⟨by rw [<- r1.length];exact hz,fun p hp=>k _ _ _ _ (k1.trans (Same.upd_new hp).kp) (g1.newL hp r1) (.ref p) (q1 p (g1.none hp))⟩
noncomputable def AbL (K:YFr) (r:List V->Hp->VK->Prop) (ar:List U->AHp->AVK->Prop):Prop:=∀ xs us A H Q' Q,RUs K H us xs->HR K H A->ar us A Q'->Aft K H Q' Q->r xs H Q
noncomputable def aCB (ar:List U->AHp->AVK->Prop) (l:AA):AE:=fun ρ A Q=>l ρ A fun us A1=>ar us A1 Q
theorem Zah {r:List V->Hp->VK->Prop} {ar:List U->AHp->AVK->Prop} {tl:TA} {l:AA} (hr:AbL K r ar) (hl:AbA K tl l):AbE K (tCB r tl) (aCB ar l):=fun ρ A σ H Q' Q hs hh h k =>
 hl ρ A σ H _ _ hs hh h fun xs A1 vs H1 k1 g1 r1 q1=>hr _ _ _ _ _ _ r1 g1 q1 fun z A3 v3 H3 k3 h3 r3 q3=>k _ _ _ _ (k1.trans k3) h3 r3 q3
noncomputable abbrev ASp:=List U->AHp->AVK->Prop
noncomputable def spOf (K:YFr) (asp:ASp):Sp:=fun vs H Q _=>∃ us A Q',RUs K H us vs/\HR K H A/\asp us A Q'/\Aft K H Q' Q
noncomputable def ZgR (asp:ASp) (l:AA):AE:=fun ρ A Q=>l ρ A fun us A1=>asp us A1 Q
theorem Zr {asp:ASp} {E:XK} {tl:TA} {l:AA} (hl:AbA K tl l):AbE K (tCall (spOf K asp) [] E tl) (ZgR asp l):=fun ρ A σ H Q' Q hs hh h k =>
 hl ρ A σ H _ _ hs hh h fun us A1 vs H1 k1 g1 r1 q1=>⟨us,A1,Q',by rw [Y4];exact r1,g1,q1,fun z A3 v3 H3 k3 h3 r3 q3=>k _ _ _ _ (k1.trans k3) h3 r3 q3⟩
noncomputable def aCallV (f:Addr) (asp:ASp) (a:AE) (l:AA):AE:=fun ρ A Q=>a ρ A fun y A0=>y=.ref f/\l ρ A0 fun us A1=>asp us A1 Q
theorem ZfV {asp:ASp} {E:XK} {f:Addr} {tf:TE} {af:AE} {tl:TA} {l:AA} (hf:AbE K tf af) (hl:AbA K tl l):AbE K (tCallV f (spOf K asp) [] E tf tl) (aCallV f asp af l):=fun ρ A σ H Q' Q hs hh h k =>
 hf ρ A σ H _ _ hs hh h fun x A0 v H0 k0 g0 r0 hq0=>by
  obtain ⟨e,q0⟩:=hq0
  subst e;cases r0
  exact ⟨rfl,hl ρ A0 σ H0 _ _ (hs.same k0) g0 q0 fun us A1 vs H1 k1 g1 r1 q1=>⟨us,A1,Q',by rw [Y4];exact r1,g1,q1,fun z A3 v3 H3 k3 h3 r3 q3=>k _ _ _ _ (k0.trans (k1.trans k3)) h3 r3 q3⟩⟩
noncomputable def Zd7:AP1:=fun _ A Q=>Q none A
theorem Zx:AbP K Zic Zd7:=fun ρ A σ H Q' Q hs hh h k=>k _ _ _ (.refl H) hh h
noncomputable def aPart (a:AE):AP1:=fun ρ A Q=>a ρ A fun x A1=>∃ i,x=.int i/\Q (some i) A1
theorem ZL {t:TE} {a:AE} (ha:AbE K t a):AbP K (tPart t) (aPart a):=fun ρ A σ H Q' Q hs hh h k =>
 ha ρ A σ H _ _ hs hh h fun x A1 v H1 k1 h1 r1 hq0=>by obtain ⟨i,e,q1⟩:=hq0;subst e;cases r1;exact ⟨i,rfl,k _ _ _ k1 h1 q1⟩
noncomputable def AbSl (K:YFr) (r:V->Option Int->Option Int->Hp->VK->Prop) (ar:U->Option Int->Option Int->AHp->AVK->Prop):Prop:=∀ x u lo hi A H Q' Q,RU K H u x->HR K H A->ar u lo hi A Q'->Aft K H Q' Q->r x lo hi H Q
noncomputable def aSl (ar:U->Option Int->Option Int->AHp->AVK->Prop) (a:AE) (l h:AP1):AE:=fun ρ A Q=>a ρ A fun x A1=>l ρ A1 fun i A2=>h ρ A2 fun j A3=>ar x i j A3 Q
theorem ZaG {r:V->Option Int->Option Int->Hp->VK->Prop} {ar:U->Option Int->Option Int->AHp->AVK->Prop} {t:TE} {tl th:TO} {a:AE} {l h:AP1} (hr:AbSl K r ar) (ha:AbE K t a) (hl:AbP K tl l) (hh:AbP K th h):AbE K (tSl r t tl th) (aSl ar a l h):=fun ρ A σ H Q' Q hs g w k =>
 ha ρ A σ H _ _ hs g w fun x A1 v H1 k1 g1 r1 q1=>hl ρ A1 σ H1 _ _ (hs.same k1) g1 q1 fun i A2 H2 k2 g2 q2=>hh ρ A2 σ H2 _ _ (hs.same (k1.trans k2)) g2 q2 fun j A3 H3 k3 g3 q3 =>
  hr _ _ _ _ _ _ _ _ (r1.same (k2.trans k3)) g3 q3 fun z A4 v4 H4 k4 g4 r4 q4=>k _ _ _ _ (k1.trans (k2.trans (k3.trans k4))) g4 r4 q4
noncomputable def AbY (K:YFr) (T:String) (y:U->AHp->Prop):Prop:=∀ x u A H,RU K H u x->HR K H A->y u A->tyV K T x H
noncomputable def aBM0 (y:U->AHp->Prop) (ar:U->List U->AHp->AVK->Prop) (a:AE):AE:=fun ρ A Q=>a ρ A fun x A1=>y x A1/\ar x [] A1 Q
noncomputable def aBM (y:U->AHp->Prop) (ar:U->List U->AHp->AVK->Prop) (a:AE) (l:AA):AE:=fun ρ A Q=>a ρ A fun x A1=>y x A1/\l ρ A1 fun us A2=>ar x us A2 Q
noncomputable def AbMt (K:YFr) (r:V->List V->Hp->VK->Prop) (ar:U->List U->AHp->AVK->Prop):Prop:=∀ x u xs us A H Q' Q,RU K H u x->RUs K H us xs->HR K H A->ar u us A Q'->Aft K H Q' Q->r x xs H Q
theorem Zdx {T:String} {r:V->List V->Hp->VK->Prop} {y:U->AHp->Prop} {ar:U->List U->AHp->AVK->Prop} {t:TE} {a:AE} (hy:AbY K T y) (hr:AbMt K r ar) (ha:AbE K t a):AbE K (tBM0 K T r t) (aBM0 y ar a):=fun ρ A σ H Q' Q hs g w k =>
 ha ρ A σ H _ _ hs g w fun x A1 v H1 k1 g1 r1 ⟨q0,q1⟩=>⟨hy _ _ _ _ r1 g1 q0,hr _ _ _ _ _ _ _ _ r1 .nil g1 q1 fun z A4 v4 H4 k4 g4 r4 q4=>k _ _ _ _ (k1.trans k4) g4 r4 q4⟩
theorem ZbR {T:String} {r:V->List V->Hp->VK->Prop} {y:U->AHp->Prop} {ar:U->List U->AHp->AVK->Prop} {t:TE} {a:AE} {tl:TA} {l:AA} (hy:AbY K T y) (hr:AbMt K r ar) (ha:AbE K t a) (hl:AbA K tl l):AbE K (tBM K T r t tl) (aBM y ar a l):=fun ρ A σ H Q' Q hs g w k =>
 ha ρ A σ H _ _ hs g w fun x A1 v H1 k1 g1 r1 ⟨q0,q1⟩=>⟨hy _ _ _ _ r1 g1 q0,hl ρ A1 σ H1 _ _ (hs.same k1) g1 q1 fun us A2 vs H2 k2 g2 r2 q2=>hr _ _ _ _ _ _ _ _ (r1.same k2) r2 g2 q2 fun z A4 v4 H4 k4 g4 r4 q4=>k _ _ _ _ (k1.trans (k2.trans k4)) g4 r4 q4⟩
noncomputable def aNext:AS:=fun D ρ A=>D.nx ρ A
theorem Zz:AbS K tNext aNext:=fun ρ A σ H D' D hs g w k=>k.nx _ _ _ _ (.refl H) g hs w
noncomputable def aSeq (t u:AS):AS:=fun D ρ A=>t { D with nx:=u D } ρ A
theorem Zn {t u:TS} {a b:AS} (ha:AbS K t a) (hb:AbS K u b):AbS K (tSeq t u) (aSeq a b):=fun ρ A σ H D' D hs g w k =>
 ha ρ A σ H _ _ hs g w ⟨fun ρ1 A1 σ1 H1 k1 g1 r1 q1=>hb ρ1 A1 σ1 H1 _ _ r1 g1 q1 (k.same k1),k.rt,k.bk,k.ct⟩
noncomputable def aDrop (a:AE):AS:=fun D ρ A=>a ρ A fun _ A1=>D.nx ρ A1
theorem Za3 {t:TE} {a:AE} (ha:AbE K t a):AbS K (tDrop t) (aDrop a):=fun ρ A σ H D' D hs g w k=>ha ρ A σ H _ _ hs g w fun x A1 v H1 k1 g1 r1 q1=>k.nx _ _ _ _ k1 g1 (hs.same k1) q1
noncomputable def aRet (a:AE):AS:=fun D ρ A=>a ρ A D.rt
theorem Zu {t:TE} {a:AE} (ha:AbE K t a):AbS K (tRet t) (aRet a):=fun ρ A σ H D' D hs g w k=>ha ρ A σ H _ _ hs g w k.rt
noncomputable def aIfS (c:AT) (t u:AS):AS:=fun D ρ A=>c ρ A fun b A1=>if b=true then t D ρ A1 else u D ρ A1
theorem ZO {c:TT} {t u:TS} {ac:AT} {a b:AS} (hc:AbT K c ac) (ha:AbS K t a) (hb:AbS K u b):AbS K (tIfS c t u) (aIfS ac a b):=fun ρ A σ H D' D hs g w k =>
 hc ρ A σ H _ _ hs g w fun c A1 H1 k1 g1 q1=>by
  cases c
  ·exact iteN (by decide) (hb ρ A1 σ H1 _ _ (hs.same k1) g1 (by simpa using q1) (k.same k1))
  ·exact iteP rfl (ha ρ A1 σ H1 _ _ (hs.same k1) g1 (by simpa using q1) (k.same k1))
noncomputable abbrev AG:=U->ASt->AHp->(ASt->AHp->Prop)->Prop
noncomputable abbrev AGs:=List U->ASt->AHp->(ASt->AHp->Prop)->Prop
noncomputable abbrev AftG (K:YFr) (H:Hp) (Q':ASt->AHp->Prop) (Q:St->Hp->Prop):Prop:=∀ ρ A σ H',Kp K H H'->HR K H' A->RSt K H' ρ σ->Q' ρ A->Q σ H'
noncomputable def AbG (K:YFr) (t:TG) (a:AG):Prop:=∀ u v ρ A σ H Q' Q,RU K H u v->RSt K H ρ σ->HR K H A->a u ρ A Q'->AftG K H Q' Q->t v σ H Q
noncomputable def AbGs (K:YFr) (t:TGs) (a:AGs):Prop:=∀ u v ρ A σ H Q' Q,RUs K H u v->RSt K H ρ σ->HR K H A->a u ρ A Q'->AftG K H Q' Q->t v σ H Q
noncomputable def Zb2 (i:Nat):AG:=fun u ρ A Q=>Q (ρ.set i (some u)) A
theorem Zj {i:Nat}:AbG K (ZgC i) (Zb2 i):=fun u v ρ A σ H Q' Q r hs g w k=>k _ _ _ _ (.refl H) g (hs.set r i) w
noncomputable def bNil:AGs:=fun us ρ A Q=>us=[]/\Q ρ A
theorem Zba:AbGs K gNil bNil:=fun u v ρ A σ H Q' Q r hs g hq0 k=>by obtain ⟨e,w⟩:=hq0;subst e;cases r;exact ⟨rfl,k _ _ _ _ (.refl H) g hs w⟩
noncomputable def bCons (t:AG) (u:AGs):AGs:=fun us ρ A Q=>∃ v r,us=v::r/\t v ρ A fun ρ' A'=>u r ρ' A' Q
theorem ZU {t:TG} {u:TGs} {a:AG} {b:AGs} (ha:AbG K t a) (hb:AbGs K u b):AbGs K (gCons t u) (bCons a b):=fun us vs ρ A σ H Q' Q r hs g hq0 k=>by
 obtain ⟨x,xs,e,w⟩:=hq0
 subst e
 cases r with
 | cons r rr=>exact ⟨_,_,rfl,ha _ _ _ _ _ _ _ _ r hs g w fun ρ1 A1 σ1 H1 k1 g1 s1 q1=>hb _ _ _ _ _ _ _ _ (rr.same k1) s1 g1 q1 fun ρ2 A2 σ2 H2 k2 g2 s2 q2=>k _ _ _ _ (k1.trans k2) g2 s2 q2⟩
noncomputable def bTup (n:Nat) (t:AGs):AG:=fun u ρ A Q=>∃ us,u=.tup us/\us.length=n/\t us ρ A Q
theorem Za6 {n:Nat} {t:TGs} {a:AGs} (ha:AbGs K t a):AbG K (gTup K n t) (bTup n a):=fun u v ρ A σ H Q' Q r hs g hq0 k=>by
 obtain ⟨us,e,hn,w⟩:=hq0
 subst e
 cases r with
 | tup h rr=>exact ⟨_,_,rfl,h,by rw [<- rr.length];exact hn,ha _ _ _ _ _ _ _ _ rr hs g w k⟩
noncomputable def aAsg (a:AE) (b:AG):AS:=fun D ρ A=>a ρ A fun x A1=>b x ρ A1 D.nx
theorem Zw {t:TE} {a:AE} {tg:TG} {b:AG} (ha:AbE K t a) (hb:AbG K tg b):AbS K (tAsg t tg) (aAsg a b):=fun ρ A σ H D' D hs g w k =>
 ha ρ A σ H _ _ hs g w fun x A1 v H1 k1 g1 r1 q1=>hb _ _ _ _ _ _ _ _ r1 (hs.same k1) g1 q1 fun ρ2 A2 σ2 H2 k2 g2 s2 q2=>k.nx _ _ _ _ (k1.trans k2) g2 s2 q2
noncomputable def aPar (i j:Nat) (l:AA):AS:=fun D ρ A=>l ρ A fun us A1=>∃ v w,us=[v,w]/\D.nx ((ρ.set i (some v)).set j (some w)) A1
noncomputable def aAug (i:Nat) (a:AE) (ar:AR2):AS:=fun D ρ A=>aGet ρ i fun x=>a ρ A fun y A1=>ar x y A1 fun z A2=>D.nx (ρ.set i (some z)) A2
theorem ab_aug {i:Nat} {t:TE} {a:AE} {ti:TIp} {ar:AR2} (ha:AbE K t a) (hr:AbR K ti ar):AbS K (tAug i t ti) (aAug i a ar):=fun ρ A σ H D' D hs g w k=>by
 obtain ⟨x,v,e,r,q⟩:=hs.get w
 exact ⟨v,e,ha ρ A σ H _ _ hs g q fun y A1 v1 H1 k1 g1 r1 q1=>hr _ _ _ _ _ _ _ _ (r.same k1) r1 g1 q1 fun z A2 v2 H2 k2 g2 r2 q2=>k.nx _ _ _ _ (k1.trans k2) g2 ((hs.same (k1.trans k2)).set r2 i) q2⟩
noncomputable def Zi4 (c:AT) (b:AS):AS:=fun D ρ A=>∃ W:Nat->ASt->AHp->Prop,(∃ m,W m ρ A)/\∀ m ρ A,W m ρ A ->
 c ρ A fun k A1=>if k=true then ∃ N:ASt->AHp->Prop,(∀ ρ' A',N ρ' A'->∃ m',m' < m/\W m' ρ' A')/\b { D with nx:=N,ct:=N,bk:=D.nx } ρ A1 else D.nx ρ A1
theorem Zcy {c:TT} {t:TS} {ac:AT} {a:AS} (hc:AbT K c ac) (ha:AbS K t a):AbS K (tWhile c t) (Zi4 ac a):=fun ρ A σ H D' D hs g hq0 k=>by
 obtain ⟨W,⟨m0,w0⟩,turn⟩:=hq0
 refine ⟨fun m σ1 H1=>∃ ρ1 A1,Kp K H H1/\HR K H1 A1/\RSt K H1 ρ1 σ1/\W m ρ1 A1,⟨m0,ρ,A,.refl H,g,hs,w0⟩,?_⟩
 rintro m σ1 H1 ⟨ρ1,A1,k1,g1,s1,w1⟩
 refine hc ρ1 A1 σ1 H1 _ _ s1 g1 (turn m ρ1 A1 w1) fun b A2 H2 k2 g2 q2=>?_
 cases b
 ·exact iteN (by decide) (k.nx _ _ _ _ (k1.trans k2) g2 (s1.same k2) (by simpa using q2))
 ·refine iteP rfl ?_
  obtain ⟨N,hN,q2⟩:=(by simpa using q2:∃ N:ASt->AHp->Prop,(∀ ρ' A',N ρ' A'->∃ m',m' < m/\W m' ρ' A')/\a { D' with nx:=N,ct:=N,bk:=D'.nx } ρ1 A2)
  refine ⟨fun σ' H'=>∃ ρ' A',Kp K H H'/\HR K H' A'/\RSt K H' ρ' σ'/\N ρ' A',?_,?_⟩
  ·rintro σ' H' ⟨ρ',A',k',g',s',n'⟩
   obtain ⟨m',hm,w'⟩:=hN ρ' A' n'
   exact ⟨m',hm,ρ',A',k',g',s',w'⟩
  ·have k12:=k1.trans k2
   exact ha ρ1 A2 σ1 H2 _ _ (s1.same k2) g2 q2 ⟨fun ρ A σ H' k3 g3 s3 n3=>⟨ρ,A,k12.trans k3,g3,s3,n3⟩,(k.same k12).rt,fun ρ A σ H' k3 g3 s3 n3=>k.nx _ _ _ _ (k12.trans k3) g3 s3 n3,fun ρ A σ H' k3 g3 s3 n3=>⟨ρ,A,k12.trans k3,g3,s3,n3⟩⟩
end
noncomputable abbrev AIt:=Nat->AHp->Option U->Prop
noncomputable def AbJ (K:YFr) (H0:Hp) (J:It) (aj:AIt):Prop:=∀ i A H r,Kp K H0 H->HR K H A->aj i A r->match r with
 | none=>J.stop i H
 | some u=>J.go i H/\∀ x H',J.yld i H x H'->Kp K H H'/\HR K H' A/\RU K H' u x
noncomputable abbrev AI:=ASt->AHp->(AIt->AHp->Prop)->Prop
noncomputable def AbI (K:YFr) (wi:TI) (ai:AI):Prop:=∀ ρ A σ H R' R,RSt K H ρ σ->HR K H A->ai ρ A R'->(∀ aj A' J H',Kp K H H'->HR K H' A'->AbJ K H' J aj->R' aj A'->R J H')->wi σ H R
noncomputable def Ze9 (J:AIt) (g:AG) (b:AS) (D:ZbS) (ρ:ASt) (A:AHp):Prop:=∃ W:Nat->Nat->ASt->AHp->Prop,(∃ m,W 0 m ρ A)/\∀ i m ρ A,W i m ρ A ->
 (J i A none/\D.nx ρ A)\/∃ u,J i A (some u)/\∃ N:ASt->AHp->Prop,(∀ ρ' A',N ρ' A'->∃ m',m' < m/\W (i + 1) m' ρ' A')/\g u ρ A fun ρ2 A2=>b { D with nx:=N,ct:=N,bk:=D.nx } ρ2 A2
noncomputable def aFor (wi:AI) (g:AG) (b:AS):AS:=fun D ρ A=>wi ρ A fun J A1=>Ze9 J g b D ρ A1
section
variable {K:YFr}
theorem ZcX {wi:TI} {g:TG} {t:TS} {ai:AI} {ag:AG} {a:AS} (hi:AbI K wi ai) (hg:AbG K g ag) (ha:AbS K t a):AbS K (tFor wi g t) (aFor ai ag a):=fun ρ A σ H D' D hs g0 w k=>by
 refine hi ρ A σ H _ _ hs g0 w fun aj A1 J H1 k1 g1 hj q=>?_
 obtain ⟨W,⟨m0,w0⟩,turn⟩:=q
 refine ⟨fun i m σ2 H2=>∃ ρ2 A2,Kp K H1 H2/\HR K H2 A2/\RSt K H2 ρ2 σ2/\W i m ρ2 A2,⟨m0,ρ,A1,.refl H1,g1,hs.same k1,w0⟩,?_⟩
 rintro i m σ2 H2 ⟨ρ2,A2,k2,g2,s2,w2⟩
 have k12:=k1.trans k2
 rcases turn i m ρ2 A2 w2 with ⟨hstop,q⟩ | ⟨u,hgo,N,hN,q⟩
 ·exact .inl ⟨hj i A2 H2 _ k2 g2 hstop,k.nx _ _ _ _ k12 g2 s2 q⟩
 ·obtain ⟨j1,j2⟩:=hj i A2 H2 _ k2 g2 hgo
  refine .inr ⟨j1,fun σ' H'=>∃ ρ' A',Kp K H1 H'/\HR K H' A'/\RSt K H' ρ' σ'/\N ρ' A',?_,fun x H3 hy=>?_⟩
  ·rintro σ' H' ⟨ρ',A',k',g',s',n'⟩
   obtain ⟨m',hm,w'⟩:=hN ρ' A' n'
   exact ⟨m',hm,ρ',A',k',g',s',w'⟩
  ·obtain ⟨k3,g3,r3⟩:=j2 x H3 hy
   refine hg _ _ _ _ _ _ _ _ r3 (s2.same k3) g3 q fun ρ4 A4 σ4 H4 k4 g4 s4 q4=>?_
   have k24:=k2.trans (k3.trans k4)
   exact ha ρ4 A4 σ4 H4 _ _ s4 g4 q4 ⟨fun ρ5 A5 σ5 H5 k5 g5 s5 n5=>⟨ρ5,A5,k24.trans k5,g5,s5,n5⟩,(k.same (k1.trans k24)).rt,fun ρ5 A5 σ5 H5 k5 g5 s5 n5=>k.nx _ _ _ _ ((k1.trans k24).trans k5) g5 s5 n5,fun ρ5 A5 σ5 H5 k5 g5 s5 n5=>⟨ρ5,A5,k24.trans k5,g5,s5,n5⟩⟩
noncomputable def jFix (us:List U):AIt:=fun i _ r=>r=us[i]?
noncomputable def jLst (a:Addr):AIt:=fun i A r=>∃ us,A a=some (.lst us)/\r=us[i]?
noncomputable def aJof (y:U->AHp->(AIt->AHp->Prop)->Prop) (a:AE):AI:=fun ρ A R=>a ρ A fun x A1=>y x A1 R
noncomputable def AbY1 (K:YFr) (u:V->Hp->(It->Hp->Prop)->Prop) (y:U->AHp->(AIt->AHp->Prop)->Prop):Prop:=∀ x v A H R' R,RU K H x v->HR K H A->y x A R'->(∀ aj A' J H',Kp K H H'->HR K H' A'->AbJ K H' J aj->R' aj A'->R J H')->u v H R
theorem ZaD {u:V->Hp->(It->Hp->Prop)->Prop} {y:U->AHp->(AIt->AHp->Prop)->Prop} {t:TE} {a:AE} (hy:AbY1 K u y) (ha:AbE K t a):AbI K (jOf u t) (aJof y a):=fun ρ A σ H R' R hs g w k =>
 ha ρ A σ H _ _ hs g w fun x A1 v H1 k1 g1 r1 q1=>hy _ _ _ _ _ _ r1 g1 q1 fun aj A2 J H2 k2 g2 hj q2=>k _ _ _ _ (k1.trans k2) g2 hj q2
theorem itl_fix {H:Hp} {a:Addr} {us:List U} {vs:List V} (h:SqR K H a vs) (r:RUs K H us vs):AbJ K H (Itl K a) (jFix us):=fun i A H1 x k g e=>by
 have e:x=us[i]?:=e
 have h1:=(k.r _ _ h).sq
 have r1:=r.same k
 subst e
 cases hu:us[i]? with
 | none=>exact ⟨vs,h1,by rw [<- r1.length];exact Y7.mp hu⟩
 | some u =>
  obtain ⟨v,hv,rv⟩:=r1.get' hu
  refine ⟨⟨vs,v,h1,hv⟩,?_⟩
  rintro x H' ⟨rfl,hx⟩
  have:=hx vs h1
  rw [hv] at this;cases this
  exact ⟨.refl _,g,rv⟩
theorem itl_lst {H:Hp} {a:Addr}:AbJ K H (Itl K a) (jLst a):=fun i A H1 x k g hq0=>by
 obtain ⟨us,hA,e⟩:=hq0
 subst e
 obtain ⟨vs,h1,r1⟩:=g.list hA
 have h1:SqL K H1 a vs:=SqL.of h1
 cases hu:us[i]? with
 | none=>exact ⟨vs,h1,by rw [<- r1.length];exact Y7.mp hu⟩
 | some u =>
  obtain ⟨v,hv,rv⟩:=r1.get' hu
  refine ⟨⟨vs,v,h1,hv⟩,?_⟩
  rintro x H' ⟨rfl,hx⟩
  have:=hx vs h1
  rw [hv] at this;cases this
  exact ⟨.refl _,g,rv⟩
theorem itt_fix {H:Hp} {a:Addr} {us:List U} {vs:List V} (h:SqT K H a vs) (r:RUs K H us vs):AbJ K H (Itt K a) (jFix us):=fun i A H1 x k g e=>by
 have e:x=us[i]?:=e
 have h1:=k.t _ _ h
 have r1:=r.same k
 subst e
 cases hu:us[i]? with
 | none=>exact ⟨vs,h1,by rw [<- r1.length];exact Y7.mp hu⟩
 | some u =>
  obtain ⟨v,hv,rv⟩:=r1.get' hu
  refine ⟨⟨vs,v,h1,hv⟩,?_⟩
  rintro x H' ⟨rfl,hx⟩
  have:=hx vs h1
  rw [hv] at this;cases this
  exact ⟨.refl _,g,rv⟩
noncomputable def yList:U->AHp->(AIt->AHp->Prop)->Prop:=fun u A R=>match u with
 | .ref a=>(∃ us,A a=some (.lst us))/\R (jLst a) A
 | .rol us=>R (jFix us) A
 | _=>False
theorem Zgj:AbY1 K (uList K) yList:=fun x v A H R' R r g w k=>by
 cases r with
 | ref a =>
  obtain ⟨⟨us,hA⟩,w⟩:=w
  obtain ⟨vs,h1,r1⟩:=g.list hA
  exact ⟨⟨vs,SqL.of h1⟩,k _ _ _ _ (.refl H) g itl_lst w⟩
 | rol h1 r1=>exact ⟨⟨_,h1.sq⟩,k _ _ _ _ (.refl H) g (itl_fix h1 r1) w⟩
 | _=>exact w.elim
noncomputable def yTup:U->AHp->(AIt->AHp->Prop)->Prop:=fun u A R=>match u with
 | .tup us=>R (jFix us) A
 | _=>False
theorem ab_ytup:AbY1 K (uTupI K) yTup:=fun x v A H R' R r g w k=>by
 cases r with
 | tup h1 r1=>exact ⟨⟨_,h1⟩,k _ _ _ _ (.refl H) g (itt_fix h1 r1) w⟩
 | _=>exact w.elim
noncomputable def rngU (lo:Int) (n:Nat):List U:=(List.range n).map fun (i:Nat)=>.int (lo + (i:Int))
theorem Zb9 (lo:Int) (n i:Nat):(rngU lo n)[i]? = if i < n then some (.int (lo + (i:Int))) else none:=by
 unfold rngU
 rw [Yl]
 by_cases h:i < n
 ·rw [if_pos h,YbV h];rfl
 ·rw [if_neg h,YV (by rw [Yax];lia)];rfl
theorem rngU_len (lo:Int) (n:Nat):(rngU lo n).length=n:=by simp [rngU]
theorem Zh0 {H:Hp} {lo:Int} {n:Nat}:AbJ K H (Itr lo n) (jFix (rngU lo n)):=fun i A H1 x k g e=>by
 have e:x=(rngU lo n)[i]?:=e
 rw [Zb9] at e
 subst e
 by_cases h:i < n
 ·rw [if_pos h]
  refine ⟨h,?_⟩
  rintro x H' ⟨rfl,rfl⟩
  exact ⟨.refl _,g,.int _⟩
 ·rw [if_neg h]
  exact Ycd h
noncomputable def yRng1:List U->AHp->(AIt->AHp->Prop)->Prop:=fun us A R=>match us with
 | [.int j]=>-(2 ^ 62)<=j/\j < 2 ^ 62/\R (jFix (rngU 0 j.toNat)) A
 | _=>False
noncomputable def yRng2:List U->AHp->(AIt->AHp->Prop)->Prop:=fun us A R=>match us with
 | [.int i,.int j]=>(-(2 ^ 62)<=i/\i < 2 ^ 62/\-(2 ^ 62)<=j/\j < 2 ^ 62)/\R (jFix (rngU i (j - i).toNat)) A
 | _=>False
noncomputable def AbYs (K:YFr) (u:List V->Hp->(It->Hp->Prop)->Prop) (y:List U->AHp->(AIt->AHp->Prop)->Prop):Prop:=∀ x v A H R' R,RUs K H x v->HR K H A->y x A R'->(∀ aj A' J H',Kp K H H'->HR K H' A'->AbJ K H' J aj->R' aj A'->R J H')->u v H R
noncomputable def Zeo (y:List U->AHp->(AIt->AHp->Prop)->Prop) (l:AA):AI:=fun ρ A R=>l ρ A fun us A1=>y us A1 R
theorem ZbH {u:List V->Hp->(It->Hp->Prop)->Prop} {y:List U->AHp->(AIt->AHp->Prop)->Prop} {t:TA} {l:AA} (hy:AbYs K u y) (hl:AbA K t l):AbI K (Zim u t) (Zeo y l):=fun ρ A σ H R' R hs g w k =>
 hl ρ A σ H _ _ hs g w fun x A1 v H1 k1 g1 r1 q1=>hy _ _ _ _ _ _ r1 g1 q1 fun aj A2 J H2 k2 g2 hj q2=>k _ _ _ _ (k1.trans k2) g2 hj q2
theorem ab_yrng1:AbYs K uRng1 yRng1:=fun x v A H R' R r g w k=>by
 unfold yRng1 at w
 split at w
 ·cases r with
  | cons r rr =>
   cases rr;cases r
   exact ⟨w.1,w.2.1,k _ _ _ _ (.refl H) g Zh0 w.2.2⟩
 ·exact w.elim
theorem ab_yrng2:AbYs K uRng2 yRng2:=fun x v A H R' R r g w k=>by
 unfold yRng2 at w
 split at w
 ·cases r with
  | cons r rr =>
   cases rr with
   | cons r2 rr =>
    cases rr;cases r;cases r2
    exact ⟨w.1,k _ _ _ _ (.refl H) g Zh0 w.2⟩
 ·exact w.elim
theorem Zgn {t:TA} {l:AA} (hl:AbA K t l):AbI K (jRng1 t) (Zeo yRng1 l):=ZbH (u:=uRng1) ab_yrng1 hl
theorem ab_jrng2 {t:TA} {l:AA} (hl:AbA K t l):AbI K (jRng2 t) (Zeo yRng2 l):=ZbH (u:=uRng2) ab_yrng2 hl
noncomputable def enU (us:List U):List U:=us.zipIdx.map fun p=>.tup [.int (p.2:Nat),p.1]
theorem Zc1 (us:List U) (i:Nat):(enU us)[i]? = (us[i]?).map fun u=>.tup [.int (i:Nat),u]:=by
 unfold enU
 rw [Yl,List.getElem?_zipIdx]
 cases us[i]? <;> simp
theorem Zd3 (us:List U):(enU us).length=us.length:=by simp [enU]
noncomputable def Zi6 (a:Addr):AIt:=fun i A r=>∃ us,A a=some (.lst us)/\r=(enU us)[i]?
noncomputable def yEnum:List U->AHp->(AIt->AHp->Prop)->Prop:=fun us A R=>match us with
 | [.ref a]=>(∃ us,A a=some (.lst us))/\R (Zi6 a) A
 | [.rol us]=>R (jFix (enU us)) A
 | _=>False
theorem ite_of {H:Hp} {a:Addr} {us:List U} {vs:List V} {i:Nat} {A:AHp} (h1:SqL K H a vs) (r1:RUs K H us vs) (g:HR K H A):match (enU us)[i]? with
  | none=>(Ite K a).stop i H
  | some u=>(Ite K a).go i H/\∀ x H',(Ite K a).yld i H x H'->Kp K H H'/\HR K H' A/\RU K H' u x:=by
 rw [Zc1]
 cases hu:us[i]? with
 | none=>exact ⟨vs,h1,by rw [<- r1.length];exact Y7.mp hu⟩
 | some u =>
  obtain ⟨v,hv,rv⟩:=r1.get' hu
  refine ⟨⟨vs,v,h1,hv⟩,?_⟩
  rintro x H' ⟨T,x0,rfl,hT,rfl,hx⟩
  have:=hx vs h1
  rw [hv] at this;cases this
  have s:=Same.upd_new (o:=.tup [.int i,v]) hT
  exact ⟨s.kp,g.grow s,.tup (SqT.of Z3) (.cons (.int _) (.one (rv.same s.kp)))⟩
theorem ZdQ:AbYs K (uEnum K) yEnum:=fun x v A H R' R r g w k=>by
 unfold yEnum at w
 split at w
 ·cases r with
  | cons r rr =>
   cases rr;cases r
   obtain ⟨⟨us,hA⟩,w⟩:=w
   obtain ⟨vs,h1,r1⟩:=g.list hA
   refine ⟨⟨vs,SqL.of h1⟩,k _ _ _ _ (.refl H) g (fun i A1 H1 r k1 g1 ⟨us,hA,e⟩=>?_) w⟩
   subst e
   obtain ⟨vs,h1,r1⟩:=g1.list hA
   exact ite_of (SqL.of h1) r1 g1
 ·cases r with
  | cons r rr =>
   cases rr
   cases r with
   | rol h1 r1 =>
    refine ⟨⟨_,h1.sq⟩,k _ _ _ _ (.refl H) g (fun i A1 H1 r k1 g1 e=>?_) w⟩
    have e:r=(enU _)[i]?:=e
    subst e
    exact ite_of (k1.r _ _ h1).sq (r1.same k1) g1
 ·exact w.elim
noncomputable def yEnumT:List U->AHp->(AIt->AHp->Prop)->Prop:=fun us A R=>match us with
 | [.tup us]=>R (jFix (enU us)) A
 | _=>False
noncomputable def zpU:List U->List U->List U
 | x::xs,y::ys=>.tup [x,y]::zpU xs ys
 | _,_=>[]
theorem ZfN:∀ (us ws:List U) (i:Nat),(zpU us ws)[i]? = match us[i]?,ws[i]? with | some x,some y=>some (.tup [x,y]) | _,_=>none
 | [],ws,i=>by simp [zpU]
 | _ :: _,[],i=>by
  simp only [zpU,List.getElem?_nil]
  split <;> simp_all
 | x::xs,y::ys,0=>by simp [zpU]
 | x::xs,y::ys,i + 1=>by simpa [zpU] using ZfN xs ys i
noncomputable def jZip (a b:Addr):AIt:=fun i A r=>∃ us ws,A a=some (.lst us)/\A b=some (.lst ws)/\r=(zpU us ws)[i]?
noncomputable def yZip:List U->AHp->(AIt->AHp->Prop)->Prop:=fun us A R=>match us with
 | [.ref a,.ref b]=>(∃ us ws,A a=some (.lst us)/\A b=some (.lst ws))/\R (jZip a b) A
 | _=>False
noncomputable def jRevA (a:Addr) (n:Nat):AIt:=fun i A r=>(i=n/\r=none)\/(i < n/\∃ us u,A a=some (.lst us)/\us[n - 1 - i]? = some u/\r=some u)
noncomputable def aJrev (a:AE):AI:=fun ρ A R=>a ρ A fun x A1=>∃ p us,x=.ref p/\A1 p=some (.lst us)/\R (jRevA p us.length) A1
theorem ab_jrev {t:TE} {a:AE} (ha:AbE K t a):AbI K (jRev K t) (aJrev a):=fun ρ A σ H R' R hs g w k =>
 ha ρ A σ H _ _ hs g w fun x A1 v H1 k1 g1 r1 hq0=>by
  obtain ⟨p,us,e,hA,q1⟩:=hq0
  subst e;cases r1
  obtain ⟨vs,h1,r1⟩:=g1.list hA
  refine ⟨p,vs,rfl,SqL.of h1,?_⟩
  rw [<- r1.length]
  refine k _ _ _ _ k1 g1 (fun i A2 H2 r k2 g2 e=>?_) q1
  rcases e with ⟨rfl,rfl⟩ | ⟨hi,us2,u,hA2,hu,rfl⟩
  ·rfl
  ·obtain ⟨vs2,h2,r2⟩:=g2.list hA2
   obtain ⟨v,hv,rv⟩:=r2.get' hu
   refine ⟨⟨hi,vs2,v,SqL.of h2,hv⟩,?_⟩
   rintro x H' ⟨rfl,hx⟩
   have:=hx vs2 (SqL.of h2)
   rw [hv] at this;cases this
   exact ⟨.refl _,g2,rv⟩
noncomputable def aCompStart (nt:Nat) (frs:List (Str × Nat)) (ρ:ASt):ASt:=List.replicate nt none++frs.map fun p=>(ρ[p.2]?).join
theorem RSt.join {H:Hp}:∀ {ρ:ASt} {σ:St} (i:Nat) {ρ2:ASt} {σ2:St},RSt K H ρ σ->RSt K H ρ2 σ2->RSt K H ((ρ[i]?).join::ρ2) ((σ[i]?).join::σ2)
 | _,_,_,_,_,.nil,q=>by simpa using .skip q
 | _,_,0,_,_,.skip _,q=>by simpa using .skip q
 | _,_,i + 1,_,_,.skip r,q=>by simpa using RSt.join i r q
 | _,_,0,_,_,.cons h _,q=>by simpa using .cons h q
 | _,_,i + 1,_,_,.cons _ r,q=>by simpa using RSt.join i r q
theorem RSt.comp {H:Hp} {ρ:ASt} {σ:St} (h:RSt K H ρ σ) (nt:Nat) (frs:List (Str × Nat)):RSt K H (aCompStart nt frs ρ) (ZaQ nt frs σ):=by
 unfold aCompStart ZaQ
 induction nt with
 | zero =>
  simp only [List.replicate_zero,List.nil_append]
  induction frs with
  | nil=>exact .nil
  | cons p frs ih=>simp only [YE];exact h.join p.2 ih
 | succ n ih=>simp only [List.replicate_succ,List.cons_append];exact .skip ih
noncomputable def aCL (J:AIt) (g:AG) (tt:AT) (te:AE) (l:Addr) (Q:AVK) (τ:ASt) (A:AHp):Prop:=∃ W:Nat->Nat->ASt->AHp->Prop,(∃ m,W 0 m τ A) /\
 ∀ i m τ A,W i m τ A->(J i A none/\Q (.ref l) A)\/∃ u,J i A (some u)/\g u τ A fun τ2 A2=>tt τ2 A2 fun ok A3 =>
  if ok=true then te τ2 A3 fun y A4=>∃ ys,A4 l=some (.lst ys)/\ys.length < sizeLine/\∃ m',m' < m/\W (i + 1) m' τ2 (updA A4 l (.lst (ys++[y]))) else ∃ m',m' < m/\W (i + 1) m' τ2 A3
noncomputable def aComp (nt:Nat) (frs:List (Str × Nat)) (wi:AI) (g:AG) (tt:AT) (te:AE):AE:=fun ρ A Q=>wi ρ A fun J A1=>∀ l,A1 l=none->aCL J g tt te l Q (aCompStart nt frs ρ) (updA A1 l (.lst []))
theorem Z4 {nt:Nat} {frs:List (Str × Nat)} {wi:TI} {g:TG} {tt:TT} {te:TE} {ai:AI} {ag:AG} {at':AT} {ae:AE} (hi:AbI K wi ai) (hg:AbG K g ag) (ht:AbT K tt at') (he:AbE K te ae):AbE K (tComp nt frs wi g tt te) (aComp nt frs ai ag at' ae):=fun ρ A σ H Q' Q hs g0 w k=>by
 refine hi ρ A σ H _ _ hs g0 w fun aj A1 J H1 k1 g1 hj q=>?_
 intro l hl
 obtain ⟨W,⟨m0,w0⟩,turn⟩:=q l (g1.none hl)
 have kl:Kp K H1 (upd H1 l (.lst [])):=(Same.upd_new hl).kp
 refine ⟨fun i m τ H2=>∃ τ' A2,Kp K H1 H2/\HR K H2 A2/\RSt K H2 τ' τ/\W i m τ' A2,⟨m0,_,_,kl,g1.newL hl .nil,(hs.same (k1.trans kl)).comp nt frs,w0⟩,?_⟩
 rintro i m τ H2 ⟨τ',A2,k2,g2,s2,w2⟩
 have k12:=k1.trans k2
 rcases turn i m τ' A2 w2 with ⟨hstop,q⟩ | ⟨u,hgo,q⟩
 ·exact .inl ⟨hj i A2 H2 _ k2 g2 hstop,k _ _ _ _ k12 g2 (.ref l) q⟩
 ·obtain ⟨j1,j2⟩:=hj i A2 H2 _ k2 g2 hgo
  refine .inr ⟨j1,fun x H3 hy=>?_⟩
  obtain ⟨k3,g3,r3⟩:=j2 x H3 hy
  refine hg _ _ _ _ _ _ _ _ r3 (s2.same k3) g3 q fun ρ4 A4 σ4 H4 k4 g4 s4 q4=>ht ρ4 A4 σ4 H4 _ _ s4 g4 q4 fun b A5 H5 k5 g5 q5=>?_
  have k25:=k2.trans (k3.trans (k4.trans k5))
  cases b
  ·refine iteN (by decide) ?_
   obtain ⟨m',hm,w'⟩:=(by simpa using q5:∃ m',m' < m/\W (i + 1) m' ρ4 A5)
   exact ⟨m',hm,_,_,k25,g5,s4.same k5,w'⟩
  ·refine iteP rfl (he ρ4 A5 σ4 H5 _ _ (s4.same k5) g5 (by simpa using q5) fun y A6 v6 H6 k6 g6 r6 q6=>?_)
   obtain ⟨ys,hA,hz,m',hm,w'⟩:=q6
   obtain ⟨vs,h6,r7⟩:=g6.list hA
   exact ⟨vs,h6,by rw [<- r7.length];exact hz,m',hm,_,_,k25.trans (k6.trans (Kp.lst h6)),g6.setL h6 (r7.app (.one r6)),(s4.same (k5.trans (k6.trans (Kp.lst h6)))),w'⟩
end
section
variable {K:YFr}
noncomputable def xAdd:AR2:=fun u w A Q=>match u,w with
 | .int i,.int j=>Q (.int (i + j)) A
 | .str i,.str j=>i.length + j.length<=sizeLine/\Q (.str (i++j)) A
 | .tup xs,.tup ys=>xs.length + ys.length<=sizeLine/\Q (.tup (xs++ys)) A
 | .ref a,.ref b=>∃ xs ys,A a=some (.lst xs)/\A b=some (.lst ys)/\xs.length + ys.length<=sizeLine/\∀ p,A p=none->Q (.ref p) (updA A p (.lst (xs++ys)))
 | _,_=>False
theorem Zag:AbR K (uAddW K) xAdd:=fun x y u w A H Q' Q hu hw g h k=>by
 unfold xAdd at h
 split at h
 ·cases hu;cases hw;exact k _ _ _ _ (.refl H) g (.int _) h
 ·cases hu;cases hw;exact ⟨h.1,k _ _ _ _ (.refl H) g (.str _) h.2⟩
 ·cases hu with
  | tup h1 r1 =>
   cases hw with
   | tup h2 r2 =>
    refine .inr ⟨_,_,h1,h2,by rw [<- r1.length,<- r2.length];exact h.1,fun p H' s hp=>k _ _ _ _ s.kp (g.grow s) (.tup hp ((r1.app r2).same s.kp)) h.2⟩
 ·cases hu;cases hw
  obtain ⟨xs,ys,e1,e2,hz,q⟩:=h
  obtain ⟨vs,h1,r1⟩:=g.list e1
  obtain ⟨zs,h2,r2⟩:=g.list e2
  exact .inl ⟨vs,zs,SqL.of h1,SqL.of h2,by rw [<- r1.length,<- r2.length];exact hz,fun p hp=>k _ _ _ _ (Same.upd_new hp).kp (g.newL hp (r1.app r2)) (.ref p) (q p (g.none hp))⟩
 ·exact h.elim
noncomputable def xI2 (C:Int->Int->Prop) (f:Int->Int->U):AR2:=fun u w A Q=>match u,w with
 | .int i,.int j=>C i j/\Q (f i j) A
 | _,_=>False
noncomputable def xI (f:Int->Int->U):AR2:=fun u w A Q=>match u,w with
 | .int i,.int j=>Q (f i j) A
 | _,_=>False
theorem ZcV:AbR K uSub (xI fun i j=>.int (i - j)):=fun x y u w A H Q' Q hu hw g h k=>by
 unfold xI at h
 split at h
 ·cases hu;cases hw;exact k _ _ _ _ (.refl H) g (.int _) h
 ·exact h.elim
noncomputable def xMul:AR2:=fun u w A Q=>match u,w with
 | .int i,.int j=>IntMulOk i j/\Q (.int (i * j)) A
 | .ref a,.int m=>∃ xs,A a=some (.lst xs)/\-(2 ^ 63)<=m/\m < 2 ^ 63/\xs.length * m.toNat<=sizeLine/\∀ p,A p=none->Q (.ref p) (updA A p (.lst (List.replicate m.toNat xs).flatten))
 | _,_=>False
theorem RUs.flat {H:Hp} {us:List U} {vs:List V} (r:RUs K H us vs):∀ n,RUs K H (List.replicate n us).flatten (List.replicate n vs).flatten
 | 0=>.nil
 | n + 1=>by rw [List.replicate_succ,List.replicate_succ,List.flatten_cons,List.flatten_cons];exact r.app (r.flat n)
theorem Zil:AbR K uMulB xMul:=fun x y u w A H Q' Q hu hw g h k=>by
 unfold xMul at h
 split at h
 ·cases hu;cases hw;exact ⟨h.1,k _ _ _ _ (.refl H) g (.int _) h.2⟩
 ·cases hu;cases hw
  obtain ⟨xs,e1,b1,b2,hz,q⟩:=h
  obtain ⟨vs,h1,r1⟩:=g.list e1
  exact ⟨_,_,vs,rfl,rfl,h1,b1,b2,by rw [<- r1.length];exact hz,fun p hp=>k _ _ _ _ (Same.upd_new hp).kp (g.newL hp (r1.flat _)) (.ref p) (q p (g.none hp))⟩
 ·exact h.elim
theorem Zgb:AbR K uDiv (xI2 CDiv fun i j=>.int (i / j)):=fun x y u w A H Q' Q hu hw g h k=>by
 unfold xI2 at h
 split at h
 ·cases hu;cases hw;exact ⟨h.1,k _ _ _ _ (.refl H) g (.int _) h.2⟩
 ·exact h.elim
theorem ZaY:AbR K uMod (xI2 (fun _ j=>0 < j) fun i j=>.int (i % j)):=fun x y u w A H Q' Q hu hw g h k=>by
 unfold xI2 at h
 split at h
 ·cases hu;cases hw;exact ⟨h.1,k _ _ _ _ (.refl H) g (.int _) h.2⟩
 ·exact h.elim
theorem Zf0:AbR K uPow (xI2 CPow fun i j=>.int (i ^ j.toNat)):=fun x y u w A H Q' Q hu hw g h k=>by
 unfold xI2 at h
 split at h
 ·cases hu;cases hw;exact ⟨h.1,k _ _ _ _ (.refl H) g (.int _) h.2⟩
 ·exact h.elim
noncomputable def xLt:AR2:=fun u w A Q=>match u,w with
 | .int i,.int j=>Q (.bl (decide (i < j))) A
 | .str i,.str j=>Q (.bl (decide (i.cps.toList < j.cps.toList))) A
 | _,_=>False
theorem ZfE:AbR K uLt xLt:=fun x y u w A H Q' Q hu hw g h k=>by
 unfold xLt at h
 split at h
 ·cases hu;cases hw;exact k _ _ _ _ (.refl H) g (.bl _) h
 ·cases hu;cases hw;exact k _ _ _ _ (.refl H) g (.bl _) h
 ·exact h.elim
theorem ab_le:AbR K uLe (xI fun i j=>.bl (decide (i<=j))):=fun x y u w A H Q' Q hu hw g h k=>by
 unfold xI at h
 split at h
 ·cases hu;cases hw;exact k _ _ _ _ (.refl H) g (.bl _) h
 ·exact h.elim
theorem Zh9:AbR K uGt (xI fun i j=>.bl (decide (j < i))):=fun x y u w A H Q' Q hu hw g h k=>by
 unfold xI at h
 split at h
 ·cases hu;cases hw;exact k _ _ _ _ (.refl H) g (.bl _) h
 ·exact h.elim
theorem ab_ge:AbR K uGe (xI fun i j=>.bl (decide (j<=i))):=fun x y u w A H Q' Q hu hw g h k=>by
 unfold xI at h
 split at h
 ·cases hu;cases hw;exact k _ _ _ _ (.refl H) g (.bl _) h
 ·exact h.elim
mutual
inductive DU (A:AHp):U->PyData->Prop
 | non:DU A .non .none
 | bl (b:Bool):DU A (.bl b) (.bool b)
 | int (i:Int):DU A (.int i) (.int i)
 | str (x:Str):DU A (.str x) (.str x)
 | tup {us:List U} {ds:List PyData}:DUs A us ds->DU A (.tup us) (.tuple ds)
 | rol {us:List U} {ds:List PyData}:DUs A us ds->DU A (.rol us) (.list ds)
 | lst {a:Addr} {us:List U} {ds:List PyData}:A a=some (.lst us)->DUs A us ds->DU A (.ref a) (.list ds)
inductive DUs (A:AHp):List U->List PyData->Prop
 | nil:DUs A [] []
 | cons {u:U} {d:PyData} {us:List U} {ds:List PyData}:DU A u d->DUs A us ds->DUs A (u::us) (d::ds)
end
mutual
theorem DU.rep {A:AHp} {H:Hp} (g:HR K H A):∀ {u:U} {v:V} {d:PyData},DU A u d->RU K H u v->Rep K H d v:=by
 intro u v d h r
 cases h with
 | non=>cases r;exact .non
 | bl b=>cases r;exact .bl b
 | int b=>cases r;exact .int b
 | str b=>cases r;exact .str b
 | tup q=>cases r with | tup h r=>exact .tup h (DUs.reps g q r)
 | rol q=>cases r with | rol h r=>exact .lst h.sq (DUs.reps g q r)
 | lst e q =>
  cases r
  obtain ⟨vs,h,r⟩:=g.list e
  exact .lst (SqL.of h) (DUs.reps g q r)
theorem DUs.reps {A:AHp} {H:Hp} (g:HR K H A):∀ {us:List U} {vs:List V} {ds:List PyData},DUs A us ds->RUs K H us vs->Reps K H ds vs
 | _,_,_,.nil,.nil=>.nil
 | _,_,_,.cons h r,.cons q s=>.cons (DU.rep g h q) (DUs.reps g r s)
end
noncomputable def Zbg (ne:Bool) (u w:U) (A:AHp) (Q:AVK):Prop:=∃ d e,DU A u d/\DU A w e/\d.canLay0=true/\e.canLay0=true/\d.depth<=190/\Q (.bl (if ne then !PyData.eqv d e else PyData.eqv d e)) A
noncomputable def xEq:AR2:=fun u w A Q=>match u,w with
 | .int i,.int j=>Q (.bl (decide (i=j))) A
 | .str i,.str j=>Q (.bl (decide (i=j))) A
 | .bl i,.bl j=>Q (.bl (decide (i=j))) A
 | .tup us,.tup ws=>Zbg false (.tup us) (.tup ws) A Q
 | .ref a,.ref b=>Zbg false (.ref a) (.ref b) A Q
 | .rol a,.ref b=>Zbg false (.rol a) (.ref b) A Q
 | .tup us,.non=>Zbg false (.tup us) .non A Q
 | .non,.tup us=>Zbg false .non (.tup us) A Q
 | .non,.non=>Q (.bl true) A
 | .non,.str _=>Q (.bl false) A
 | .str _,.non=>Q (.bl false) A
 | _,_=>False
theorem Zbv {x y:V} {u w:U} {A:AHp} {H:Hp} {Q':AVK} {Q:VK} {ne:Bool} (hu:RU K H u x) (hw:RU K H w y) (g:HR K H A) (h:Zbg ne u w A Q') (k:Aft K H Q' Q):rEqD K ne x y H Q:=by
 obtain ⟨d,e,h1,h2,c1,c2,dp,q⟩:=h
 exact ⟨d,e,h1.rep g hu,h2.rep g hw,c1,c2,dp,k _ _ _ _ (.refl H) g (.bl _) q⟩
theorem Zbj:AbR K (uEqD K) xEq:=fun x y u w A H Q' Q hu hw g h k=>by
 unfold xEq at h
 split at h
 ·cases hu;cases hw;exact k _ _ _ _ (.refl H) g (.bl _) h
 ·cases hu;cases hw;exact k _ _ _ _ (.refl H) g (.bl _) h
 ·cases hu;cases hw;exact k _ _ _ _ (.refl H) g (.bl _) h
 ·have:=Zbv hu hw g h k;cases hu;exact this
 ·have:=Zbv hu hw g h k;cases hu;exact this
 ·have:=Zbv hu hw g h k;cases hu;exact this
 ·have:=Zbv hu hw g h k;cases hu;exact this
 ·have:=Zbv hu hw g h k;cases hu;cases hw;exact this
 ·cases hu;cases hw;exact k _ _ _ _ (.refl H) g (.bl _) h
 ·cases hu;cases hw;exact k _ _ _ _ (.refl H) g (.bl _) h
 ·cases hu;cases hw;exact k _ _ _ _ (.refl H) g (.bl _) h
 ·exact h.elim
noncomputable def xNe:AR2:=fun u w A Q=>match u,w with
 | .int i,.int j=>Q (.bl (!decide (i=j))) A
 | .str i,.str j=>Q (.bl (!decide (i=j))) A
 | .bl i,.bl j=>Q (.bl (!decide (i=j))) A
 | .tup us,.tup ws=>Zbg true (.tup us) (.tup ws) A Q
 | .ref a,.ref b=>Zbg true (.ref a) (.ref b) A Q
 | .rol a,.ref b=>Zbg true (.rol a) (.ref b) A Q
 | .tup us,.non=>Zbg true (.tup us) .non A Q
 | .non,.tup us=>Zbg true .non (.tup us) A Q
 | .non,.non=>Q (.bl false) A
 | .non,.str _=>Q (.bl true) A
 | .str _,.non=>Q (.bl true) A
 | _,_=>False
theorem ZgI:AbR K (uNeD K) xNe:=fun x y u w A H Q' Q hu hw g h k=>by
 unfold xNe at h
 split at h
 ·cases hu;cases hw;exact k _ _ _ _ (.refl H) g (.bl _) h
 ·cases hu;cases hw;exact k _ _ _ _ (.refl H) g (.bl _) h
 ·cases hu;cases hw;exact k _ _ _ _ (.refl H) g (.bl _) h
 ·have:=Zbv hu hw g h k;cases hu;exact this
 ·have:=Zbv hu hw g h k;cases hu;exact this
 ·have:=Zbv hu hw g h k;cases hu;exact this
 ·have:=Zbv hu hw g h k;cases hu;exact this
 ·have:=Zbv hu hw g h k;cases hu;cases hw;exact this
 ·cases hu;cases hw;exact k _ _ _ _ (.refl H) g (.bl _) h
 ·cases hu;cases hw;exact k _ _ _ _ (.refl H) g (.bl _) h
 ·cases hu;cases hw;exact k _ _ _ _ (.refl H) g (.bl _) h
 ·exact h.elim
noncomputable def U.isNon:U->Bool
 | .non=>true
 | _=>false
noncomputable def xIsN:AR2:=fun u w A Q=>w=.non/\Q (.bl u.isNon) A
theorem Ziu:AbR K (fun x y H Q=>y=.non/\Q (.bl (decide (x=.non))) H) xIsN:=fun x y u w A H Q' Q hu hw g hq0 k=>by
 obtain ⟨e,h⟩:=hq0
 subst e;cases hw
 refine ⟨rfl,?_⟩
 have:decide (x=V.non)=u.isNon:=by cases hu <;> simp [U.isNon]
 rw [this]
 exact k _ _ _ _ (.refl H) g (.bl _) h
noncomputable def U.flat:U->Bool
 | .non=>true
 | .bl _=>true
 | .int _=>true
 | .str _=>true
 | _=>false
noncomputable def U.toV:U->V
 | .bl b=>.bl b
 | .int i=>.int i
 | .str x=>.str x
 | _=>.non
theorem RU.flat {H:Hp} {u:U} {v:V} (h:RU K H u v) (f:u.flat=true):v=u.toV/\Zbz v=true:=by
 cases h <;> first | exact ⟨rfl,rfl⟩ | cases f
theorem RUs.flats {H:Hp}:∀ {us:List U} {vs:List V},RUs K H us vs->us.all U.flat=true->vs=us.map U.toV/\vs.all Zbz=true
 | _,_,.nil,_=>⟨rfl,rfl⟩
 | _, _,.cons h r,f=>by
  rw [List.all_cons,Ye] at f
  obtain ⟨e1,f1⟩:=h.flat f.1
  obtain ⟨e2,f2⟩:=RUs.flats r f.2
  exact ⟨by rw [YE,e1,e2],by rw [List.all_cons,f1,f2];rfl⟩
noncomputable def inU (u:U) (us:List U):Bool:=inV u.toV (us.map U.toV)
noncomputable def xInB (neg:Bool):AR2:=fun u w A Q=>match w with
 | .str j=>∃ i,u=.str i/\Q (.bl (if neg then !occ j i else occ j i)) A
 | .tup us=>u.flat=true/\us.all U.flat=true/\Q (.bl (if neg then !inU u us else inU u us)) A
 | .rol us=>u.flat=true/\us.all U.flat=true/\Q (.bl (if neg then !inU u us else inU u us)) A
 | .ref a=>∃ us,A a=some (.lst us)/\u.flat=true/\us.all U.flat=true/\Q (.bl (if neg then !inU u us else inU u us)) A
 | _=>False
noncomputable abbrev xIn:=xInB false
noncomputable abbrev xNin:=xInB true
theorem in_ref {x:V} {p:Addr} {H:Hp} {Q:VK} {xs:List V} (fx:Zbz x=true) (h:∃ xs,Sq K H p xs/\Zbz x=true/\xs.all Zbz=true/\Q (.bl (inV x xs)) H):uIn K x (.ref p) H Q:=by
 cases x <;> exact h
theorem nin_ref {x:V} {p:Addr} {H:Hp} {Q:VK} {xs:List V} (fx:Zbz x=true) (h:∃ xs,Sq K H p xs/\Zbz x=true/\xs.all Zbz=true/\Q (.bl (!inV x xs)) H):uNin K x (.ref p) H Q:=by
 cases x <;> exact h
theorem in_go {x:V} {u:U} {us:List U} {vs:List V} {p:Addr} {H:Hp} {A:AHp} {Q':AVK} {Q:VK} (hu:RU K H u x) (hs:Sq K H p vs) (r:RUs K H us vs) (g:HR K H A) (f:u.flat=true) (fs:us.all U.flat=true) (h:Q' (.bl (inU u us)) A) (k:Aft K H Q' Q):uIn K x (.ref p) H Q:=by
 obtain ⟨e1,f1⟩:=hu.flat f
 obtain ⟨e2,f2⟩:=r.flats fs
 refine in_ref (xs:=vs) f1 ⟨vs,hs,f1,f2,k _ _ _ _ (.refl H) g (.bl _) ?_⟩
 rw [e1,e2];exact h
theorem ZhD {x:V} {u:U} {us:List U} {vs:List V} {p:Addr} {H:Hp} {A:AHp} {Q':AVK} {Q:VK} (hu:RU K H u x) (hs:Sq K H p vs) (r:RUs K H us vs) (g:HR K H A) (f:u.flat=true) (fs:us.all U.flat=true) (h:Q' (.bl (!inU u us)) A) (k:Aft K H Q' Q):uNin K x (.ref p) H Q:=by
 obtain ⟨e1,f1⟩:=hu.flat f
 obtain ⟨e2,f2⟩:=r.flats fs
 refine nin_ref (xs:=vs) f1 ⟨vs,hs,f1,f2,k _ _ _ _ (.refl H) g (.bl _) ?_⟩
 rw [e1,e2];exact h
theorem ZbT:AbR K (uIn K) xIn:=fun x y u w A H Q' Q hu hw g h k=>by
 unfold xIn xInB at h
 split at h
 ·obtain ⟨i,rfl,h⟩:=h
  cases hw;cases hu;exact k _ _ _ _ (.refl H) g (.bl _) h
 ·cases hw with
  | tup h1 r1=>exact in_go hu (.inr h1) r1 g h.1 h.2.1 h.2.2 k
 ·cases hw with
  | rol h1 r1=>exact in_go hu (.inl h1.sq) r1 g h.1 h.2.1 h.2.2 k
 ·cases hw
  obtain ⟨us,e,h⟩:=h
  obtain ⟨vs,h1,r1⟩:=g.list e
  exact in_go hu (.inl (SqL.of h1)) r1 g h.1 h.2.1 h.2.2 k
 ·exact h.elim
theorem ab_nin:AbR K (uNin K) xNin:=fun x y u w A H Q' Q hu hw g h k=>by
 unfold xNin xInB at h
 split at h
 ·obtain ⟨i,rfl,h⟩:=h
  cases hw;cases hu;exact k _ _ _ _ (.refl H) g (.bl _) h
 ·cases hw with
  | tup h1 r1=>exact ZhD hu (.inr h1) r1 g h.1 h.2.1 h.2.2 k
 ·cases hw with
  | rol h1 r1=>exact ZhD hu (.inl h1.sq) r1 g h.1 h.2.1 h.2.2 k
 ·cases hw
  obtain ⟨us,e,h⟩:=h
  obtain ⟨vs,h1,r1⟩:=g.list e
  exact ZhD hu (.inl (SqL.of h1)) r1 g h.1 h.2.1 h.2.2 k
 ·exact h.elim
theorem RUs.at {H:Hp} {us:List U} {vs:List V} {i:Int} {u:U} (r:RUs K H us vs) (h:atI us i=some u):∃ v,atI vs i=some v/\RU K H u v:=by
 unfold atI at h ⊢
 rw [<- r.length]
 cases e:ixN us.length i with
 | none=>rw [e] at h;cases h
 | some j=>rw [e] at h;exact r.get' h
noncomputable def xIx:AR2:=fun u w A Q=>match u,w with
 | .str z,.int i=>z.length<=sizeLine/\∃ c,atI z.cps.toList i=some c/\Q (.str ⟨#[c]⟩) A
 | .tup us,.int i=>∃ x,atI us i=some x/\Q x A
 | .rol us,.int i=>∃ x,atI us i=some x/\Q x A
 | .ref a,.int i=>∃ us x,A a=some (.lst us)/\atI us i=some x/\Q x A
 | _,_=>False
theorem ZJ:AbR K (uIx K) xIx:=fun x y u w A H Q' Q hu hw g h k=>by
 unfold xIx at h
 split at h
 ·cases hu;cases hw
  obtain ⟨hz,c,e,h⟩:=h
  exact ⟨hz,c,e,k _ _ _ _ (.refl H) g (.str _) h⟩
 ·cases hw
  obtain ⟨x,e,h⟩:=h
  cases hu with
  | tup h1 r1 =>
   obtain ⟨v,e2,rv⟩:=r1.at e
   exact ⟨_,v,.inr h1,e2,k _ _ _ _ (.refl H) g rv h⟩
 ·cases hw
  obtain ⟨x,e,h⟩:=h
  cases hu with
  | rol h1 r1 =>
   obtain ⟨v,e2,rv⟩:=r1.at e
   exact ⟨_,v,.inl h1.sq,e2,k _ _ _ _ (.refl H) g rv h⟩
 ·cases hw;cases hu
  obtain ⟨us,x,e0,e,h⟩:=h
  obtain ⟨vs,h1,r1⟩:=g.list e0
  obtain ⟨v,e2,rv⟩:=r1.at e
  exact ⟨_,v,.inl (SqL.of h1),e2,k _ _ _ _ (.refl H) g rv h⟩
 ·exact h.elim
noncomputable def cutU (xs:List U) (lo hi:Option Int):List U:=(xs.drop (HT.sIx xs.length 0 lo)).take (HT.sIx xs.length xs.length hi - HT.sIx xs.length 0 lo)
theorem RUs.cut {H:Hp} {us:List U} {vs:List V} (r:RUs K H us vs) (lo hi:Option Int):RUs K H (cutU us lo hi) (cutV vs lo hi):=by
 unfold cutU cutV
 rw [r.length]
 exact (r.drop _).take _
noncomputable def xSl:U->Option Int->Option Int->AHp->AVK->Prop:=fun u lo hi A Q=>match u with
 | .str z=>z.length<=sizeLine/\Q (.str (cutS z lo hi)) A
 | .tup us=>Q (.tup (cutU us lo hi)) A
 | .rol us=>∀ p,A p=none->Q (.ref p) (updA A p (.lst (cutU us lo hi)))
 | .ref a=>∃ us,A a=some (.lst us)/\∀ p,A p=none->Q (.ref p) (updA A p (.lst (cutU us lo hi)))
 | _=>False
theorem Z5:AbSl K (uSlW K) xSl:=fun x u lo hi A H Q' Q hu g h k=>by
 unfold xSl at h
 split at h
 ·cases hu;exact ⟨h.1,k _ _ _ _ (.refl H) g (.str _) h.2⟩
 ·cases hu with
  | tup h1 r1=>exact .inr ⟨_,h1,fun p H' s hp=>k _ _ _ _ s.kp (g.grow s) (.tup hp ((r1.cut lo hi).same s.kp)) h⟩
 ·cases hu with
  | rol h1 r1=>exact .inl ⟨_,h1.sq,fun p hp=>k _ _ _ _ (Same.upd_new hp).kp (g.newL hp (r1.cut lo hi)) (.ref p) (h p (g.none hp))⟩
 ·cases hu
  obtain ⟨us,e,h⟩:=h
  obtain ⟨vs,h1,r1⟩:=g.list e
  exact .inl ⟨_,SqL.of h1,fun p hp=>k _ _ _ _ (Same.upd_new hp).kp (g.newL hp (r1.cut lo hi)) (.ref p) (h p (g.none hp))⟩
 ·exact h.elim
noncomputable def xLen:List U->AHp->AVK->Prop:=fun us A Q=>match us with
 | [.str z]=>z.length<=sizeLine/\Q (.int z.length) A
 | [.tup us]=>Q (.int us.length) A
 | [.rol us]=>Q (.int us.length) A
 | [.ref a]=>∃ us,A a=some (.lst us)/\Q (.int us.length) A
 | _=>False
theorem RUs.inv1 {H:Hp} {u:U} {vs:List V} (h:RUs K H [u] vs):∃ v,vs=[v]/\RU K H u v:=by
 cases h with
 | cons h r=>cases r;exact ⟨_,rfl,h⟩
theorem RUs.inv2 {H:Hp} {u w:U} {vs:List V} (h:RUs K H [u,w] vs):∃ v x,vs=[v,x]/\RU K H u v/\RU K H w x:=by
 cases h with
 | cons h r=>obtain ⟨x,rfl,r'⟩:=r.inv1;exact ⟨_,x,rfl,h,r'⟩
theorem ZaF:AbL K (uLen K) xLen:=fun xs us A H Q' Q r g h k=>by
 unfold xLen at h
 split at h
 ·obtain ⟨v,rfl,r'⟩:=r.inv1;cases r';exact ⟨h.1,k _ _ _ _ (.refl H) g (.int _) h.2⟩
 ·obtain ⟨v,rfl,r'⟩:=r.inv1
  cases r' with
  | tup h1 r1=>exact ⟨_,.inr h1,k _ _ _ _ (.refl H) g (.int _) (by rw [<- r1.length];exact h)⟩
 ·obtain ⟨v,rfl,r'⟩:=r.inv1
  cases r' with
  | rol h1 r1=>exact ⟨_,.inl h1.sq,k _ _ _ _ (.refl H) g (.int _) (by rw [<- r1.length];exact h)⟩
 ·obtain ⟨v,rfl,r'⟩:=r.inv1
  cases r'
  obtain ⟨us,e,h⟩:=h
  obtain ⟨vs,h1,r1⟩:=g.list e
  exact ⟨_,.inl (SqL.of h1),k _ _ _ _ (.refl H) g (.int _) (by rw [<- r1.length];exact h)⟩
 ·exact h.elim
noncomputable def xMin:List U->AHp->AVK->Prop:=fun us A Q=>match us with
 | [.int i,.int j]=>Q (.int (min i j)) A
 | [.ref a]=>∃ ns:List Int,A a=some (.lst (ns.map U.int))/\1<=ns.length/\∀ m,m∈ns->(∀ x∈ns,m<=x)->Q (.int m) A
 | _=>False
theorem ab_min:AbL K (uMinA K) xMin:=fun xs us A H Q' Q r g h k=>by
 unfold xMin at h
 split at h
 ·obtain ⟨v,x,rfl,r1,r2⟩:=r.inv2;cases r1;cases r2;exact k _ _ _ _ (.refl H) g (.int _) h
 ·obtain ⟨v,rfl,r'⟩:=r.inv1;cases r'
  obtain ⟨ns,e,hn,h⟩:=h
  obtain ⟨vs,h1,r1⟩:=g.list e
  exact ⟨ns,SqL.of (by rw [h1,r1.ints]),hn,fun m hm hx=>k _ _ _ _ (.refl H) g (.int _) (h m hm hx)⟩
 ·exact h.elim
noncomputable def xSum:List U->AHp->AVK->Prop:=fun us A Q=>match us with
 | [.ref a]=>∃ ns:List Int,A a=some (.lst (ns.map U.int))/\Q (.int ns.sum) A
 | _=>False
theorem ZeN:AbL K (uSum K) xSum:=fun xs us A H Q' Q r g h k=>by
 unfold xSum at h
 split at h
 ·obtain ⟨v,rfl,r'⟩:=r.inv1;cases r'
  obtain ⟨ns,e,h⟩:=h
  obtain ⟨vs,h1,r1⟩:=g.list e
  exact ⟨ns,SqL.of (by rw [h1,r1.ints]),k _ _ _ _ (.refl H) g (.int _) h⟩
 ·exact h.elim
noncomputable def xAll:List U->AHp->AVK->Prop:=fun us A Q=>match us with
 | [.ref a]=>∃ bs:List Bool,A a=some (.lst (bs.map U.bl))/\Q (.bl (bs.all id)) A
 | _=>False
theorem ab_all:AbL K (fun xs H Q=>∃ (p:Addr) (bs:List Bool),xs=[.ref p]/\SqL K H p (bs.map V.bl)/\Q (.bl (bs.all id)) H) xAll:=fun xs us A H Q' Q r g h k=>by
 unfold xAll at h
 split at h
 ·obtain ⟨v,rfl,r'⟩:=r.inv1;cases r'
  obtain ⟨bs,e,h⟩:=h
  obtain ⟨vs,h1,r1⟩:=g.list e
  exact ⟨_,bs,rfl,SqL.of (by rw [h1,r1.bls]),k _ _ _ _ (.refl H) g (.bl _) h⟩
 ·exact h.elim
noncomputable def ZcR:List U->AHp->AVK->Prop:=fun us A Q=>match us with
 | [.tup us]=>∀ p,A p=none->Q (.ref p) (updA A p (.lst us))
 | [.rol us]=>∀ p,A p=none->Q (.ref p) (updA A p (.lst us))
 | [.ref a]=>∃ us,A a=some (.lst us)/\∀ p,A p=none->Q (.ref p) (updA A p (.lst us))
 | _=>False
theorem Zjd:AbL K (Zfz K) ZcR:=fun xs us A H Q' Q r g h k=>by
 unfold ZcR at h
 split at h
 ·obtain ⟨v,rfl,r'⟩:=r.inv1
  cases r' with
  | tup h1 r1=>exact ⟨_,.inr h1,fun p hp=>k _ _ _ _ (Same.upd_new hp).kp (g.newL hp r1) (.ref p) (h p (g.none hp))⟩
 ·obtain ⟨v,rfl,r'⟩:=r.inv1
  cases r' with
  | rol h1 r1=>exact ⟨_,.inl h1.sq,fun p hp=>k _ _ _ _ (Same.upd_new hp).kp (g.newL hp r1) (.ref p) (h p (g.none hp))⟩
 ·obtain ⟨v,rfl,r'⟩:=r.inv1
  cases r'
  obtain ⟨us,e,h⟩:=h
  obtain ⟨vs,h1,r1⟩:=g.list e
  exact ⟨_,.inl (SqL.of h1),fun p hp=>k _ _ _ _ (Same.upd_new hp).kp (g.newL hp r1) (.ref p) (h p (g.none hp))⟩
 ·exact h.elim
noncomputable def Zdu:List U->AHp->AVK->Prop:=fun us A Q=>match us with
 | [.tup us]=>Q (.tup us) A
 | [.rol us]=>Q (.tup us) A
 | [.ref a]=>∃ us,A a=some (.lst us)/\Q (.tup us) A
 | _=>False
theorem ZaJ:AbL K (Zid K) Zdu:=fun xs us A H Q' Q r g h k=>by
 unfold Zdu at h
 split at h
 ·obtain ⟨v,rfl,r'⟩:=r.inv1
  cases r' with
  | tup h1 r1=>exact ⟨_,.inr ⟨h1,k _ _ _ _ (.refl H) g (.tup h1 r1) h⟩⟩
 ·obtain ⟨v,rfl,r'⟩:=r.inv1
  cases r' with
  | @rol _ zs _ h1 r1 =>
   refine ⟨_,.inl ⟨h1.sq,fun p hp=>?_⟩⟩
   have s:=Same.upd_new (o:=.tup zs) hp
   exact k _ _ _ _ s.kp (g.grow s) (.tup (SqT.of Z3) (r1.same s.kp)) h
 ·obtain ⟨v,rfl,r'⟩:=r.inv1
  cases r'
  obtain ⟨us,e,h⟩:=h
  obtain ⟨vs,h1,r1⟩:=g.list e
  refine ⟨_,.inl ⟨SqL.of h1,fun p hp=>?_⟩⟩
  have s:=Same.upd_new (o:=.tup vs) hp
  exact k _ _ _ _ s.kp (g.grow s) (.tup (SqT.of Z3) (r1.same s.kp)) h
 ·exact h.elim
theorem ab_neg:AbU K (rU fun i=>.int (-i)) (fun u A Q=>∃ i,u=.int i/\Q (.int (-i)) A):=fun x u A H Q' Q r g hq0 k=>by
 obtain ⟨i,e,h⟩:=hq0
 subst e;cases r;exact ⟨i,rfl,k _ _ _ _ (.refl H) g (.int _) h⟩
noncomputable def isLst:U->AHp->Prop:=fun u A=>match u with
 | .ref a=>∃ us,A a=some (.lst us)
 | _=>False
theorem Z2:AbY K "list" isLst:=fun x u A H r g h=>by
 unfold isLst at h
 split at h
 ·cases r
  obtain ⟨us,e⟩:=h
  obtain ⟨vs,h1,r1⟩:=g.list e
  exact .inl ⟨rfl,vs,SqL.of h1⟩
 ·exact h.elim
noncomputable def isTupU:U->AHp->Prop:=fun u _=>match u with
 | .tup _=>True
 | _=>False
noncomputable def mApp:U->List U->AHp->AVK->Prop:=fun u us A Q=>match u,us with
 | .ref a,[w]=>∃ xs,A a=some (.lst xs)/\xs.length < sizeLine/\Q .non (updA A a (.lst (xs++[w])))
 | _,_=>False
theorem ZbD:AbMt K Zhj mApp:=fun x u xs us A H Q' Q r rs g h k=>by
 unfold mApp at h
 split at h
 ·cases r
  obtain ⟨v,rfl,rv⟩:=rs.inv1
  obtain ⟨zs,e,hz,h⟩:=h
  obtain ⟨vs,h1,r1⟩:=g.list e
  exact ⟨_,vs,_,rfl,rfl,h1,by rw [<- r1.length];exact hz,k _ _ _ _ (Kp.lst h1) (g.setL h1 (r1.app (.one rv))) .non h⟩
 ·exact h.elim
noncomputable def mPop:U->List U->AHp->AVK->Prop:=fun u us A Q=>match u,us with
 | .ref a,[]=>∃ xs y,A a=some (.lst (xs++[y]))/\Q y (updA A a (.lst xs))
 | _,_=>False
theorem Zci:AbMt K rPop mPop:=fun x u xs us A H Q' Q r rs g h k=>by
 unfold mPop at h
 split at h
 ·cases r;cases rs
  obtain ⟨zs,y,e,h⟩:=h
  obtain ⟨vs,h1,r1⟩:=g.list e
  have hl:=r1.length
  rw [Yj,List.length_singleton] at hl
  obtain ⟨v,hv,rv⟩:=r1.get' (i:=zs.length) (u:=y) (by simp)
  refine ⟨_,vs,v,rfl,rfl,h1,by rw [<- hl];exact hv,k _ _ _ _ (Kp.lst h1) (g.setL h1 ?_) (rv.same (Kp.lst h1)) h⟩
  have:=r1.dropLast
  rw [List.dropLast_concat] at this
  exact this
 ·exact h.elim
noncomputable def mExtT:U->List U->AHp->AVK->Prop:=fun u us A Q=>match u,us with
 | .ref a,[.tup ws]=>∃ xs,A a=some (.lst xs)/\xs.length + ws.length<=sizeLine/\Q .non (updA A a (.lst (xs++ws)))
 | _,_=>False
theorem ab_mextT:AbMt K (rExtT K) mExtT:=fun x u xs us A H Q' Q r rs g h k=>by
 unfold mExtT at h
 split at h
 ·cases r
  obtain ⟨v,rfl,rv⟩:=rs.inv1
  obtain ⟨zs,e,hz,h⟩:=h
  obtain ⟨vs,h1,r1⟩:=g.list e
  cases rv with
  | tup h2 r2=>exact ⟨_,_,vs,_,rfl,rfl,h1,h2,by rw [<- r1.length,<- r2.length];exact hz,k _ _ _ _ (Kp.lst h1) (g.setL h1 (r1.app r2)) .non h⟩
 ·exact h.elim
noncomputable def mExt:U->List U->AHp->AVK->Prop:=fun u us A Q=>match u,us with
 | .ref a,[.ref b]=>∃ xs ws,A a=some (.lst xs)/\A b=some (.lst ws)/\xs.length + ws.length<=sizeLine/\Q .non (updA A a (.lst (xs++ws)))
 | _,_=>False
theorem ab_mext:AbMt K Zff mExt:=fun x u xs us A H Q' Q r rs g h k=>by
 unfold mExt at h
 split at h
 ·cases r
  obtain ⟨v,rfl,rv⟩:=rs.inv1
  cases rv
  obtain ⟨zs,ws,e,e2,hz,h⟩:=h
  obtain ⟨vs,h1,r1⟩:=g.list e
  obtain ⟨ys,h2,r2⟩:=g.list e2
  exact ⟨_,_,vs,_,rfl,rfl,h1,h2,by rw [<- r1.length,<- r2.length];exact hz,k _ _ _ _ (Kp.lst h1) (g.setL h1 (r1.app r2)) .non h⟩
 ·exact h.elim
noncomputable def bTail (o:AE) (l:AP1):AG:=fun u ρ A Q=>o ρ A fun x A1=>l ρ A1 fun y A2=>∃ a b us ws i,x=.ref a/\u=.ref b/\y=some i/\A2 a=some (.lst us)/\A2 b=some (.lst ws)/\a≠b/\0<=i/\i<=us.length/\us.length + ws.length<=sizeLine/\Q ρ (updA A2 a (.lst (us.take i.toNat++ws)))
theorem ab_tail {to:TE} {tl:TO} {ao:AE} {al:AP1} (ho:AbE K to ao) (hl:AbP K tl al):AbG K (gTail to tl) (bTail ao al):=fun u v ρ A σ H Q' Q r hs g w k =>
 ho ρ A σ H _ _ hs g w fun x A1 v1 H1 k1 g1 r1 q1=>hl ρ A1 σ H1 _ _ (hs.same k1) g1 q1 fun y A2 H2 k2 g2 hq0=>by
  obtain ⟨a,b,us,ws,i,e1,e2,e3,eA,eB,hne,h0,hi,hz,q⟩:=hq0
  subst e1 e2 e3
  cases r1;cases r
  obtain ⟨vs,h1,r1⟩:=g2.list eA
  obtain ⟨ys,h2,r2⟩:=g2.list eB
  refine ⟨_,_,vs,ys,i,rfl,rfl,rfl,h1,h2,hne,h0,by rw [<- r1.length];exact hi,by rw [<- r1.length,<- r2.length];exact hz,k _ _ _ _ (k1.trans (k2.trans (Kp.lst h1))) (g2.setL h1 ((r1.take _).app r2)) (hs.same (k1.trans (k2.trans (Kp.lst h1)))) q⟩
noncomputable def Zhh (a:AE):AE:=fun ρ A Q=>a ρ A fun x A1=>∃ p us,x=.ref p/\A1 p=some (.lst us)/\Q (.tup us.reverse) A1
theorem Zjj {t:TE} {a:AE} (ha:AbE K t a):AbE K (ZiP K t) (Zhh a):=fun ρ A σ H Q' Q hs g w k =>
 ha ρ A σ H _ _ hs g w fun x A1 v H1 k1 g1 r1 hq0=>by
  obtain ⟨p,us,e,eA,q⟩:=hq0
  subst e;cases r1
  obtain ⟨vs,h1,r1⟩:=g1.list eA
  refine ⟨p,vs,rfl,SqL.of h1,fun q2 hp=>?_⟩
  have s:=Same.upd_new (o:=.tup vs.reverse) hp
  exact k _ _ _ _ (k1.trans s.kp) (g1.grow s) (.tup (SqT.of Z3) (r1.rev.same s.kp)) q
end
theorem Zek (x:U) (xs:List U):cutU (x::xs) (some 1) none=xs:=by
 unfold cutU
 have:HT.sIx (x::xs).length 0 (some 1)=1:=by
  have:=HT.sIx_nat (x::xs).length 0 1
  rw [show ((1:Nat):Int)=1 from rfl] at this
  rw [this,List.length_cons];lia
 rw [this,HT.sIx_none,List.drop_succ_cons,YbW,List.length_cons,Ydi,Yaj]
section
variable {u:U} {ρ:ASt} {A:AHp} {Q:AVK} {a b:AE} {c d:AT} {B:Bool->AHp->Prop} {l:AA} {L:List U->AHp->Prop} {D:ZbS}
theorem q_var0 :(aVar 0 (some u::ρ) A Q)=(Q u A):=rfl
theorem q_nm0 {a0:Option U} {g:ASt->AHp->Prop} :(Zb2 0 u (a0::ρ) A g)=(g (some u::ρ) A):=rfl
theorem q_get0 {k:U->Prop} :(aGet (some u::ρ) 0 k)=(k u):=rfl
theorem q_varS {i:Nat} {a0:Option U}:(aVar (i + 1) (a0::ρ) A Q)=(aVar i ρ A Q):=rfl
theorem q_nmS {i:Nat} {a0:Option U} {g:ASt->AHp->Prop}:(Zb2 (i + 1) u (a0::ρ) A g)=(Zb2 i u ρ A fun ρ2 A2=>g (a0::ρ2) A2):=rfl
theorem q_getS {i:Nat} {a0:Option U} {k:U->Prop}:(aGet (a0::ρ) (i + 1) k)=(aGet ρ i k):=rfl
theorem q_var1 {a0:Option U} :(aVar 1 (a0::some u::ρ) A Q)=(Q u A):=rfl
theorem q_c :(aC u ρ A Q)=(Q u A):=rfl
theorem q_op {r:AR2}:(aOp r a b ρ A Q)=(a ρ A fun x A1=>b ρ A1 fun y A2=>r x y A2 Q):=rfl
theorem q_un {r:U->AHp->AVK->Prop}:(aUn r a ρ A Q)=(a ρ A fun x A1=>r x A1 Q):=rfl
theorem q_tb :(aB a ρ A B)=(a ρ A fun x A1=>∃ c,x=.bl c/\B c A1):=rfl
theorem q_bl {k:Bool} {F:Bool->Prop}:(∃ c,U.bl k=.bl c/\F c)=(F k):=by simp
theorem q_int {i:Int} {F:Int->Prop}:(∃ c,U.int i=.int c/\F c)=(F i):=by simp
theorem q_and :(aAnd c d ρ A B)=(c ρ A fun k A1=>if k=true then d ρ A1 B else B false A1):=rfl
theorem q_or :(aOr c d ρ A B)=(c ρ A fun k A1=>if k=true then B true A1 else d ρ A1 B):=rfl
theorem q_not :(aNot c ρ A B)=(c ρ A fun k A1=>B (!k) A1):=rfl
theorem q_andv :(aAndV a b ρ A Q)=(a ρ A fun x A1=>∃ k,x=.bl k/\if k=true then b ρ A1 Q else Q (.bl false) A1):=rfl
theorem q_notv :(aNotV a ρ A Q)=(a ρ A fun x A1=>∃ k,x=.bl k/\Q (.bl (!k)) A1):=rfl
theorem q_if :(aIf c a b ρ A Q)=(c ρ A fun k A1=>if k=true then a ρ A1 Q else b ρ A1 Q):=rfl
theorem q_chain {r r2:AR2} {e:AE}:(aChain r r2 a b e ρ A Q)=(a ρ A fun x A1=>b ρ A1 fun y A2=>r x y A2 fun z A3=>∃ k,z=.bl k/\(if k=true then e ρ A3 fun w A4=>r2 y w A4 Q else Q (.bl false) A3)):=rfl
theorem Zjy :(Zcr ρ A B)=(B true A):=rfl
theorem q_nil :(aNil ρ A L)=(L [] A):=rfl
theorem Zjw :(ZfM a l ρ A L)=(a ρ A fun x A1=>l ρ A1 fun xs A2=>L (x::xs) A2):=rfl
theorem q_const {us:List U}:(aConst us ρ A L)=(L us A):=rfl
theorem q_tup :(aTup l ρ A Q)=(l ρ A fun xs A1=>xs.length<=sizeLine/\Q (.tup xs) A1):=rfl
theorem q_lst :(aLst l ρ A Q)=(l ρ A fun xs A1=>xs.length<=sizeLine/\∀ p,A1 p=none->Q (.ref p) (updA A1 p (.lst xs))):=rfl
theorem q_cb {r:List U->AHp->AVK->Prop}:(aCB r l ρ A Q)=(l ρ A fun us A1=>r us A1 Q):=rfl
theorem q_call {sp:ASp}:(ZgR sp l ρ A Q)=(l ρ A fun us A1=>sp us A1 Q):=rfl
theorem q_callV {sp:ASp} {f:Addr}:(aCallV f sp a l ρ A Q)=(a ρ A fun y A0=>y=.ref f/\l ρ A0 fun us A1=>sp us A1 Q):=rfl
theorem q_nopart {O:Option Int->AHp->Prop}:(Zd7 ρ A O)=(O none A):=rfl
theorem q_part {O:Option Int->AHp->Prop}:(aPart a ρ A O)=(a ρ A fun x A1=>∃ i,x=.int i/\O (some i) A1):=rfl
theorem q_sl {r:U->Option Int->Option Int->AHp->AVK->Prop} {lo hi:AP1}:(aSl r a lo hi ρ A Q)=(a ρ A fun x A1=>lo ρ A1 fun i A2=>hi ρ A2 fun j A3=>r x i j A3 Q):=rfl
theorem q_bm0 {y:U->AHp->Prop} {r:U->List U->AHp->AVK->Prop}:(aBM0 y r a ρ A Q)=(a ρ A fun x A1=>y x A1/\r x [] A1 Q):=rfl
theorem q_bm {y:U->AHp->Prop} {r:U->List U->AHp->AVK->Prop}:(aBM y r a l ρ A Q)=(a ρ A fun x A1=>y x A1/\l ρ A1 fun us A2=>r x us A2 Q):=rfl
theorem q_next :(aNext D ρ A)=(D.nx ρ A):=rfl
theorem q_seq {t t2:AS}:(aSeq t t2 D ρ A)=(t { D with nx:=t2 D } ρ A):=rfl
theorem q_drop :(aDrop a D ρ A)=(a ρ A fun _ A1=>D.nx ρ A1):=rfl
theorem q_ret :(aRet a D ρ A)=(a ρ A D.rt):=rfl
theorem q_ifs {t t2:AS}:(aIfS c t t2 D ρ A)=(c ρ A fun k A1=>if k=true then t D ρ A1 else t2 D ρ A1):=rfl
theorem q_asg {g:AG}:(aAsg a g D ρ A)=(a ρ A fun x A1=>g x ρ A1 D.nx):=rfl
theorem q_par {i j:Nat}:(aPar i j l D ρ A)=(l ρ A fun us A1=>∃ v w,us=[v,w]/\D.nx ((ρ.set i (some v)).set j (some w)) A1):=rfl
theorem q_two {v w:U} {F:U->U->Prop}:(∃ a b,[v,w]=[a,b]/\F a b)=(F v w):=propext ⟨fun hq0=>by obtain ⟨a,b,e,h⟩:=hq0;injection e with e1 e2;injection e2 with e2 _;subst e1 e2;exact h,fun h=>⟨_,_,rfl,h⟩⟩
theorem q_aug {i:Nat} {r:AR2}:(aAug i a r D ρ A)=(aGet ρ i fun x=>a ρ A fun y A1=>r x y A1 fun z A2=>D.nx (ρ.set i (some z)) A2):=rfl
theorem q_for {wi:AI} {g:AG} {t:AS}:(aFor wi g t D ρ A)=(wi ρ A fun J A1=>Ze9 J g t D ρ A1):=rfl
theorem q_jof {y:U->AHp->(AIt->AHp->Prop)->Prop} {R:AIt->AHp->Prop}:(aJof y a ρ A R)=(a ρ A fun x A1=>y x A1 R):=rfl
theorem q_jargs {y:List U->AHp->(AIt->AHp->Prop)->Prop} {R:AIt->AHp->Prop}:(Zeo y l ρ A R)=(l ρ A fun us A1=>y us A1 R):=rfl
theorem q_ylr {R:AIt->AHp->Prop} {p:Addr}:(yList (.ref p) A R)=((∃ us,A p=some (.lst us))/\R (jLst p) A):=rfl
theorem q_ylo {R:AIt->AHp->Prop} {us:List U}:(yList (.rol us) A R)=(R (jFix us) A):=rfl
theorem q_yt {R:AIt->AHp->Prop} {us:List U}:(yTup (.tup us) A R)=(R (jFix us) A):=rfl
theorem q_yr1 {R:AIt->AHp->Prop} {j:Int}:(yRng1 [.int j] A R)=(-(2 ^ 62)<=j/\j < 2 ^ 62/\R (jFix (rngU 0 j.toNat)) A):=rfl
theorem q_yr2 {R:AIt->AHp->Prop} {i j:Int}:(yRng2 [.int i,.int j] A R)=((-(2 ^ 62)<=i/\i < 2 ^ 62/\-(2 ^ 62)<=j/\j < 2 ^ 62)/\R (jFix (rngU i (j - i).toNat)) A):=rfl
theorem q_yer {R:AIt->AHp->Prop} {p:Addr}:(yEnum [.ref p] A R)=((∃ us,A p=some (.lst us))/\R (Zi6 p) A):=rfl
theorem q_yeo {R:AIt->AHp->Prop} {us:List U}:(yEnum [.rol us] A R)=(R (jFix (enU us)) A):=rfl
theorem q_yet {R:AIt->AHp->Prop} {us:List U}:(yEnumT [.tup us] A R)=(R (jFix (enU us)) A):=rfl
theorem q_yz {R:AIt->AHp->Prop} {p q:Addr}:(yZip [.ref p,.ref q] A R)=((∃ us ws,A p=some (.lst us)/\A q=some (.lst ws))/\R (jZip p q) A):=rfl
theorem q_jrev {R:AIt->AHp->Prop}:(aJrev a ρ A R)=(a ρ A fun x A1=>∃ p us,x=.ref p/\A1 p=some (.lst us)/\R (jRevA p us.length) A1):=rfl
theorem q_comp {nt:Nat} {frs:List (Str × Nat)} {wi:AI} {g:AG} {tt:AT} {te:AE}:(aComp nt frs wi g tt te ρ A Q)=(wi ρ A fun J A1=>∀ l,A1 l=none->aCL J g tt te l Q (aCompStart nt frs ρ) (updA A1 l (.lst []))):=rfl
theorem q_gtup {n:Nat} {t:AGs} {N:ASt->AHp->Prop} {us:List U}:(bTup n t (.tup us) ρ A N)=(us.length=n/\t us ρ A N):=propext ⟨fun hq0=>by obtain ⟨vs,e,h⟩:=hq0;cases e;exact h,fun h=>⟨_,rfl,h⟩⟩
theorem q_gcons {t:AG} {ts:AGs} {N:ASt->AHp->Prop} {us:List U}:(bCons t ts (u::us) ρ A N)=(t u ρ A fun ρ2 A2=>ts us ρ2 A2 N):=propext ⟨fun hq0=>by obtain ⟨v,r,e,h⟩:=hq0;cases e;exact h,fun h=>⟨_,_,rfl,h⟩⟩
theorem q_gnil {N:ASt->AHp->Prop}:(bNil [] ρ A N)=(N ρ A):=propext ⟨fun h=>h.2,fun h=>⟨rfl,h⟩⟩
theorem q_addi {i j:Int}:(xAdd (.int i) (.int j) A Q)=(Q (.int (i + j)) A):=rfl
theorem q_adds {x y:Str}:(xAdd (.str x) (.str y) A Q)=(x.length + y.length<=sizeLine/\Q (.str (x++y)) A):=rfl
theorem q_addt {us ws:List U}:(xAdd (.tup us) (.tup ws) A Q)=(us.length + ws.length<=sizeLine/\Q (.tup (us++ws)) A):=rfl
theorem q_addr {p q:Addr}:(xAdd (.ref p) (.ref q) A Q)=(∃ xs ys,A p=some (.lst xs)/\A q=some (.lst ys)/\xs.length + ys.length<=sizeLine/\∀ p,A p=none->Q (.ref p) (updA A p (.lst (xs++ys)))):=rfl
theorem q_xi {i j:Int} {f:Int->Int->U}:(xI f (.int i) (.int j) A Q)=(Q (f i j) A):=rfl
theorem q_xi2 {i j:Int} {f:Int->Int->U} {C:Int->Int->Prop}:(xI2 C f (.int i) (.int j) A Q)=(C i j/\Q (f i j) A):=rfl
theorem q_mul {i j:Int}:(xMul (.int i) (.int j) A Q)=(IntMulOk i j/\Q (.int (i * j)) A):=rfl
theorem q_rep {p:Addr} {m:Int}:(xMul (.ref p) (.int m) A Q)=(∃ xs,A p=some (.lst xs)/\-(2 ^ 63)<=m/\m < 2 ^ 63/\xs.length * m.toNat<=sizeLine/\∀ p,A p=none->Q (.ref p) (updA A p (.lst (List.replicate m.toNat xs).flatten))):=rfl
theorem q_lti {i j:Int}:(xLt (.int i) (.int j) A Q)=(Q (.bl (decide (i < j))) A):=rfl
theorem q_lts {x y:Str}:(xLt (.str x) (.str y) A Q)=(Q (.bl (decide (x.cps.toList < y.cps.toList))) A):=rfl
theorem q_eqi {i j:Int}:(xEq (.int i) (.int j) A Q)=(Q (.bl (decide (i=j))) A):=rfl
theorem q_eqs {x y:Str}:(xEq (.str x) (.str y) A Q)=(Q (.bl (decide (x=y))) A):=rfl
theorem q_eqb {k m:Bool}:(xEq (.bl k) (.bl m) A Q)=(Q (.bl (decide (k=m))) A):=rfl
theorem q_eqt {us ws:List U}:(xEq (.tup us) (.tup ws) A Q)=(Zbg false (.tup us) (.tup ws) A Q):=rfl
theorem q_eqr {p q:Addr}:(xEq (.ref p) (.ref q) A Q)=(Zbg false (.ref p) (.ref q) A Q):=rfl
theorem q_eqtn {us:List U}:(xEq (.tup us) .non A Q)=(Zbg false (.tup us) .non A Q):=rfl
theorem q_eqnt {us:List U}:(xEq .non (.tup us) A Q)=(Zbg false .non (.tup us) A Q):=rfl
theorem q_eqnn :(xEq .non .non A Q)=(Q (.bl true) A):=rfl
theorem q_eqns {x:Str}:(xEq .non (.str x) A Q)=(Q (.bl false) A):=rfl
theorem q_eqsn {x:Str}:(xEq (.str x) .non A Q)=(Q (.bl false) A):=rfl
theorem q_nei {i j:Int}:(xNe (.int i) (.int j) A Q)=(Q (.bl (!decide (i=j))) A):=rfl
theorem q_nes {x y:Str}:(xNe (.str x) (.str y) A Q)=(Q (.bl (!decide (x=y))) A):=rfl
theorem q_neb {k m:Bool}:(xNe (.bl k) (.bl m) A Q)=(Q (.bl (!decide (k=m))) A):=rfl
theorem q_net {us ws:List U}:(xNe (.tup us) (.tup ws) A Q)=(Zbg true (.tup us) (.tup ws) A Q):=rfl
theorem q_ner {p q:Addr}:(xNe (.ref p) (.ref q) A Q)=(Zbg true (.ref p) (.ref q) A Q):=rfl
theorem q_netn {us:List U}:(xNe (.tup us) .non A Q)=(Zbg true (.tup us) .non A Q):=rfl
theorem q_nent {us:List U}:(xNe .non (.tup us) A Q)=(Zbg true .non (.tup us) A Q):=rfl
theorem q_nenn :(xNe .non .non A Q)=(Q (.bl false) A):=rfl
theorem q_nens {x:Str}:(xNe .non (.str x) A Q)=(Q (.bl true) A):=rfl
theorem q_nesn {x:Str}:(xNe (.str x) .non A Q)=(Q (.bl true) A):=rfl
theorem q_isn :(xIsN u .non A Q)=(Q (.bl u.isNon) A):=propext ⟨fun h=>h.2,fun h=>⟨rfl,h⟩⟩
theorem q_int_ {us:List U}:(xInB false u (.tup us) A Q)=(u.flat=true/\us.all U.flat=true/\Q (.bl (inU u us)) A):=rfl
theorem q_nint_ {us:List U}:(xInB true u (.tup us) A Q)=(u.flat=true/\us.all U.flat=true/\Q (.bl (!inU u us)) A):=rfl
theorem q_inr_ {p:Addr}:(xInB false u (.ref p) A Q)=(∃ us,A p=some (.lst us)/\u.flat=true/\us.all U.flat=true/\Q (.bl (inU u us)) A):=rfl
theorem q_ninr_ {p:Addr}:(xInB true u (.ref p) A Q)=(∃ us,A p=some (.lst us)/\u.flat=true/\us.all U.flat=true/\Q (.bl (!inU u us)) A):=rfl
theorem q_ins_ {x y:Str}:(xInB false (.str x) (.str y) A Q)=(Q (.bl (occ y x)) A):=propext ⟨fun hq0=>by obtain ⟨i,e,h⟩:=hq0;cases e;exact h,fun h=>⟨_,rfl,h⟩⟩
theorem q_nins_ {x y:Str}:(xInB true (.str x) (.str y) A Q)=(Q (.bl (!occ y x)) A):=propext ⟨fun hq0=>by obtain ⟨i,e,h⟩:=hq0;cases e;exact h,fun h=>⟨_,rfl,h⟩⟩
theorem q_ixs {z:Str} {i:Int}:(xIx (.str z) (.int i) A Q)=(z.length<=sizeLine/\∃ c,atI z.cps.toList i=some c/\Q (.str ⟨#[c]⟩) A):=rfl
theorem q_ix0 {us:List U}:(xIx (.tup (u::us)) (.int 0) A Q)=(Q u A):=propext ⟨fun hq0=>by obtain ⟨x,e,h⟩:=hq0;rw [show atI (u::us) 0=some u from Zam (j:=0) rfl] at e;cases e;exact h,fun h=>⟨_,Zam (j:=0) rfl,h⟩⟩
theorem q_ix1 {w:U} {us:List U}:(xIx (.tup (u::w::us)) (.int 1) A Q)=(Q w A):=propext ⟨fun hq0=>by obtain ⟨x,e,h⟩:=hq0;rw [show atI (u::w::us) 1=some w from Zam (j:=1) rfl] at e;cases e;exact h,fun h=>⟨_,Zam (j:=1) rfl,h⟩⟩
theorem q_ix2 {w x:U} {us:List U}:(xIx (.tup (u::w::x::us)) (.int 2) A Q)=(Q x A):=propext ⟨fun hq0=>by obtain ⟨z,e,h⟩:=hq0;rw [show atI (u::w::x::us) 2=some x from Zam (j:=2) rfl] at e;cases e;exact h,fun h=>⟨_,Zam (j:=2) rfl,h⟩⟩
theorem q_ixt {us:List U} {i:Int}:(xIx (.tup us) (.int i) A Q)=(∃ x,atI us i=some x/\Q x A):=rfl
theorem q_ixo {us:List U} {i:Int}:(xIx (.rol us) (.int i) A Q)=(∃ x,atI us i=some x/\Q x A):=rfl
theorem q_ixr {p:Addr} {i:Int}:(xIx (.ref p) (.int i) A Q)=(∃ us x,A p=some (.lst us)/\atI us i=some x/\Q x A):=rfl
theorem q_sls {lo hi:Option Int} {z:Str}:(xSl (.str z) lo hi A Q)=(z.length<=sizeLine/\Q (.str (cutS z lo hi)) A):=rfl
theorem q_slt1 {us:List U}:(xSl (.tup (u::us)) (some 1) none A Q)=(Q (.tup us) A):=by show Q (.tup (cutU (u::us) (some 1) none)) A=_;rw [Zek]
theorem q_slt {lo hi:Option Int} {us:List U}:(xSl (.tup us) lo hi A Q)=(Q (.tup (cutU us lo hi)) A):=rfl
theorem q_slo {lo hi:Option Int} {us:List U}:(xSl (.rol us) lo hi A Q)=(∀ p,A p=none->Q (.ref p) (updA A p (.lst (cutU us lo hi)))):=rfl
theorem q_slr {lo hi:Option Int} {p:Addr}:(xSl (.ref p) lo hi A Q)=(∃ us,A p=some (.lst us)/\∀ p,A p=none->Q (.ref p) (updA A p (.lst (cutU us lo hi)))):=rfl
theorem q_lens {z:Str}:(xLen [.str z] A Q)=(z.length<=sizeLine/\Q (.int z.length) A):=rfl
theorem q_lent {us:List U}:(xLen [.tup us] A Q)=(Q (.int us.length) A):=rfl
theorem q_leno {us:List U}:(xLen [.rol us] A Q)=(Q (.int us.length) A):=rfl
theorem q_lenr {p:Addr}:(xLen [.ref p] A Q)=(∃ us,A p=some (.lst us)/\Q (.int us.length) A):=rfl
theorem q_min2 {i j:Int}:(xMin [.int i,.int j] A Q)=(Q (.int (min i j)) A):=rfl
theorem q_minl {p:Addr}:(xMin [.ref p] A Q)=(∃ ns:List Int,A p=some (.lst (ns.map U.int))/\1<=ns.length/\∀ m,m∈ns->(∀ x∈ns,m<=x)->Q (.int m) A):=rfl
theorem q_sum {p:Addr}:(xSum [.ref p] A Q)=(∃ ns:List Int,A p=some (.lst (ns.map U.int))/\Q (.int ns.sum) A):=rfl
theorem q_all {p:Addr}:(xAll [.ref p] A Q)=(∃ bs:List Bool,A p=some (.lst (bs.map U.bl))/\Q (.bl (bs.all id)) A):=rfl
theorem q_lot {us:List U}:(ZcR [.tup us] A Q)=(∀ p,A p=none->Q (.ref p) (updA A p (.lst us))):=rfl
theorem q_loo {us:List U}:(ZcR [.rol us] A Q)=(∀ p,A p=none->Q (.ref p) (updA A p (.lst us))):=rfl
theorem q_lor {p:Addr}:(ZcR [.ref p] A Q)=(∃ us,A p=some (.lst us)/\∀ p,A p=none->Q (.ref p) (updA A p (.lst us))):=rfl
theorem q_tot {us:List U}:(Zdu [.tup us] A Q)=(Q (.tup us) A):=rfl
theorem q_tor {p:Addr}:(Zdu [.ref p] A Q)=(∃ us,A p=some (.lst us)/\Q (.tup us) A):=rfl
theorem q_isl {p:Addr}:(isLst (.ref p) A)=(∃ us,A p=some (.lst us)):=rfl
theorem q_ist {us:List U}:(isTupU (.tup us) A)=(True):=rfl
theorem q_app {p:Addr}:(mApp (.ref p) [u] A Q)=(∃ xs,A p=some (.lst xs)/\xs.length < sizeLine/\Q .non (updA A p (.lst (xs++[u])))):=rfl
theorem q_pop {p:Addr}:(mPop (.ref p) [] A Q)=(∃ xs y,A p=some (.lst (xs++[y]))/\Q y (updA A p (.lst xs))):=rfl
theorem q_extT {p:Addr} {us:List U}:(mExtT (.ref p) [.tup us] A Q)=(∃ xs,A p=some (.lst xs)/\xs.length + us.length<=sizeLine/\Q .non (updA A p (.lst (xs++us)))):=rfl
theorem q_ext {p q:Addr}:(mExt (.ref p) [.ref q] A Q)=(∃ xs ws,A p=some (.lst xs)/\A q=some (.lst ws)/\xs.length + ws.length<=sizeLine/\Q .non (updA A p (.lst (xs++ws)))):=rfl
theorem q_tail {N:ASt->AHp->Prop} {o:AE} {lo:AP1}:(bTail o lo u ρ A N)=(o ρ A fun x A1=>lo ρ A1 fun y A2=>∃ a b us ws i,x=.ref a/\u=.ref b/\y=some i/\A2 a=some (.lst us)/\A2 b=some (.lst ws)/\a≠b/\0<=i/\i<=us.length/\us.length + ws.length<=sizeLine/\N ρ (updA A2 a (.lst (us.take i.toNat++ws)))):=rfl
theorem q_tuprev :(Zhh a ρ A Q)=(a ρ A fun x A1=>∃ p us,x=.ref p/\A1 p=some (.lst us)/\Q (.tup us.reverse) A1):=rfl
theorem q_neg {i:Int}:((fun (u:U) (A:AHp) (Q:AVK)=>∃ i,u=.int i/\Q (.int (-i)) A) (.int i) A Q)=(Q (.int (-i)) A):=by simp
end
noncomputable def Ext (A A':AHp):Prop:=∀ a o,A a=some o->A' a=some o
theorem Ext.refl (A:AHp):Ext A A:=fun _ _ h=>h
theorem Ext.trans {A B C:AHp} (h:Ext A B) (k:Ext B C):Ext A C:=fun a o e=>k a o (h a o e)
theorem Ext.new {A:AHp} {l:Addr} {o:AO} (h:A l=none):Ext A (updA A l o):=fun b u e=>by
 rw [Zk (fun z=>by rw [z,h] at e;cases e)];exact e
theorem HR.ext {K:YFr} {H:Hp} {A A':AHp} (e:Ext A A') (h:HR K H A'):HR K H A:=fun a o q=>h a o (e a o q)
noncomputable def Fg (Q:AVK):AVK:=fun u A=>∃ A',Ext A' A/\Q u A'
noncomputable def aStart (N:List Str) (us:List U):ASt:=us.map some++List.replicate (N.length - us.length) none
section
variable {P:Program} {w:World} {K:YFr} {mg:Str->Option Value} {base:Heap}
theorem RSt.nones {H:Hp}:∀ n,RSt K H (List.replicate n none) (List.replicate n none)
 | 0=>.nil
 | n + 1=>.skip (RSt.nones n)
theorem RSt.start {H:Hp} (N:List Str) {us:List U} {vs:List V} (r:RUs K H us vs):RSt K H (aStart N us) (L2.start N vs):=by
 unfold aStart L2.start
 rw [r.length]
 generalize N.length - vs.length=n
 induction us generalizing vs with
 | nil=>cases r;exact RSt.nones n
 | cons u us ih =>
  cases r with
  | cons h r=>exact .cons h (ih r)
theorem Fun.okA {x qual:Str} {st:Stmt} {f:Addr} {fd:FuncData} {N ps:List Str} {k:Nat} {asp:ASp} {sc:Scope} {body:List Stmt} {as:AS} (F:Fun K x qual st f fd) (hs:defScope st=sc) (hb:defBody st=body) (S:ZB N ps (defScope st))
  (hbody:ZB N ps sc->∀ (cdv:Value) (A:Around) (outer:List Env) (s:Shared) (H:Hp) (E:XK),Room k (A.deeper (envOfC qual sc s.heap.objs.size f cdv)) ->
   ∃ t,PSs (cxOf CX0 P w K mg base N qual sc f cdv A outer s H E).nox body t/\AbS K t as)
  (hsp:∀ us A Q,asp us A Q->us.length=ps.length/\as { nx:=fun _ A'=>Fg Q .non A',rt:=Fg Q } (aStart N us) A):FnOk P w K mg base CX0 (k + 1) f fd ps (spOf K asp):=by
 refine F.ok2 hs hb S (fun vs H Q E ⟨us,A,Q',r,g,h,_⟩=>?_) fun S cdv A outer s H vs Q E hr ⟨us,A',Q',r,g,h,k⟩=>?_
 ·rw [<- r.length];exact (hsp us A Q' h).1
 ·obtain ⟨t,ht,ha⟩:=hbody S cdv A outer s H E hr
  exact ⟨t,ht,ha _ _ _ _ _ _ (RSt.start N r) g (hsp us A' Q' h).2 ⟨fun ρ A σ H' k' g' s' ⟨A3,e,q'⟩=>k _ _ _ _ k' (g'.ext e) .non q',fun u A v H' k' g' r' ⟨A3,e,q'⟩=>k _ _ _ _ k' (g'.ext e) r' q',fun _ _ _ _ _ _ _ q=>q.elim,fun _ _ _ _ _ _ _ q=>q.elim⟩⟩
end
noncomputable def truU:U->AHp->(Bool->AHp->Prop)->Prop:=fun x A1 Q=>match x with
 | .ref p=>∃ us,A1 p=some (.lst us)/\Q (!us.isEmpty) A1
 | .tup us=>Q (!us.isEmpty) A1
 | .bl b=>Q b A1
 | .int i=>Q (i != 0) A1
 | .non=>Q false A1
 | _=>False
noncomputable def aTru (a:AE):AT:=fun ρ A Q=>a ρ A fun x A1=>truU x A1 Q
theorem RUs.empty {K:YFr} {H:Hp} {us:List U} {vs:List V} (r:RUs K H us vs):vs.isEmpty=us.isEmpty:=by cases r <;> rfl
theorem ab_tru {K:YFr} {t:TE} {a:AE} (ha:AbE K t a):AbT K (fun σ H Q=>t σ H fun x H'=>∃ k,TruV K x H' k/\Q k H') (aTru a):=fun ρ A σ H Q' Q hs g w k =>
 ha ρ A σ H _ _ hs g w fun x A1 v H1 k1 g1 r1 q1=>by
  cases r1 with
  | ref p =>
   obtain ⟨us,e,q1⟩:=q1
   obtain ⟨vs,h1,r1⟩:=g1.list e
   exact ⟨_,.inl ⟨vs,SqL.of h1,rfl⟩,k _ _ _ k1 g1 (by rw [r1.empty];exact q1)⟩
  | tup h r=>exact ⟨_,.inr (.inl ⟨_,h,rfl⟩),k _ _ _ k1 g1 (by rw [r.empty];exact q1)⟩
  | bl b=>exact ⟨b,rfl,k _ _ _ k1 g1 q1⟩
  | int i=>exact ⟨_,rfl,k _ _ _ k1 g1 q1⟩
  | non=>exact ⟨_,rfl,k _ _ _ k1 g1 q1⟩
  | _=>exact q1.elim
theorem q_tru {a:AE} {ρ:ASt} {A:AHp} {B:Bool->AHp->Prop}:(aTru a ρ A B)=(a ρ A fun x A1=>truU x A1 B):=rfl
theorem q_trul {A:AHp} {B:Bool->AHp->Prop} {p:Addr}:(truU (.ref p) A B)=(∃ us,A p=some (.lst us)/\B (!us.isEmpty) A):=rfl
theorem q_trut {A:AHp} {B:Bool->AHp->Prop} {us:List U}:(truU (.tup us) A B)=(B (!us.isEmpty) A):=rfl
theorem q_trub {A:AHp} {B:Bool->AHp->Prop} {k:Bool}:(truU (.bl k) A B)=(B k A):=rfl
section
variable {J:AIt} {g:AG} {b:AS} {D:ZbS} {ρ:ASt} {A:AHp}
theorem ZgP (items:List U) (Pv:Nat->ASt->AHp->Prop) (h0:Pv 0 ρ A) (hJ:∀ k ρ A,k<=items.length->Pv k ρ A->J k A items[k]?)
  (hs:∀ k u ρ A,items[k]? = some u->Pv k ρ A->g u ρ A fun ρ2 A2=>b { D with nx:=Pv (k + 1),ct:=Pv (k + 1),bk:=D.nx } ρ2 A2) (hd:∀ ρ A,Pv items.length ρ A->D.nx ρ A):Ze9 J g b D ρ A:=by
 refine ⟨fun k m ρ A=>m=items.length - k/\k<=items.length/\Pv k ρ A,⟨_,rfl,YY _,h0⟩,?_⟩
 rintro k m ρ A ⟨rfl,hk,p⟩
 have j:=hJ k ρ A hk p
 by_cases hlt:k < items.length
 ·rw [Yg hlt] at j
  exact .inr ⟨_,j,Pv (k + 1),fun ρ' A' p'=>⟨items.length - (k + 1),by lia,rfl,hlt,p'⟩,hs k _ ρ A (Yg hlt) p⟩
 ·have e:k=items.length:=by lia
  subst e
  rw [YV (Yh _)] at j
  exact .inl ⟨j,hd ρ A p⟩
theorem for_lst {a:Addr} (us:List U) (Pv:Nat->ASt->AHp->Prop) (h0:Pv 0 ρ A) (hl:∀ k ρ A,k<=us.length->Pv k ρ A->A a=some (.lst us))
  (hs:∀ k u ρ A,us[k]? = some u->Pv k ρ A->g u ρ A fun ρ2 A2=>b { D with nx:=Pv (k + 1),ct:=Pv (k + 1),bk:=D.nx } ρ2 A2) (hd:∀ ρ A,Pv us.length ρ A->D.nx ρ A):Ze9 (jLst a) g b D ρ A :=
 ZgP us Pv h0 (fun k ρ A hk p=>⟨us,hl k ρ A hk p,rfl⟩) hs hd
theorem Ze3 {a:Addr} (us:List U) (Pv:Nat->ASt->AHp->Prop) (h0:Pv 0 ρ A) (hl:∀ k ρ A,k<=us.length->Pv k ρ A->A a=some (.lst us))
  (hs:∀ (k:Nat) u ρ A,us[k]? = some u->Pv k ρ A->g (.tup [.int k,u]) ρ A fun ρ2 A2=>b { D with nx:=Pv (k + 1),ct:=Pv (k + 1),bk:=D.nx } ρ2 A2) (hd:∀ ρ A,Pv us.length ρ A->D.nx ρ A):Ze9 (Zi6 a) g b D ρ A :=
 ZgP (enU us) Pv h0 (fun k ρ A hk p=>⟨us,hl k ρ A (by rw [Zd3] at hk;exact hk) p,rfl⟩) (fun k u ρ A hu p=>by
  rw [Zc1] at hu
  obtain ⟨x,hx,rfl⟩:=Y8.mp hu
  exact hs k x ρ A hx p) (by rw [Zd3];exact hd)
theorem ZeS {us:List U} (Pv:Nat->ASt->AHp->Prop) (h0:Pv 0 ρ A)
  (hs:∀ (k:Nat) u ρ A,us[k]? = some u->Pv k ρ A->g (.tup [.int k,u]) ρ A fun ρ2 A2=>b { D with nx:=Pv (k + 1),ct:=Pv (k + 1),bk:=D.nx } ρ2 A2) (hd:∀ ρ A,Pv us.length ρ A->D.nx ρ A):Ze9 (jFix (enU us)) g b D ρ A :=
 ZgP (enU us) Pv h0 (fun k ρ A hk p=>rfl) (fun k u ρ A hu p=>by
  rw [Zc1] at hu
  obtain ⟨x,hx,rfl⟩:=Y8.mp hu
  exact hs k x ρ A hx p) (by rw [Zd3];exact hd)
theorem for_rng {lo:Int} {n:Nat} (Pv:Nat->ASt->AHp->Prop) (h0:Pv 0 ρ A)
  (hs:∀ (k:Nat) ρ A,k < n->Pv k ρ A->g (.int (lo + k)) ρ A fun ρ2 A2=>b { D with nx:=Pv (k + 1),ct:=Pv (k + 1),bk:=D.nx } ρ2 A2) (hd:∀ ρ A,Pv n ρ A->D.nx ρ A):Ze9 (jFix (rngU lo n)) g b D ρ A :=
 ZgP (rngU lo n) Pv h0 (fun k ρ A hk p=>rfl) (fun k u ρ A hu p=>by
  rw [Zb9] at hu
  by_cases h:k < n
  ·rw [if_pos h] at hu;cases hu;exact hs k ρ A h p
  ·rw [if_neg h] at hu;cases hu) (by rw [rngU_len];exact hd)
theorem for_revA {a:Addr} (us:List U) (Pv:Nat->ASt->AHp->Prop) (h0:Pv 0 ρ A) (hl:∀ k ρ A,k<=us.length->Pv k ρ A->A a=some (.lst us))
  (hs:∀ k u ρ A,us.reverse[k]? = some u->Pv k ρ A->g u ρ A fun ρ2 A2=>b { D with nx:=Pv (k + 1),ct:=Pv (k + 1),bk:=D.nx } ρ2 A2) (hd:∀ ρ A,Pv us.length ρ A->D.nx ρ A):Ze9 (jRevA a us.length) g b D ρ A :=
 ZgP us.reverse Pv h0 (fun k ρ A hk p=>by
  rw [Y5] at hk
  by_cases h:k < us.length
  ·rw [Ybe h]
   exact .inr ⟨h,us,us[us.length - 1 - k]'(by lia),hl k ρ A hk p,Yg (by lia),Yg (by lia)⟩
  ·have e:k=us.length:=by lia
   subst e
   exact .inl ⟨rfl,YV (by simp)⟩) hs (by rw [Y5];exact hd)
noncomputable def whA (Pv:ASt->AHp->Prop) (μ:ASt->AHp->Nat) (b:AS) (D:ZbS) (k:Nat) (ρ:ASt) (A1:AHp):Prop:=∃ N:ASt->AHp->Prop,(∀ ρ' A',N ρ' A'->∃ m',m' < k/\(m'=μ ρ' A'/\Pv ρ' A'))/\b { D with nx:=N,ct:=N,bk:=D.nx } ρ A1
theorem wh_goA {Pv:ASt->AHp->Prop} {μ:ASt->AHp->Nat} {k:Nat} (h:b { D with nx:=fun ρ' A'=>Pv ρ' A'/\μ ρ' A' < k,ct:=fun ρ' A'=>Pv ρ' A'/\μ ρ' A' < k,bk:=D.nx } ρ A):whA Pv μ b D k ρ A :=
 ⟨_,fun ρ' A' ⟨p,l⟩=>⟨_,l,rfl,p⟩,h⟩
theorem while_A {c:AT} (Pv:ASt->AHp->Prop) (μ:ASt->AHp->Nat) (h0:Pv ρ A)
  (hs:∀ ρ A,Pv ρ A->c ρ A fun k A1=>if k=true then whA Pv μ b D (μ ρ A) ρ A1 else D.nx ρ A1):Zi4 c b D ρ A:=by
 refine ⟨fun m ρ A=>m=μ ρ A/\Pv ρ A,⟨_,rfl,h0⟩,?_⟩
 rintro m ρ A ⟨rfl,p⟩
 exact hs ρ A p
end
theorem neA {A:AHp} {a b:Addr} {o:AO} (h:A a=some o) (h':A b=none):a≠b:=fun e=>by rw [e,h'] at h;cases h
section
variable {J:AIt} {g:AG} {tt:AT} {te:AE} {l:Addr} {Q:AVK} {τ:ASt} {A:AHp}
theorem cl_gen (items:List U) (p:Nat->Bool) (f:Nat->U) (T:ASt->Prop) (h0:T τ) (hl:A l=none) (hn:items.length<=100000) (hJ:∀ k A2,k<=items.length->Ext A A2->J k A2 items[k]?)
  (hs : ∀ k u τ A2,items[k]? = some u->T τ->Ext A A2->∀ (Cy:ASt->U->AHp->Prop) (Cn:ASt->AHp->Prop),(p k=true->∀ τ2,T τ2->Cy τ2 (f k) A2)->(p k=false->∀ τ2,T τ2->Cn τ2 A2) ->
   g u τ A2 fun τ2 A3=>tt τ2 A3 fun ok A4=>if ok=true then te τ2 A4 (Cy τ2) else Cn τ2 A4)
  (hd:Q (.ref l) (updA A l (.lst (((List.range items.length).filter p).map f)))):aCL J g tt te l Q τ (updA A l (.lst [])):=by
 refine ⟨fun i m τ A2=>m=items.length - i/\i<=items.length/\T τ/\A2=updA A l (.lst (((List.range i).filter p).map f)),⟨_,rfl,YY _,h0,rfl⟩,?_⟩
 rintro i m τ A2 ⟨rfl,hi,ht,rfl⟩
 have j:=hJ i _ hi (Ext.new (o:=.lst (((List.range i).filter p).map f)) hl)
 by_cases hlt:i < items.length
 ·have hu:items[i]? = some items[i]:=Yg hlt
  rw [hu] at j
  refine .inr ⟨_,j,hs i _ τ _ hu ht (Ext.new hl) _ _ (fun hp τ2 ht2=>⟨_,Zd,?_,_,?_,rfl,hlt,ht2,?_⟩) (fun hp τ2 ht2=>⟨_,?_,rfl,hlt,ht2,?_⟩)⟩
  ·have:(((List.range i).filter p).map f).length<=i:=by rw [Yb];exact YH (List.length_filter_le ..) (by simp)
   have:(100000:Nat) < sizeLine:=by decide
   lia
  ·lia
  ·rw [Zan,List.range_succ,Ydj,Yo];simp [hp]
  ·lia
  ·rw [List.range_succ,Ydj,Yo];simp [hp]
 ·have e:i=items.length:=by lia
  subst e
  rw [YV (Yh _)] at j
  exact .inl ⟨j,hd⟩
theorem cl_map {x0:Option U} {fr:ASt} (items ys:List U) (hlen:ys.length=items.length) (hl:A l=none) (hn:items.length<=100000) (hJ:∀ k A2,k<=items.length->Ext A A2->J k A2 items[k]?)
  (hs:∀ (k:Nat) u y A2,items[k]? = some u->ys[k]? = some y->Ext A A2->∀ Cy:U->AHp->Prop,Cy y A2->te (some u::fr) A2 Cy)
  (hd:Q (.ref l) (updA A l (.lst ys))):aCL J (Zb2 0) Zcr te l Q (x0::fr) (updA A l (.lst [])):=by
 refine cl_gen items (fun _=>true) (fun k=>(ys[k]?).getD .non) (fun τ=>∃ x,τ=x::fr) ⟨_,rfl⟩ hl hn hJ ?_ ?_
 ·rintro k u τ A2 hu ⟨x,rfl⟩ he Cy Cn hy hno
  show if true=true then te (some u::fr) A2 (Cy (some u::fr)) else Cn (some u::fr) A2
  rw [if_pos rfl]
  have hk:k < ys.length:=by rw [hlen];exact (Yq.mp hu).1
  have hyk:ys[k]? = some ys[k]:=Yg hk
  refine hs k u _ A2 hu hyk he _ ?_
  have:=hy rfl (some u::fr) ⟨_,rfl⟩
  rw [hyk] at this
  exact this
 ·have e:((List.range items.length).filter fun _=>true).map (fun k=>(ys[k]?).getD .non)=ys:=by
   rw [Yc0.mpr (fun _ _=>rfl),<- hlen]
   apply Ych
   ·simp
   ·intro i h1 h2;simp [Yg h2]
  rw [e];exact hd
theorem Zbr {x0 x1:Option U} {fr:ASt} (items ys:List U) (hlen:ys.length=items.length) (hl:A l=none) (hn:items.length<=100000) (hJ:∀ k A2,k<=items.length->Ext A A2->J k A2 items[k]?)
  (hs:∀ (k:Nat) u y A2,items[k]? = some u->ys[k]? = some y->Ext A A2->∃ v w,u=.tup [v,w]/\∀ Cy:U->AHp->Prop,Cy y A2->te (some v::some w::fr) A2 Cy)
  (hd:Q (.ref l) (updA A l (.lst ys))):aCL J (bTup 2 (bCons (Zb2 0) (bCons (Zb2 1) bNil))) Zcr te l Q (x0::x1::fr) (updA A l (.lst [])):=by
 refine cl_gen items (fun _=>true) (fun k=>(ys[k]?).getD .non) (fun τ=>∃ x y,τ=x::y::fr) ⟨_,_,rfl⟩ hl hn hJ ?_ ?_
 ·rintro k u τ A2 hu ⟨x,y,rfl⟩ he Cy Cn hy hno
  have hk:k < ys.length:=by rw [hlen];exact (Yq.mp hu).1
  have hyk:ys[k]? = some ys[k]:=Yg hk
  obtain ⟨v,w,rfl,h⟩:=hs k u _ A2 hu hyk he
  refine ⟨[v,w],rfl,rfl,v,[w],rfl,w,[],rfl,rfl,?_⟩
  show if true=true then te (some v::some w::fr) A2 (Cy (some v::some w::fr)) else Cn (some v::some w::fr) A2
  rw [if_pos rfl]
  refine h _ ?_
  have:=hy rfl (some v::some w::fr) ⟨_,_,rfl⟩
  rw [hyk] at this
  exact this
 ·have e:((List.range items.length).filter fun _=>true).map (fun k=>(ys[k]?).getD .non)=ys:=by
   rw [Yc0.mpr (fun _ _=>rfl),<- hlen]
   apply Ych
   ·simp
   ·intro i h1 h2;simp [Yg h2]
  rw [e];exact hd
end
section
variable {X:Cx}
inductive TyW (K:YFr) (H:Hp):V->Value->Prop
 | of {x:V} {t:Value}:TyOf K H x t->TyW K H x t
 | tup {a:Addr} {xs:List V}:SqT K H a xs->TyW K H (.ref a) (.type "tuple")
noncomputable def uIsW (K:YFr):List V->Hp->VK->Prop:=fun xs H Q=>match xs with
 | [x,.ty n]=>∃ t b,TyW K H x t/\PySem.W.kitOne K t (.type n)=some b/\Q (.bl b) H
 | [x,.ref c]=>∃ t b,TyW K H x t/\PySem.W.kitOne K t (.ref c)=some b/\Q (.bl b) H
 | _=>False
theorem c_isW:Zbf X (.builtin "isinstance") (uIsW X.K):=by
 intro pins s σ H xs us Q I r h
 have go:∀ (x:V) (u t:Value) (c:Value) (b:Bool),RelV x u->TyW X.K H x t->PySem.W.kitOne X.K t c=some b->Q (.bl b) H->wpAny (model X.prog X.w) X.A (call (.builtin "isinstance") [u,c]) (EP X pins σ Q) X.xe s:=by
  intro x u t c b rx ty e q
  cases ty with
  | of ty=>exact Zjq I rx ty e fun tk=>⟨.bl b,H,I.tok _,rfl,q⟩
  | tup hq =>
   cases rx
   obtain ⟨its,rv,⟨o,h1,h2,h3⟩,hz⟩:=I.tuple hq
   exact Yab Yda I.kIn ⟨o,h1,h2⟩ e (fun z=>nomatch z) fun tk=>⟨.bl b,H,I.tok _,rfl,q⟩
 unfold uIsW at h
 split at h
 ·obtain ⟨t,b,ty,e,q⟩:=h
  cases r with
  | cons r1 r2 =>
   cases r2 with
   | cons r2 r3 =>
    cases r3;cases r2
    exact go _ _ _ _ _ r1 ty e q
 ·obtain ⟨t,b,ty,e,q⟩:=h
  cases r with
  | cons r1 r2 =>
   cases r2 with
   | cons r2 r3 =>
    cases r3;cases r2
    exact go _ _ _ _ _ r1 ty e q
 ·exact h.elim
theorem k_isW (K:YFr) (h:X.K=K):Zbf X (.builtin "isinstance") (uIsW K):=h ▸ c_isW
end
section
variable {K:YFr}
noncomputable def isTy (u:U) (n:String):Bool:=match u with
 | .non=>n == "NoneType"
 | .bl _=>n == "bool" || n == "int"
 | .int _=>n == "int"
 | .str _=>n == "str"
 | .tup _=>n == "tuple"
 | _=>false
noncomputable def xIsi:List U->AHp->AVK->Prop:=fun us A Q=>match us with
 | [u,.ty n]=>(n="int"\/n="bool"\/n="str"\/n="tuple")/\(match u with | .rol _=>False | .ref _=>False | .ty _=>False | _=>True)/\Q (.bl (isTy u n)) A
 | _=>False
theorem Zgu:AbL K (uIsW K) xIsi:=fun xs us A H Q' Q r g h k=>by
 unfold xIsi at h
 split at h
 ·rename_i u n
  obtain ⟨hn,hu,h⟩:=h
  obtain ⟨v,x,rfl,r1,r2⟩:=r.inv2
  cases r2
  cases r1 with
  | non=>rcases hn with rfl | rfl | rfl | rfl <;> exact ⟨_,_,.of .non,rfl,k _ _ _ _ (.refl H) g (.bl _) h⟩
  | bl b=>rcases hn with rfl | rfl | rfl | rfl <;> exact ⟨_,_,.of (.bl b),rfl,k _ _ _ _ (.refl H) g (.bl _) h⟩
  | int b=>rcases hn with rfl | rfl | rfl | rfl <;> exact ⟨_,_,.of (.int b),rfl,k _ _ _ _ (.refl H) g (.bl _) h⟩
  | str b=>rcases hn with rfl | rfl | rfl | rfl <;> exact ⟨_,_,.of (.str b),rfl,k _ _ _ _ (.refl H) g (.bl _) h⟩
  | tup h1 r1=>rcases hn with rfl | rfl | rfl | rfl <;> exact ⟨_,_,.tup h1,rfl,k _ _ _ _ (.refl H) g (.bl _) h⟩
  | ty _=>exact hu.elim
  | ref _=>exact hu.elim
  | rol _ _=>exact hu.elim
 ·exact h.elim
theorem q_isi {A:AHp} {Q:AVK} {u:U} {n:String}:(xIsi [u,.ty n] A Q)=((n="int"\/n="bool"\/n="str"\/n="tuple")/\(match u with | .rol _=>False | .ref _=>False | .ty _=>False | _=>True)/\Q (.bl (isTy u n)) A):=rfl
noncomputable def mIdx:U->List U->AHp->AVK->Prop:=fun u us A Q=>match us with
 | [.str z]=>∃ (ss:List Str) (j:Nat),(u=.tup (ss.map U.str)\/∃ a,u=.ref a/\A a=some (.lst (ss.map U.str)))/\ss[j]? = some z/\(∀ m,m < j->ss[m]?≠some z)/\Q (.int j) A
 | _=>False
theorem ab_idxL:AbMt K (rIdxS fun x ss H=>∃ a,x=.ref a/\H a=some (.lst (ss.map V.str))) (fun u us A Q=>(∃ a,u=.ref a)/\mIdx u us A Q):=fun x u xs us A H Q' Q r rs g hq0 k=>by
 obtain ⟨⟨a,ea⟩,h⟩:=hq0
 unfold mIdx at h
 split at h
 ·obtain ⟨ss,j,hu,e1,e2,h⟩:=h
  obtain ⟨v,rfl,rv⟩:=rs.inv1
  cases rv
  rcases hu with rfl | ⟨b,rfl,hb⟩
  ·cases ea
  ·cases r
   obtain ⟨vs,h1,r1⟩:=g.list hb
   exact ⟨ss,_,j,⟨b,rfl,by rw [h1,r1.strs]⟩,rfl,e1,e2,k _ _ _ _ (.refl H) g (.int _) h⟩
 ·exact h.elim
end
mutual
noncomputable def Wr.toU:Wr->U
 | .nothing=>.tup [.str "nothing"]
 | .bead c=>.tup [.str "bead",.str c]
 | .side b f=>.tup [.str (Zcs b),f.toU]
 | .pair f g=>.tup [.str "pair",f.toU,g.toU]
 | .many k ps=>.tup [.str (Za2 k),.tup (toUL ps)]
noncomputable def toUL:List Wr->List U
 | []=>[]
 | w::ws=>w.toU::toUL ws
end
theorem Zf3:∀ ws:List Wr,toUL ws=ws.map Wr.toU
 | []=>rfl
 | w::ws=>by rw [toUL,YE,Zf3 ws]
theorem Wr.toU_many (k:Nat) (ps:List Wr):(Wr.many k ps).toU=.tup [.str (Za2 k),.tup (ps.map Wr.toU)]:=by rw [Wr.toU,Zf3]
noncomputable def Wr.few (w:Wr):Prop:=(∀ c,w≠.bead c)/\∀ k ps,w≠.many k ps
theorem Wr.toU_few {w:Wr} (h:w.few):w.toU=.tup (.str w.name::w.parts.map Wr.toU):=by
 cases w with
 | nothing=>rfl
 | bead c=>exact absurd rfl (h.1 c)
 | side b f=>rfl
 | pair f g=>rfl
 | many k ps=>exact absurd rfl (h.2 k ps)
theorem Wr.kinds (w:Wr):(∃ c,w=.bead c)\/(∃ k ps,w=.many k ps)\/w.few:=by
 cases w with
 | bead c=>exact .inl ⟨c,rfl⟩
 | many k ps=>exact .inr (.inl ⟨k,ps,rfl⟩)
 | _=>exact .inr (.inr ⟨fun c=>by simp,fun k ps=>by simp⟩)
theorem ZbC (k:Nat):inU (.str (Za2 k)) [.str "row",.str "bag",.str "choice",.str "ring"]=true:=Zjk (.many k [])
theorem Zbk {w:Wr} (h:∀ k ps,w≠.many k ps):inU (.str w.name) [.str "row",.str "bag",.str "choice",.str "ring"]=false:=by
 have:=Zjk w
 cases w with
 | many k ps=>exact absurd rfl (h k ps)
 | _=>exact this
theorem ZbW {w:Wr} (h:∀ c,w≠.bead c):decide (w.name=Str.ofString "bead")=false:=by
 have:=w.nb h
 simpa using this
theorem nbm (k:Nat):decide (Za2 k=Str.ofString "bead")=false:=by
 have:=Zii k
 simpa using this
theorem tup1 {x:U}:[x].length<=sizeLine:=by show 1<=sizeLine;decide
theorem tup2 {x y:U}:[x,y].length<=sizeLine:=by show 2<=sizeLine;decide
theorem tup3 {x y z:U}:[x,y,z].length<=sizeLine:=by show 3<=sizeLine;decide
theorem ZQ {n:Nat} (h:n<=100000):n<=sizeLine:=YH h (by decide)
theorem Zat {n:Nat} (h:n<=100000):n < sizeLine:=Yb0 h (by decide)
theorem fg {Q:AVK} {u:U} {A:AHp} (h:Q u A):Fg Q u A:=⟨A,Ext.refl A,h⟩
theorem fgx {Q:AVK} {u:U} {A A':AHp} (e:Ext A A') (h:Q u A):Fg Q u A':=⟨A,e,h⟩
theorem iteB {b:Bool} {X Y:Prop} (h1:b=true->X) (h2:b=false->Y):if b=true then X else Y:=by
 cases b
 ·exact iteN (by decide) (h2 rfl)
 ·exact iteP rfl (h1 rfl)
theorem Z8 {X Y:Prop} {b:Bool} (hb:b=true) (h:X):if b=true then X else Y:=iteP hb h
theorem ZP {X Y:Prop} {b:Bool} (hb:b=false) (h:Y):if b=true then X else Y:=iteN (by rw [hb];decide) h
theorem ZiQ {us ws:List U}:cutU (us++ws) (some (us.length:Int)) none=ws:=by
 unfold cutU
 rw [HT.sIx_nat,HT.sIx_none,Yj,YaQ (by lia),List.drop_left,Nat.add_sub_cancel_left,Yaj]
noncomputable def aIdxC (ss:List Str) (l:AA):AE:=fun ρ A Q=>l ρ A fun us A1=>∃ (z:Str) (j:Nat),us=[.str z]/\ss[j]? = some z/\(∀ m,m < j->ss[m]?≠some z)/\Q (.int j) A1
theorem Zi9 {K:YFr} {a:Addr} {tl:TA} {l:AA} (ss:List Str) (ty:∀ H,tyV K "tuple" (.ref a) H) (hq:∀ H,SqT K H a (ss.map V.str)) (hl:AbA K tl l):AbE K (tBM K "tuple" (rIdxS fun x ss H=>∃ a,x=.ref a/\SqT K H a (ss.map V.str)) (tC (.ref a)) tl) (aIdxC ss l):=fun ρ A σ H Q' Q hs g w k =>
 ⟨ty H,hl ρ A σ H _ _ hs g w fun us A1 vs H1 k1 g1 r1 hq0=>by
  obtain ⟨z,j,e,e1,e2,h⟩:=hq0
  subst e
  obtain ⟨v,rfl,rv⟩:=r1.inv1
  cases rv
  exact ⟨ss,z,j,⟨a,rfl,hq H1⟩,rfl,e1,e2,k _ _ _ _ k1 g1 (.int _) h⟩⟩
theorem q_idxC {ss:List Str} {l:AA} {ρ:ASt} {A:AHp} {Q:AVK}:(aIdxC ss l ρ A Q)=(l ρ A fun us A1=>∃ (z:Str) (j:Nat),us=[.str z]/\ss[j]? = some z/\(∀ m,m < j->ss[m]?≠some z)/\Q (.int j) A1):=rfl
theorem q_idxL {A:AHp} {Q:AVK} {p:Addr} {z:Str}:((fun (u:U) (us:List U) (A:AHp) (Q:AVK)=>(∃ a,u=.ref a)/\mIdx u us A Q) (.ref p) [.str z] A Q)=(∃ (ss:List Str) (j:Nat),A p=some (.lst (ss.map U.str))/\ss[j]? = some z/\(∀ m,m < j->ss[m]?≠some z)/\Q (.int j) A):=by
 refine propext ⟨fun ⟨_,ss,j,h,h1,h2,h3⟩=>?_,fun ⟨ss,j,h,h1,h2,h3⟩=>⟨⟨p,rfl⟩,ss,j,.inr ⟨p,rfl,h⟩,h1,h2,h3⟩⟩
 rcases h with h | ⟨a,e,h⟩
 ·cases h
 ·cases e;exact ⟨ss,j,h,h1,h2,h3⟩
theorem Ext.put {A A2:AHp} {a:Addr} {o:AO} (e:Ext A A2):Ext (updA A a o) (updA A2 a o):=fun b u h=>by
 by_cases hb:b=a
 ·subst hb;rw [Zd] at h ⊢;exact h
 ·rw [Zk hb] at h ⊢;exact e b u h
theorem Ext.none {A A2:AHp} {l:Addr} (e:Ext A A2) (h:A2 l=Option.none):A l=Option.none:=by
 cases q:A l with
 | none=>rfl
 | some v=>rw [e l v q] at h;cases h
theorem ZbM {A:AHp} {a l:Addr} {x y:AO} (h:a≠l):updA (updA A a x) l y=updA (updA A l y) a x:=by
 funext b
 unfold updA
 by_cases h1:b=l
 ·rw [if_pos h1,if_neg (fun e=>h (e.symm.trans h1)),if_pos h1]
 ·rw [if_neg h1]
  by_cases h2:b=a
  ·rw [if_pos h2,if_pos h2]
  ·rw [if_neg h2,if_neg h2,if_neg h1]
theorem Zbo {A:AHp} {a:Addr} {o:AO} (h:A a=some o):updA A a o=A:=by
 funext b
 by_cases hb:b=a
 ·subst hb;rw [Zd,h]
 ·rw [Zk hb]
theorem Zfk (j:Int):∃ c:Str,atI [U.str "red",U.str "ash",U.str "blue",U.str "redder"] (j % 4)=some (.str c)/\PyData.strOk c=true:=by
 have h:j % 4=0\/j % 4=1\/j % 4=2\/j % 4=3:=by lia
 rcases h with h | h | h | h <;> rw [h]
 ·exact ⟨"red",Zam (j:=0) rfl,by decide +kernel⟩
 ·exact ⟨"ash",Zam (j:=1) rfl,by decide +kernel⟩
 ·exact ⟨"blue",Zam (j:=2) rfl,by decide +kernel⟩
 ·exact ⟨"redder",Zam (j:=3) rfl,by decide +kernel⟩
theorem side_atU {j:Int} (h0:0<=j) (h1:j < 2):∃ b:Bool,atI [U.str "left",U.str "right"] j=some (.str (Zcs b)):=by
 have h:j=0\/j=1:=by lia
 rcases h with h | h <;> rw [h]
 ·exact ⟨false,Zam (j:=0) rfl⟩
 ·exact ⟨true,Zam (j:=1) rfl⟩
theorem Zez {ns:List Int} {i:Int} (h0:0<=i) (h:i < ns.length):∃ z,atI (ns.map U.int) i=some (.int z)/\ns[i.toNat]? = some z:=by
 obtain ⟨v,h1,h2⟩:=Zhy (xs:=ns.map U.int) (i:=i) h0 (by rw [Yb];exact h)
 rw [Yl] at h2
 obtain ⟨z,hz,rfl⟩:=Y8.mp h2
 exact ⟨z,h1,hz⟩
theorem cl_popsA {l a:Addr} {Q:AVK} {A:AHp} {x0:Option U} {lo:Int} {xs ys:List U} (ha:A a=some (.lst (xs++ys))) (hl:A l=Option.none) (hn:ys.length<=100000)
  (hd:Q (.ref l) (updA (updA A a (.lst xs)) l (.lst ys.reverse))) :
  aCL (jFix (rngU lo ys.length)) (Zb2 0) Zcr (aBM0 isLst mPop (aVar 1)) l Q [x0,some (.ref a)] (updA A l (.lst [])):=by
 have hne:a≠l:=neA ha hl
 refine ⟨fun i m τ A2=>m=ys.length - i/\i<=ys.length/\(∃ x,τ=[x,some (.ref a)])/\A2=updA (updA A a (.lst (xs++ys.take (ys.length - i)))) l (.lst (ys.reverse.take i)),⟨_,rfl,YY _,⟨_,rfl⟩,?_⟩,?_⟩
 ·rw [Nat.sub_zero,Yaj,Zbo ha];rfl
 ·rintro i m τ A2 ⟨rfl,hi,⟨x,rfl⟩,rfl⟩
  by_cases hlt:i < ys.length
  ·refine .inr ⟨.int (lo + i),by show _=_;rw [Zb9,if_pos hlt],?_⟩
   have e1:ys.take (ys.length - i)=ys.take (ys.length - (i + 1))++[ys[ys.length - (i + 1)]'(by lia)]:=by
    have:ys.length - i=(ys.length - (i + 1)) + 1:=by lia
    rw [this,Ybc,Yg (by lia)];rfl
   have e2:ys.reverse.take (i + 1)=ys.reverse.take i++[ys[ys.length - (i + 1)]'(by lia)]:=by
    rw [Ybc,Ybe hlt,show ys.length - 1 - i=ys.length - (i + 1) from by lia,Yg (by lia)];rfl
   rw [q_nm0,Zjy,if_pos rfl,q_bm0,q_var1]
   refine ⟨⟨_,by rw [Zk hne,Zd]⟩,xs++ys.take (ys.length - (i + 1)),ys[ys.length - (i + 1)]'(by lia),by rw [Zk hne,Zd,e1,YM],_,by rw [Zk (Ne.symm hne),Zd],?_,ys.length - (i + 1),by lia,rfl,hlt,⟨_,rfl⟩,?_⟩
   ·refine Zat ?_
    rw [YL,Y5];lia
   ·rw [e2,ZbM (A:=updA A a _) (a:=l) (l:=a) (Ne.symm hne),Zan,Zan]
  ·have e:i=ys.length:=by lia
   subst e
   refine .inl ⟨by show _=_;rw [Zb9,if_neg (by lia)],?_⟩
   rw [Yci,List.take_zero,Y4,Yao (by rw [Y5];exact Yh _)]
   exact hd
theorem ZdV (ws:List Wr):(ws.map fun w=>((w.tups:Nat):Int)).sum=tupsL ws:=by
 induction ws with
 | nil=>rfl
 | cons w ws ih=>rw [YE,List.sum_cons,ih,tupsL];push_cast;rfl
theorem Zap {α β:Type} {f:α->β} {xs:List α} {k:Nat} {u:β} (h:(xs.map f)[k]? = some u):∃ x,xs[k]? = some x/\u=f x:=by
 rw [Yl] at h
 obtain ⟨x,hx,rfl⟩:=Y8.mp h
 exact ⟨x,hx,rfl⟩
theorem ZaV {α:Type} {J:AIt} {te:AE} {l:Addr} {Q:AVK} {A:AHp} {x0:Option U} {fr:ASt} (xs:List α) (f g:α->U) (hl:A l=Option.none) (hn:xs.length<=100000) (hJ:∀ k A2,k<=xs.length->Ext A A2->J k A2 (xs.map f)[k]?)
  (hs:∀ (x:α) A2,x∈xs->Ext A A2->∀ Cy:U->AHp->Prop,Cy (g x) A2->te (some (f x)::fr) A2 Cy)
  (hd:Q (.ref l) (updA A l (.lst (xs.map g)))):aCL J (Zb2 0) Zcr te l Q (x0::fr) (updA A l (.lst [])):=by
 refine cl_map (xs.map f) (xs.map g) (by simp) hl (by simpa using hn) (fun k A2 hk he=>hJ k A2 (by simpa using hk) he) (fun k u y A2 hu hy he Cy hc=>?_) hd
 obtain ⟨x,hx,rfl⟩:=Zap hu
 obtain ⟨x',hx',rfl⟩:=Zap hy
 rw [hx] at hx';cases hx'
 exact hs x A2 (YG hx) he Cy hc
theorem ZbO {P:Program} {w:World} {K:YFr} {mg:Str->Option Value} {base:Heap} {x qual:Str} {st:Stmt} {f:Addr} {fd:FuncData} {N ps:List Str} {k:Nat} {asp:ASp} (F:Fun K x qual st f fd) (S:ZB N ps (defScope st)) (h:∀ us A Q,¬ asp us A Q):FnOk P w K mg base CX0 k f fd ps (spOf K asp) :=
 ⟨fun vs H Q E ⟨us,A,Q',_,_,q,_⟩=>(h us A Q' q).elim,fun A outer s H args us vs Q E _ _ _ _ ⟨ws,A',Q',_,_,q,_⟩=>(h ws A' Q' q).elim⟩
noncomputable def SIt (h:Heap) (t:Bool) (it l:Addr) (k:Nat) (xs:Array Value):Prop:=match t with
 | false=>h.IsListIter it l k/\h.IsList l xs
 | true=>h.IsTupleIter it l k/\h.IsTuple l xs
section
variable {prog:Program} {w:World} {A:Around} {E:Value->Shared->Prop} {s:Shared} {it l:Addr} {k:Nat} {xs:Array Value} {t t1 t2:Bool}
theorem SIt.at {h h':Heap} (q:SIt h t it l k xs) (a:∀ o,h.get? it=some o->h'.get? it=some o) (b:∀ o,h.get? l=some o->h'.get? l=some o):SIt h' t it l k xs:=by
 cases t with
 | false=>exact ⟨Ydk q.1 a,Heap.IsList.at q.2 b⟩
 | true=>exact ⟨Yc1 q.1 a,YbO q.2 b⟩
theorem SIt.but {h h':Heap} {b:Addr} (q:SIt h t it l k xs) (e:Heap.ExtBut b h h') (h1:it≠b) (h2:l≠b):SIt h' t it l k xs:=q.at (fun o z=>e _ o h1 z) fun o z=>e _ o h2 z
theorem ZbQ {x:Value} {Q:Value->Shared->Prop} (q:SIt s.heap t it l k xs) (hl:l≠it) (hx:xs[k]? = some x) (hQ:∀ h',SIt h' t it l (k + 1) xs->Heap.SameBut it s.heap h'->Q x { s with heap:=h' }) :
  wpAny (model prog w) A (Builtin.SmallTypes.nextOf (.ref it)) Q E s:=by
 cases t with
 | false=>exact wpAny_nextOf_list_item q.1 q.2 hx fun h' a b=>hQ h' ⟨a,Heap.IsList.extBut q.2 b.extBut hl⟩ b
 | true=>exact ZdU q.1 q.2 hx fun h' a b=>hQ h' ⟨a,YbO q.2 fun o z=>b.extBut _ o hl z⟩ b
theorem ZdW {Q:Value->Shared->Prop} (hh:A.handled=none) (q:SIt s.heap t it l k xs) (hx:xs[k]? = none)
  (hE:∀ h' e,Heap.ExtBut it s.heap h'->(∃ o,h'.get? e=some o/\o.cls=.type "StopIteration")->E (.ref e) { s with heap:=h' }):wpAny (model prog w) A (Builtin.SmallTypes.nextOf (.ref it)) Q E s:=by
 cases t with
 | false=>exact wpAny_nextOf_list_end hh q.1 q.2 hx hE
 | true=>exact Zet hh q.1 q.2 hx hE
variable {z TI TO i1 i2 l1 l2:Addr} {k1 k2:Nat} {ps qs:Array Value} {a b:Value}
end
noncomputable def SqH (h:Heap) (l:Addr) (xs:Array Value) (t:Bool):Prop:=match t with
 | false=>h.IsList l xs
 | true=>h.IsTuple l xs
noncomputable def tyB:Bool->String
 | true=>"tuple_iterator"
 | false=>"list_iterator"
theorem SqH.push {h:Heap} {l:Addr} {xs:Array Value} {t:Bool} {o:Obj} (q:SqH h l xs t):SqH (h.push o) l xs t:=by
 cases t with
 | false=>exact Heap.IsList.push q _
 | true=>exact YbO q fun u e=>Yd _ e
theorem SqH.lt {h:Heap} {l:Addr} {xs:Array Value} {t:Bool} (q:SqH h l xs t):l < h.objs.size:=by
 cases t with
 | false=>obtain ⟨o,e,_⟩:=q;exact Ym e
 | true=>obtain ⟨o,e,_⟩:=q;exact Ym e
noncomputable def itO (t:Bool) (l:Addr):Obj:={ cls:=.type (tyB t),data:=.fields #[.ref l,.int 0 0] }
theorem SqH.iter {prog:Program} {w:World} {A:Around} {E:Value->Shared->Prop} {s:Shared} {l:Addr} {xs:Array Value} {t:Bool} {Q:Value->Shared->Prop} (q:SqH s.heap l xs t) (h:Q (.ref s.heap.objs.size) { s with heap:=s.heap.push (itO t l) }) :
  wpAny (model prog w) A (pyIter (.ref l)) Q E s:=by
 cases t with
 | false=>exact YaU q h
 | true=>exact Ydl q h
theorem SqH.sit {h h':Heap} {l it:Addr} {xs:Array Value} {t:Bool} (q:SqH h l xs t) (e:h'.get? it=some (itO t l)) (up:∀ o,h.get? l=some o->h'.get? l=some o):SIt h' t it l 0 xs:=by
 cases t with
 | false=>exact ⟨⟨_,e,rfl,rfl⟩,Heap.IsList.at q up⟩
 | true=>exact ⟨⟨_,e,rfl,rfl⟩,YbO q up⟩
noncomputable def zg1 (h:Heap) (t1:Bool) (l1:Addr):Heap:=h.push (itO t1 l1)
noncomputable def zg2 (h:Heap) (t1:Bool) (l1:Addr) (t2:Bool) (l2:Addr):Heap:=(zg1 h t1 l1).push (itO t2 l2)
noncomputable def zg3 (h:Heap) (t1:Bool) (l1:Addr) (t2:Bool) (l2:Addr):Heap:=(zg2 h t1 l1 t2 l2).push { cls:=.type "tuple",data:=.seq #[.ref h.objs.size,.ref (zg1 h t1 l1).objs.size] }
noncomputable def zg4 (h:Heap) (t1:Bool) (l1:Addr) (t2:Bool) (l2:Addr):Heap:=(zg3 h t1 l1 t2 l2).push { cls:=.type "tuple",data:=.seq #[.none,.none] }
noncomputable def zg5 (h:Heap) (t1:Bool) (l1:Addr) (t2:Bool) (l2:Addr):Heap:=(zg4 h t1 l1 t2 l2).push { cls:=.type "zip",data:=.fields #[.none,.bool false,.bool false,.ref (zg2 h t1 l1 t2 l2).objs.size,.ref (zg3 h t1 l1 t2 l2).objs.size] }
theorem newG_zip (l1 l2:Addr) (xs ys:Array Value) (t1 t2:Bool) :
  Meets (Builtin.«zip.__new__» ⟨[.type "zip",.ref l1,.ref l2],[]⟩) (fun _ R s=>SqH s.heap l1 xs t1/\SqH s.heap l2 ys t2 /\
   R (.ok (.ret (.ref (zg4 s.heap t1 l1 t2 l2).objs.size))) { s with heap:=zg5 s.heap t1 l1 t2 l2 }) :=
 .of_wp fun prog w A R s h=>by
  obtain ⟨hp,g,d,tk,os⟩:=s
  obtain ⟨q1,q2,h⟩:=h
  have sb:=sub_zip
  have r1:SqH (Shared.heap ⟨hp,g,d,tk,os⟩) l1 xs t1:=q1
  have r2:SqH (Shared.heap ⟨hp.push (itO t1 l1),g,d,tk,os⟩) l2 ys t2:=q2.push
  wp_walk using SqH.iter r1,SqH.iter r2
  exact ⟨_,rfl,h⟩
section
variable {prog:Program} {w:World} {A:Around} {E:Value->Shared->Prop} {s:Shared}
theorem ZhR {l1 l2:Addr} {xs ys:Array Value} {t1 t2:Bool} {Q:Value->Shared->Prop} (q1:SqH s.heap l1 xs t1) (q2:SqH s.heap l2 ys t2)
  (h : ∀ h',IsZip h' (s.heap.objs.size + 4) (s.heap.objs.size + 2) (s.heap.objs.size + 3) .none->IsPair h' (s.heap.objs.size + 2) (.ref s.heap.objs.size) (.ref (s.heap.objs.size + 1)) ->
   IsPair h' (s.heap.objs.size + 3) .none .none->SIt h' t1 s.heap.objs.size l1 0 xs->SIt h' t2 (s.heap.objs.size + 1) l2 0 ys->(∀ c o,s.heap.get? c=some o->h'.get? c=some o)->Q (.ref (s.heap.objs.size + 4)) { s with heap:=h' }) :
  wpAny (model prog w) A (call (.type "zip") [.ref l1,.ref l2]) Q E s:=by
 refine Ydh F.called_zip (by decide) (F.typeCall_zip_2 _ _) (F.newCall_zip_2 _ _) (fun ob=>F.args_object_init_3 ob _ _) F.entry_zip_new (newG_zip l1 l2 xs ys t1 t2) ⟨q1,q2,?_⟩
 have n1:(zg1 s.heap t1 l1).objs.size=s.heap.objs.size + 1:=YaH ..
 have n2:(zg2 s.heap t1 l1 t2 l2).objs.size=s.heap.objs.size + 2:=by unfold zg2;rw [YaH,n1]
 have n3:(zg3 s.heap t1 l1 t2 l2).objs.size=s.heap.objs.size + 3:=by unfold zg3;rw [YaH,n2]
 have n4:(zg4 s.heap t1 l1 t2 l2).objs.size=s.heap.objs.size + 4:=by unfold zg4;rw [YaH,n3]
 have up:∀ c o,s.heap.get? c=some o->(zg5 s.heap t1 l1 t2 l2).get? c=some o:=fun c o e=>Yd _ (Yd _ (Yd _ (Yd _ (Yd _ e))))
 have p5:(zg5 s.heap t1 l1 t2 l2).get? (zg4 s.heap t1 l1 t2 l2).objs.size=some _:=Yp _ rfl
 have p4:(zg5 s.heap t1 l1 t2 l2).get? (zg3 s.heap t1 l1 t2 l2).objs.size=some _:=Yd _ (Yp _ rfl)
 have p3:(zg5 s.heap t1 l1 t2 l2).get? (zg2 s.heap t1 l1 t2 l2).objs.size=some _:=Yd _ (Yd _ (Yp _ rfl))
 have p2:(zg5 s.heap t1 l1 t2 l2).get? (zg1 s.heap t1 l1).objs.size=some (itO t2 l2):=Yd _ (Yd _ (Yd _ (Yp _ rfl)))
 have p1:(zg5 s.heap t1 l1 t2 l2).get? s.heap.objs.size=some (itO t1 l1):=Yd _ (Yd _ (Yd _ (Yd _ (Yp _ rfl))))
 rw [n2,n3,n4] at p5
 rw [n1,n2] at p3
 rw [n3] at p4
 rw [n1] at p2
 refine (show _/\_ from ?_)
 rw [n4]
 exact ⟨⟨_,p5,rfl⟩,h _ p5 p3 p4 (q1.sit p1 fun o e=>up _ _ e) (q2.sit p2 fun o e=>up _ _ e) up⟩
end
noncomputable def sqB (K:YFr) (H:Hp) (t:Bool) (a:Addr) (xs:List V):Prop:=match t with
 | true=>SqT K H a xs
 | false=>SqL K H a xs
noncomputable def itB (h:Heap) (t:Bool) (it l:Addr) (k:Nat):Prop:=match t with
 | true=>h.IsTupleIter it l k
 | false=>h.IsListIter it l k
section
variable {X:Cx} {pins:List (Addr × Obj)} {σ:St} {H:Hp} {s:Shared} {a:Addr} {xs ys:List V} {t:Bool}
theorem Inv.sqh (I:Inv X pins σ H s) (h:sqB X.K H t a xs):∃ its:List Value,Vals xs its/\SqH s.heap a its.toArray t:=by
 cases t with
 | false =>
  obtain ⟨its,r,pl,_⟩:=I.list h
  exact ⟨its,r,pl.isList⟩
 | true =>
  obtain ⟨its,r,pl,_⟩:=I.tuple h
  exact ⟨its,r,pl⟩
theorem Inv.sqB_inj (I:Inv X pins σ H s) (h:sqB X.K H t a xs) (k:sqB X.K H t a ys):xs=ys:=by
 cases t with
 | false=>exact I.list_inj h k
 | true =>
  obtain ⟨i1,r1,⟨o1,e1,c1,n1,d1⟩,_⟩:=I.tuple h
  obtain ⟨i2,r2,⟨o2,e2,c2,n2,d2⟩,_⟩:=I.tuple k
  rw [e1] at e2
  cases e2
  rw [d1] at d2
  have:i1=i2:=by
   injection d2 with d2
   simpa using d2
  subst this
  exact Vals.inj r1 r2
theorem itB.sit {it:Addr} {k:Nat} (q:itB s.heap t it a k) (I:Inv X pins σ H s) (h:sqB X.K H t a xs):∃ its:List Value,Vals xs its/\SIt s.heap t it a k its.toArray:=by
 obtain ⟨its,r,p⟩:=I.sqh h
 cases t with
 | false=>exact ⟨its,r,q,p⟩
 | true=>exact ⟨its,r,q,p⟩
end
theorem itB.at {h h':Heap} {t:Bool} {it l:Addr} {k:Nat} (q:itB h t it l k) (e:∀ o,h.get? it=some o->h'.get? it=some o):itB h' t it l k:=by
 cases t with
 | false=>exact Ydk q e
 | true=>exact Yc1 q e
theorem itB.obj {h:Heap} {t:Bool} {it l:Addr} {k:Nat} (q:itB h t it l k):∃ o,h.get? it=some o/\∀ v,o.data≠.cell v:=by
 cases t with
 | false=>obtain ⟨o,e,c,d⟩:=q;exact ⟨o,e,fun v z=>by rw [d] at z;cases z⟩
 | true=>obtain ⟨o,e,c,d⟩:=q;exact ⟨o,e,fun v z=>by rw [d] at z;cases z⟩
theorem SIt.it {h:Heap} {t:Bool} {it l:Addr} {k:Nat} {xs:Array Value} (q:SIt h t it l k xs):itB h t it l k:=by
 cases t with
 | false=>exact q.1
 | true=>exact q.1
noncomputable def seqU (A:AHp):U->List U->Prop:=fun u us=>match u with
 | .tup xs=>xs=us
 | .rol xs=>xs=us
 | .ref a=>A a=some (.lst us)
 | _=>False
noncomputable def jZipG (x y:U):AIt:=fun i A r=>∃ us ws,seqU A x us/\seqU A y ws/\r=(zpU us ws)[i]?
noncomputable def yZipG:List U->AHp->(AIt->AHp->Prop)->Prop:=fun us A R=>match us with
 | [x,y]=>(∃ us ws,seqU A x us/\seqU A y ws)/\R (jZipG x y) A
 | _=>False
theorem Zf1 {K:YFr} {H:Hp} {A:AHp} {x:U} {v:V} {us:List U} (r:RU K H x v) (g:HR K H A) (h:seqU A x us):∃ a t,v=.ref a/\∀ (H2:Hp) (A2:AHp) (us2:List U),Kp K H H2->HR K H2 A2->seqU A2 x us2->∃ vs,sqB K H2 t a vs/\RUs K H2 us2 vs:=by
 cases r with
 | tup h1 r1 =>
  refine ⟨_,true,rfl,fun H2 A2 us2 k g2 e=>?_⟩
  cases (show _=us2 from e)
  exact ⟨_,k.t _ _ h1,r1.same k⟩
 | rol h1 r1 =>
  refine ⟨_,false,rfl,fun H2 A2 us2 k g2 e=>?_⟩
  cases (show _=us2 from e)
  exact ⟨_,(k.r _ _ h1).sq,r1.same k⟩
 | ref a =>
  refine ⟨_,false,rfl,fun H2 A2 us2 k g2 e=>?_⟩
  obtain ⟨vs,q1,q2⟩:=g2.list e
  exact ⟨vs,SqL.of q1,q2⟩
 | _=>exact h.elim
theorem q_yzg {x y:U} {A:AHp} {R:AIt->AHp->Prop}:(yZipG [x,y] A R)=((∃ us ws,seqU A x us/\seqU A y ws)/\R (jZipG x y) A):=rfl
theorem Ziq:∀ (us ws:List U),(zpU us ws).length=min us.length ws.length
 | [],ws=>by simp [zpU]
 | _::_,[]=>by simp [zpU]
 | u::us,w::ws=>by simp only [zpU,List.length_cons,Ziq us ws];lia
mutual
noncomputable def Wr.keyU:Wr->U
 | .nothing=>.tup [.int 0,.int 0]
 | .bead c=>.tup [.int 1,.int 1,.str c]
 | .side b f=>.tup [.int f.size,.int (Wr.side b f).kidx,f.keyU]
 | .pair f g=>.tup [.int (Wr.pair f g).size,.int 4,f.keyU,g.keyU]
 | .many k ps=>.tup (.int (Zbd ps)::.int (Wr.many k ps).kidx::Zdg ps)
noncomputable def Zdg:List Wr->List U
 | []=>[]
 | w::ws=>w.keyU::Zdg ws
end
theorem Ze8:∀ ws:List Wr,Zdg ws=ws.map Wr.keyU
 | []=>rfl
 | w::ws=>by rw [Zdg,YE,Ze8 ws]
theorem Wr.keyU_parts (w:Wr) (h:∀ c,w≠.bead c):w.keyU=.tup (.int w.size::.int w.kidx::w.parts.map Wr.keyU):=by
 cases w with
 | bead c=>exact absurd rfl (h c)
 | nothing=>rfl
 | side b f=>rfl
 | pair f g=>rfl
 | many k ps=>simp only [Wr.keyU,Wr.parts,Ze8];rfl
theorem Wr.keyU_head (w:Wr):∃ rest,w.keyU=.tup (.int w.size::rest):=by
 rcases bead_or w with ⟨c,rfl⟩ | h
 ·exact ⟨_,rfl⟩
 ·exact ⟨_,w.keyU_parts h⟩
theorem Zel (ws:List Wr):(ws.map fun w=>((w.size:Nat):Int)).sum=Zbd ws:=by
 induction ws with
 | nil=>rfl
 | cons w ws ih=>rw [YE,List.sum_cons,ih,Zbd];push_cast;rfl
mutual
noncomputable def U.pl:U->Bool
 | .int _=>true
 | .str _=>true
 | .tup us=>decide (us.length<=1000) && plL us
 | _=>false
noncomputable def plL:List U->Bool
 | []=>true
 | u::us=>u.pl && plL us
end
mutual
noncomputable def U.dp:U->Nat
 | .tup us=>1 + dpL us
 | _=>0
noncomputable def dpL:List U->Nat
 | []=>0
 | u::us=>max u.dp (dpL us)
end
mutual
theorem Wr.key_dp:∀ w:Wr,w.keyU.dp<=w.dep
 | .nothing=>by simp [Wr.keyU,U.dp,dpL,Wr.dep]
 | .bead c=>by simp [Wr.keyU,U.dp,dpL,Wr.dep]
 | .side b f=>by have:=f.key_dp;simp [Wr.keyU,U.dp,dpL,Wr.dep];lia
 | .pair f g=>by have:=f.key_dp;have:=g.key_dp;simp [Wr.keyU,U.dp,dpL,Wr.dep];lia
 | .many k ps=>by have:=ZhY ps;simp [Wr.keyU,U.dp,dpL,Wr.dep];lia
theorem ZhY:∀ ws:List Wr,dpL (Zdg ws)<=depL ws
 | []=>Yh _
 | w::ws=>by have:=w.key_dp;have:=ZhY ws;simp only [Zdg,dpL,depL];lia
end
section
variable {A:AHp}
mutual
theorem Wr.duW:∀ w:Wr,DU A w.toU w.toD
 | .nothing=>.tup (.cons (.str _) .nil)
 | .bead c=>.tup (.cons (.str _) (.cons (.str _) .nil))
 | .side b f=>.tup (.cons (.str _) (.cons f.duW .nil))
 | .pair f g=>.tup (.cons (.str _) (.cons f.duW (.cons g.duW .nil)))
 | .many k ps=>.tup (.cons (.str _) (.cons (.tup (duWL ps)) .nil))
theorem duWL:∀ ws:List Wr,DUs A (toUL ws) (toDL ws)
 | []=>.nil
 | w::ws=>.cons w.duW (duWL ws)
end
mutual
theorem Wr.duK:∀ w:Wr,DU A w.keyU w.keyD
 | .nothing=>.tup (.cons (.int _) (.cons (.int _) .nil))
 | .bead c=>.tup (.cons (.int _) (.cons (.int _) (.cons (.str _) .nil)))
 | .side b f=>.tup (.cons (.int _) (.cons (.int _) (.cons f.duK .nil)))
 | .pair f g=>.tup (.cons (.int _) (.cons (.int _) (.cons f.duK (.cons g.duK .nil))))
 | .many k ps=>.tup (.cons (.int _) (.cons (.int _) (duKL ps)))
theorem duKL:∀ ws:List Wr,DUs A (Zdg ws) (ZaO ws)
 | []=>.nil
 | w::ws=>.cons w.duK (duKL ws)
end
end
mutual
theorem Wr.canK:∀ w:Wr,w.ok=true->w.keyD.canLay0=true
 | .nothing,_=>by simp only [Wr.keyD,PyData.canLay0,PyData.canLayAll0];decide
 | .bead c,h=>by simp only [Wr.keyD,PyData.canLay0,PyData.canLayAll0,Ys,YC];simpa [Wr.ok] using h
 | .side b f,h=>by simp only [Wr.ok] at h;simp only [Wr.keyD,PyData.canLay0,PyData.canLayAll0,Ys,YC,f.canK h]
 | .pair f g,h=>by
  simp only [Wr.ok,Ye] at h
  simp only [Wr.keyD,PyData.canLay0,PyData.canLayAll0,Ys,YC,f.canK h.1,g.canK h.2]
 | .many k ps,h=>by simp only [Wr.ok] at h;simp only [Wr.keyD,PyData.canLay0,PyData.canLayAll0,Ys,YC,canKL ps h]
theorem canKL:∀ ws:List Wr,okL ws=true->PyData.canLayAll0 (ZaO ws)=true
 | [],_=>by simp only [ZaO,PyData.canLayAll0]
 | w::ws,h=>by simp only [okL,Ye] at h;simp only [ZaO,PyData.canLayAll0,w.canK h.1,canKL ws h.2,Ys]
end
mutual
theorem Wr.deepK:∀ w:Wr,w.keyD.depth<=w.dep + 1
 | .nothing=>by simp [Wr.keyD,PyData.depth,PyData.depthAll,Wr.dep]
 | .bead c=>by simp [Wr.keyD,PyData.depth,PyData.depthAll,Wr.dep]
 | .side b f=>by have:=f.deepK;simp only [Wr.keyD,PyData.depth,PyData.depthAll,Wr.dep];lia
 | .pair f g=>by have:=f.deepK;have:=g.deepK;simp only [Wr.keyD,PyData.depth,PyData.depthAll,Wr.dep];lia
 | .many k ps=>by have:=ZhU ps;simp only [Wr.keyD,PyData.depth,PyData.depthAll,Wr.dep];lia
theorem ZhU:∀ ws:List Wr,PyData.depthAll (ZaO ws)<=depL ws + 1
 | []=>by simp [ZaO,PyData.depthAll]
 | w::ws=>by have:=w.deepK;have:=ZhU ws;simp only [ZaO,PyData.depthAll,depL];lia
end
mutual
noncomputable def Wr.like:Wr->Wr->Bool
 | .nothing,.nothing=>true
 | .bead c,.bead d=>c == d
 | .side b f,.side b' f'=>b == b' && f.like f'
 | .pair f g,.pair f' g'=>f.like f' && g.like g'
 | .many k ps,.many k' ps'=>(Za2 k == Za2 k') && Zbs ps ps'
 | _,_=>false
noncomputable def Zbs:List Wr->List Wr->Bool
 | [],[]=>true
 | w::ws,v::vs=>w.like v && Zbs ws vs
 | _,_=>false
end
mutual
theorem Wr.like_size:∀ w v:Wr,w.like v=true->w.size=v.size
 | .nothing,.nothing,_=>rfl
 | .bead c,.bead d,_=>rfl
 | .side b f,.side b' f',h=>by simp only [Wr.like,Ye] at h;simp only [Wr.size];exact f.like_size f' h.2
 | .pair f g,.pair f' g',h=>by simp only [Wr.like,Ye] at h;simp only [Wr.size];rw [f.like_size f' h.1,g.like_size g' h.2]
 | .many k ps,.many k' ps',h=>by simp only [Wr.like,Ye] at h;simp only [Wr.size];exact Zch ps ps' h.2
theorem Zch:∀ ws vs:List Wr,Zbs ws vs=true->Zbd ws=Zbd vs
 | [],[],_=>rfl
 | w::ws,v::vs,h=>by simp only [Zbs,Ye] at h;simp only [Zbd];rw [w.like_size v h.1,Zch ws vs h.2]
end
noncomputable def mcode:Nat->Nat
 | 0=>5
 | 1=>6
 | 2=>7
 | _=>8
theorem ZdB (k k':Nat):(Za2 k == Za2 k')=(mcode k == mcode k'):=by
 match k,k' with
 | 0,0=>decide +kernel
 | 0,1=>decide +kernel
 | 0,2=>decide +kernel
 | 0,k' + 3=>show ((Str.ofString "row") == (Str.ofString "ring"))=(5 == 8);decide +kernel
 | 1,0=>decide +kernel
 | 1,1=>decide +kernel
 | 1,2=>decide +kernel
 | 1,k' + 3=>show ((Str.ofString "bag") == (Str.ofString "ring"))=(6 == 8);decide +kernel
 | 2,0=>decide +kernel
 | 2,1=>decide +kernel
 | 2,2=>decide +kernel
 | 2,k' + 3=>show ((Str.ofString "choice") == (Str.ofString "ring"))=(7 == 8);decide +kernel
 | k + 3,0=>show ((Str.ofString "ring") == (Str.ofString "row"))=(8 == 5);decide +kernel
 | k + 3,1=>show ((Str.ofString "ring") == (Str.ofString "bag"))=(8 == 6);decide +kernel
 | k + 3,2=>show ((Str.ofString "ring") == (Str.ofString "choice"))=(8 == 7);decide +kernel
 | k + 3,k' + 3=>show ((Str.ofString "ring") == (Str.ofString "ring"))=(8 == 8);decide +kernel
theorem Zax (k:Nat) (ps:List Wr):(Wr.many k ps).kidx=mcode k:=by
 match k with
 | 0=>rfl
 | 1=>rfl
 | 2=>rfl
 | k + 3=>rfl
theorem ZiI (w v:Wr):(w.name == v.name)=(w.kidx == v.kidx):=by
 have e1:=w.kidx_at
 have e2:=v.kidx_at
 by_cases h:w.kidx=v.kidx
 ·have:=e1.1
  rw [h,e2.1] at this
  rw [Y3 this,h]
  simp
 ·have:w.name≠v.name:=fun e=>by
   rcases Nat.lt_or_gt_of_ne h with q | q
   ·exact e2.2 _ q (by rw [e1.1,e])
   ·exact e1.2 _ q (by rw [e2.1,e])
  rw [Yar.mpr this,Yar.mpr h]
theorem Z6 (x y:Str):PyData.eqv (.str x) (.str y)=(x == y):=by simp only [PyData.eqv]
theorem sname_eq (b b':Bool):(Zcs b == Zcs b')=(b == b'):=by cases b <;> cases b' <;> decide +kernel
theorem ZY (xs ys:List PyData):PyData.eqv (.tuple xs) (.tuple ys)=PyData.eqvAll xs ys:=by simp only [PyData.eqv]
theorem Zt (x y:PyData) (xs ys:List PyData):PyData.eqvAll (x::xs) (y::ys)=(PyData.eqv x y && PyData.eqvAll xs ys):=by simp only [PyData.eqvAll]
theorem ZI:PyData.eqvAll [] []=true:=by simp only [PyData.eqvAll]
theorem ZaA (x:PyData) (xs:List PyData):PyData.eqvAll (x::xs) []=false:=by simp only [PyData.eqvAll]
theorem Zaz (x:PyData) (xs:List PyData):PyData.eqvAll [] (x::xs)=false:=by simp only [PyData.eqvAll]
theorem Zaa (c:Str) (w:Wr):PyData.eqv (.str c) w.toD=false:=by cases w <;> simp [Wr.toD,PyData.eqv]
theorem Zab (c:Str) (w:Wr):PyData.eqv w.toD (.str c)=false:=by cases w <;> simp [Wr.toD,PyData.eqv]
theorem Zad (c:Str) (xs:List PyData):PyData.eqv (.str c) (.tuple xs)=false:=by simp [PyData.eqv]
theorem Zac (c:Str) (xs:List PyData):PyData.eqv (.tuple xs) (.str c)=false:=by simp [PyData.eqv]
theorem sm_ne (b:Bool) (k:Nat):(Zcs b == Za2 k)=false:=by
 have:=ZiI (.side b .nothing) (.many k [])
 rw [Zax] at this
 rw [show (Zcs b == Za2 k)=_ from this]
 match k with
 | 0=>cases b <;> rfl
 | 1=>cases b <;> rfl
 | 2=>cases b <;> rfl
 | k + 3=>cases b <;> rfl
theorem ms_ne (b:Bool) (k:Nat):(Za2 k == Zcs b)=false:=by
 have:=ZiI (.many k []) (.side b .nothing)
 rw [Zax] at this
 rw [show (Za2 k == Zcs b)=_ from this]
 match k with
 | 0=>cases b <;> rfl
 | 1=>cases b <;> rfl
 | 2=>cases b <;> rfl
 | k + 3=>cases b <;> rfl
mutual
theorem Wr.eqvD:∀ w v:Wr,PyData.eqv w.toD v.toD=w.like v
 | .nothing,.nothing=>by simp only [Wr.toD,ZY,Zt,ZI,ZaA,Zaz,Wr.like,Z6,Zaa,Zab,Zad,Zac,YA,YD,Ys,YB,YC]
 | .nothing,.bead c'=>by simp only [Wr.toD,ZY,Zt,ZI,ZaA,Zaz,Wr.like,Z6,Zaa,Zab,Zad,Zac,YA,YD,Ys,YB,YC]
 | .nothing,.side b' f'=>by simp only [Wr.toD,ZY,Zt,ZI,ZaA,Zaz,Wr.like,Z6,Zaa,Zab,Zad,Zac,YA,YD,Ys,YB,YC]
 | .nothing,.pair f' g'=>by simp only [Wr.toD,ZY,Zt,ZI,ZaA,Zaz,Wr.like,Z6,Zaa,Zab,Zad,Zac,YA,YD,Ys,YB,YC]
 | .nothing,.many k' ps'=>by simp only [Wr.toD,ZY,Zt,ZI,ZaA,Zaz,Wr.like,Z6,Zaa,Zab,Zad,Zac,YA,YD,Ys,YB,YC]
 | .bead c,.nothing=>by simp only [Wr.toD,ZY,Zt,ZI,ZaA,Zaz,Wr.like,Z6,Zaa,Zab,Zad,Zac,YA,YD,Ys,YB,YC]
 | .bead c,.bead c'=>by simp only [Wr.toD,ZY,Zt,ZI,ZaA,Zaz,Wr.like,Z6,Zaa,Zab,Zad,Zac,YA,YD,Ys,YB,YC]
 | .bead c,.side b' f'=>by simp only [Wr.toD,ZY,Zt,ZI,ZaA,Zaz,Wr.like,Z6,Zaa,Zab,Zad,Zac,YA,YD,Ys,YB,YC]
 | .bead c,.pair f' g'=>by simp only [Wr.toD,ZY,Zt,ZI,ZaA,Zaz,Wr.like,Z6,Zaa,Zab,Zad,Zac,YA,YD,Ys,YB,YC]
 | .bead c,.many k' ps'=>by simp only [Wr.toD,ZY,Zt,ZI,ZaA,Zaz,Wr.like,Z6,Zaa,Zab,Zad,Zac,YA,YD,Ys,YB,YC]
 | .side b f,.nothing=>by simp only [Wr.toD,ZY,Zt,ZI,ZaA,Zaz,Wr.like,Z6,Zaa,Zab,Zad,Zac,YA,YD,Ys,YB,YC]
 | .side b f,.bead c'=>by simp only [Wr.toD,ZY,Zt,ZI,ZaA,Zaz,Wr.like,Z6,Zaa,Zab,Zad,Zac,YA,YD,Ys,YB,YC]
 | .side b f,.side b' f'=>by simp only [Wr.toD,ZY,Zt,ZI,ZaA,Zaz,Wr.like,Z6,Zaa,Zab,Zad,Zac,YA,YD,Ys,YB,YC,sname_eq,f.eqvD f']
 | .side b f,.pair f' g'=>by simp only [Wr.toD,ZY,Zt,ZI,ZaA,Zaz,Wr.like,Z6,Zaa,Zab,Zad,Zac,YA,YD,Ys,YB,YC]
 | .side b f,.many k' ps'=>by simp only [Wr.toD,ZY,Zt,ZI,ZaA,Zaz,Wr.like,Z6,Zaa,Zab,Zad,Zac,YA,YD,Ys,YB,YC,sm_ne]
 | .pair f g,.nothing=>by simp only [Wr.toD,ZY,Zt,ZI,ZaA,Zaz,Wr.like,Z6,Zaa,Zab,Zad,Zac,YA,YD,Ys,YB,YC]
 | .pair f g,.bead c'=>by simp only [Wr.toD,ZY,Zt,ZI,ZaA,Zaz,Wr.like,Z6,Zaa,Zab,Zad,Zac,YA,YD,Ys,YB,YC]
 | .pair f g,.side b' f'=>by simp only [Wr.toD,ZY,Zt,ZI,ZaA,Zaz,Wr.like,Z6,Zaa,Zab,Zad,Zac,YA,YD,Ys,YB,YC]
 | .pair f g,.pair f' g'=>by simp only [Wr.toD,ZY,Zt,ZI,ZaA,Zaz,Wr.like,Z6,Zaa,Zab,Zad,Zac,YA,YD,Ys,YB,YC,f.eqvD f',g.eqvD g']
 | .pair f g,.many k' ps'=>by simp only [Wr.toD,ZY,Zt,ZI,ZaA,Zaz,Wr.like,Z6,Zaa,Zab,Zad,Zac,YA,YD,Ys,YB,YC]
 | .many k ps,.nothing=>by simp only [Wr.toD,ZY,Zt,ZI,ZaA,Zaz,Wr.like,Z6,Zaa,Zab,Zad,Zac,YA,YD,Ys,YB,YC]
 | .many k ps,.bead c'=>by simp only [Wr.toD,ZY,Zt,ZI,ZaA,Zaz,Wr.like,Z6,Zaa,Zab,Zad,Zac,YA,YD,Ys,YB,YC]
 | .many k ps,.side b' f'=>by simp only [Wr.toD,ZY,Zt,ZI,ZaA,Zaz,Wr.like,Z6,Zaa,Zab,Zad,Zac,YA,YD,Ys,YB,YC,ms_ne]
 | .many k ps,.pair f' g'=>by simp only [Wr.toD,ZY,Zt,ZI,ZaA,Zaz,Wr.like,Z6,Zaa,Zab,Zad,Zac,YA,YD,Ys,YB,YC]
 | .many k ps,.many k' ps'=>by simp only [Wr.toD,ZY,Zt,ZI,ZaA,Zaz,Wr.like,Z6,Zaa,Zab,Zad,Zac,YA,YD,Ys,YB,YC,eqvDL ps ps']
theorem eqvDL:∀ ws vs:List Wr,PyData.eqvAll (toDL ws) (toDL vs)=Zbs ws vs
 | [],[]=>by simp only [toDL,ZI,Zbs]
 | [],_::_=>by simp only [toDL,Zaz,Zbs]
 | _::_,[]=>by simp only [toDL,ZaA,Zbs]
 | w::ws,v::vs=>by simp only [toDL,Zt,Zbs,w.eqvD v,eqvDL ws vs]
end
theorem Zih {w v:Wr} (h:w.like v=true):w.kidx=v.kidx:=by
 cases w <;> cases v <;> simp only [Wr.like,Ye,reduceCtorEq] at h <;> first | rfl | skip
 ·have:=h.1;simp at this;subst this;rfl
 ·rw [Zax,Zax];have:=h.1;rw [ZdB] at this;simpa using this
theorem Zb0 (x y:Int):PyData.eqv (.int x) (.int y)=(x == y):=by simp only [PyData.eqv]
theorem ki (i j:Nat):(((i:Nat):Int) == ((j:Nat):Int))=(i == j):=by
 by_cases h:i=j
 ·subst h;simp
 ·rw [Yar.mpr h,Yar.mpr (by lia)]
theorem kne {w v:Wr} (h:w.kidx≠v.kidx) (l:w.like v=false) (hw:∃ r,w.keyD=.tuple (.int w.size::.int w.kidx::r)) (hv:∃ r,v.keyD=.tuple (.int v.size::.int v.kidx::r)):PyData.eqv w.keyD v.keyD=w.like v:=by
 obtain ⟨r,e⟩:=hw
 obtain ⟨r',e'⟩:=hv
 rw [e,e',ZY,Zt,Zt,Zb0,Zb0,ki,ki,Yar.mpr h,YD,YA,l]
theorem Wr.keyD_h2 (w:Wr):∃ r,w.keyD=.tuple (.int w.size::.int w.kidx::r):=by
 rcases bead_or w with ⟨c,rfl⟩ | h
 ·exact ⟨_,rfl⟩
 ·exact ⟨_,w.keyD_parts h⟩
theorem Zbu (k:Nat):5<=mcode k:=by
 match k with
 | 0=>decide
 | 1=>decide
 | 2=>decide
 | k + 3=>show 5<=8;decide
mutual
theorem Wr.eqvK:∀ w v:Wr,PyData.eqv w.keyD v.keyD=w.like v
 | .nothing,.nothing=>by simp only [Wr.keyD,ZY,Zt,ZI,Zb0,Wr.like,YB,Bool.and_self]
 | .nothing,.bead c'=>kne (by simp [Wr.kidx]) rfl (Wr.keyD_h2 _) (Wr.keyD_h2 _)
 | .nothing,.side b' f'=>kne (by cases b' <;> simp [Wr.kidx]) rfl (Wr.keyD_h2 _) (Wr.keyD_h2 _)
 | .nothing,.pair f' g'=>kne (by simp [Wr.kidx]) rfl (Wr.keyD_h2 _) (Wr.keyD_h2 _)
 | .nothing,.many k' ps'=>kne (by rw [Zax];have:=Zbu k';simp only [Wr.kidx];lia) rfl (Wr.keyD_h2 _) (Wr.keyD_h2 _)
 | .bead c,.nothing=>kne (by simp [Wr.kidx]) rfl (Wr.keyD_h2 _) (Wr.keyD_h2 _)
 | .bead c,.bead c'=>by simp only [Wr.keyD,ZY,Zt,ZI,Zb0,Z6,Wr.like,YB,Ys,YC]
 | .bead c,.side b' f'=>kne (by cases b' <;> simp [Wr.kidx]) rfl (Wr.keyD_h2 _) (Wr.keyD_h2 _)
 | .bead c,.pair f' g'=>kne (by simp [Wr.kidx]) rfl (Wr.keyD_h2 _) (Wr.keyD_h2 _)
 | .bead c,.many k' ps'=>kne (by rw [Zax];have:=Zbu k';simp only [Wr.kidx];lia) rfl (Wr.keyD_h2 _) (Wr.keyD_h2 _)
 | .side b f,.nothing=>kne (by cases b <;> simp [Wr.kidx]) rfl (Wr.keyD_h2 _) (Wr.keyD_h2 _)
 | .side b f,.bead c'=>kne (by cases b <;> simp [Wr.kidx]) rfl (Wr.keyD_h2 _) (Wr.keyD_h2 _)
 | .side b f,.side b' f'=>by
  simp only [Wr.keyD,ZY,Zt,ZI,Zb0,Wr.like,f.eqvK f',Ys,ki]
  cases h:f.like f' with
  | false=>simp only [YA]
  | true=>rw [f.like_size f' h];cases b <;> cases b' <;> simp [Wr.kidx]
 | .side b f,.pair f' g'=>kne (by cases b <;> simp [Wr.kidx]) rfl (Wr.keyD_h2 _) (Wr.keyD_h2 _)
 | .side b f,.many k' ps'=>kne (by rw [Zax];have:=Zbu k';cases b <;> simp [Wr.kidx] <;> lia) rfl (Wr.keyD_h2 _) (Wr.keyD_h2 _)
 | .pair f g,.nothing=>kne (by simp [Wr.kidx]) rfl (Wr.keyD_h2 _) (Wr.keyD_h2 _)
 | .pair f g,.bead c'=>kne (by simp [Wr.kidx]) rfl (Wr.keyD_h2 _) (Wr.keyD_h2 _)
 | .pair f g,.side b' f'=>kne (by cases b' <;> simp [Wr.kidx]) rfl (Wr.keyD_h2 _) (Wr.keyD_h2 _)
 | .pair f g,.pair f' g'=>by
  simp only [Wr.keyD,ZY,Zt,ZI,Zb0,Wr.like,f.eqvK f',g.eqvK g',Ys,YB,YC]
  cases h:f.like f' with
  | false=>simp only [YD,YA]
  | true =>
   cases h2:g.like g' with
   | false=>simp only [YA]
   | true=>simp only [Wr.size];rw [f.like_size f' h,g.like_size g' h2];simp
 | .pair f g,.many k' ps'=>kne (by rw [Zax];have:=Zbu k';simp only [Wr.kidx];lia) rfl (Wr.keyD_h2 _) (Wr.keyD_h2 _)
 | .many k ps,.nothing=>kne (by rw [Zax];have:=Zbu k;simp only [Wr.kidx];lia) rfl (Wr.keyD_h2 _) (Wr.keyD_h2 _)
 | .many k ps,.bead c'=>kne (by rw [Zax];have:=Zbu k;simp only [Wr.kidx];lia) rfl (Wr.keyD_h2 _) (Wr.keyD_h2 _)
 | .many k ps,.side b' f'=>kne (by rw [Zax];have:=Zbu k;cases b' <;> simp [Wr.kidx] <;> lia) rfl (Wr.keyD_h2 _) (Wr.keyD_h2 _)
 | .many k ps,.pair f' g'=>kne (by rw [Zax];have:=Zbu k;simp only [Wr.kidx];lia) rfl (Wr.keyD_h2 _) (Wr.keyD_h2 _)
 | .many k ps,.many k' ps'=>by
  simp only [Wr.keyD,ZY,Zt,Zb0,Wr.like,Zax,eqvKL ps ps',ZdB,ki]
  cases h:Zbs ps ps' with
  | false=>simp only [YA]
  | true=>rw [Zch ps ps' h];simp
theorem eqvKL:∀ ws vs:List Wr,PyData.eqvAll (ZaO ws) (ZaO vs)=Zbs ws vs
 | [],[]=>by simp only [ZaO,ZI,Zbs]
 | [],_::_=>by simp only [ZaO,Zaz,Zbs]
 | _::_,[]=>by simp only [ZaO,ZaA,Zbs]
 | w::ws,v::vs=>by simp only [ZaO,Zt,Zbs,w.eqvK v,eqvKL ws vs]
end
noncomputable def uSeqI (K:YFr):V->Hp->(It->Hp->Prop)->Prop:=fun x H R=>uList K x H R\/uTupI K x H R
section
variable {X:Cx} {tg a:Expr} {te:TE} {ta:TA} {p pos tp:Pos} {elts:List Expr} {k0:Nat}
theorem ZaC (hl:PE X a te):PI X tg a (jOf (uSeqI X.K) te):=by
 intro pins s σ H R I h
 refine thn (hl pins s σ H _ I h) fun v s1 h_q=>?_
 obtain ⟨x,H1,I1,r1,q1⟩:=h_q
 have fp:∀ b∈[s1.heap.objs.size],FpOk X pins H1 b:=fun b hb=>by
  obtain rfl:b=s1.heap.objs.size:=by simpa using hb
  exact I1.fpOk (Yh _) (I1.hok.fresh (Yh _))
 have J1:∀ o,Inv X pins σ H1 { s1 with heap:=s1.heap.push o }:=fun o=>I1.kept (t':=s1.toks) fun b u e=>Yd _ e
 cases x with
 | ref l =>
  cases r1
  rcases q1 with ⟨⟨xs,hq⟩,q⟩ | ⟨⟨xs,hq⟩,q⟩
  ·obtain ⟨its,rv,pl,hz⟩:=I1.list hq
   exact YaU pl.isList ⟨s1.heap.objs.size,[s1.heap.objs.size],_,_,H1,rfl,J1 _,Zjh l _,⟨_,Yp _ rfl,rfl,rfl⟩,fp,q⟩
  ·obtain ⟨its,rv,pl,hz⟩:=I1.tuple hq
   exact Ydl (show s1.heap.IsTuple l its.toArray from pl) ⟨s1.heap.objs.size,[s1.heap.objs.size],_,_,H1,rfl,J1 _,ZgD l _,⟨_,Yp _ rfl,rfl,rfl⟩,fp,q⟩
 | _=>rcases q1 with q | q <;> exact q.elim
end
section
variable {K:YFr}
noncomputable def ySeq:U->AHp->(AIt->AHp->Prop)->Prop:=fun u A R=>match u with
 | .ref a=>(∃ us,A a=some (.lst us))/\R (jLst a) A
 | .rol us=>R (jFix us) A
 | .tup us=>R (jFix us) A
 | _=>False
theorem Zaj:AbY1 K (uSeqI K) ySeq:=fun x v A H R' R r g w k=>by
 cases r with
 | ref a=>exact .inl (Zgj (.ref a) _ A H R' R (.ref a) g w k)
 | rol h1 r1=>exact .inl (Zgj _ _ A H R' R (.rol h1 r1) g w k)
 | tup h1 r1=>exact .inr (ab_ytup _ _ A H R' R (.tup h1 r1) g w k)
 | _=>exact w.elim
noncomputable def ZhF:List U->AHp->(AIt->AHp->Prop)->Prop:=fun us A R=>match us with
 | [.ref a]=>(∃ us,A a=some (.lst us))/\R (Zi6 a) A
 | [.rol us]=>R (jFix (enU us)) A
 | [.tup us]=>R (jFix (enU us)) A
 | _=>False
variable {A:AHp} {R:AIt->AHp->Prop} {p:Addr} {us:List U}
theorem q_ysr:(ySeq (.ref p) A R)=((∃ us,A p=some (.lst us))/\R (jLst p) A):=rfl
theorem q_yso:(ySeq (.rol us) A R)=(R (jFix us) A):=rfl
theorem q_yst:(ySeq (.tup us) A R)=(R (jFix us) A):=rfl
theorem q_yesr:(ZhF [.ref p] A R)=((∃ us,A p=some (.lst us))/\R (Zi6 p) A):=rfl
theorem q_yeso:(ZhF [.rol us] A R)=(R (jFix (enU us)) A):=rfl
theorem q_yest:(ZhF [.tup us] A R)=(R (jFix (enU us)) A):=rfl
end
section
variable {X:Cx}
noncomputable def rExtS (K:YFr):V->List V->Hp->VK->Prop:=fun x vs H Q=>Zff x vs H Q\/rExtT K x vs H Q
theorem Zfm:MtM X "list.extend" (rExtS X.K):=fun pins s σ H x vs v us Q I rx rv h=>by
 rcases h with h | h
 ·exact ZiL pins s σ H x vs v us Q I rx rv h
 ·exact mt_extT pins s σ H x vs v us Q I rx rv h
variable {K:YFr}
noncomputable def mExtS:U->List U->AHp->AVK->Prop:=fun u us A Q=>match u,us with
 | .ref a,[.tup ws]=>∃ xs,A a=some (.lst xs)/\xs.length + ws.length<=sizeLine/\Q .non (updA A a (.lst (xs++ws)))
 | .ref a,[.ref b]=>∃ xs ws,A a=some (.lst xs)/\A b=some (.lst ws)/\xs.length + ws.length<=sizeLine/\Q .non (updA A a (.lst (xs++ws)))
 | _,_=>False
theorem Zd2:AbMt K (rExtS K) mExtS:=fun x u xs us A H Q' Q r rs g h k=>by
 unfold mExtS at h
 split at h
 ·exact .inr (ab_mextT _ _ _ _ A H Q' Q r rs g h k)
 ·exact .inl (ab_mext _ _ _ _ A H Q' Q r rs g h k)
 ·exact h.elim
theorem q_exSt {A:AHp} {Q:AVK} {p:Addr} {us:List U}:(mExtS (.ref p) [.tup us] A Q)=(∃ xs,A p=some (.lst xs)/\xs.length + us.length<=sizeLine/\Q .non (updA A p (.lst (xs++us)))):=rfl
theorem q_exSr {A:AHp} {Q:AVK} {p q:Addr}:(mExtS (.ref p) [.ref q] A Q)=(∃ xs ws,A p=some (.lst xs)/\A q=some (.lst ws)/\xs.length + ws.length<=sizeLine/\Q .non (updA A p (.lst (xs++ws)))):=rfl
end
noncomputable def cutL {α:Type} (xs:List α) (lo hi:Option Int):List α:=(xs.drop (HT.sIx xs.length 0 lo)).take (HT.sIx xs.length xs.length hi - HT.sIx xs.length 0 lo)
theorem ZdH {α:Type} (f:α->U) (xs:List α) (lo hi:Option Int):cutU (xs.map f) lo hi=(cutL xs lo hi).map f:=by
 unfold cutU cutL
 rw [Yb,Yaf,Yag]
theorem ZdR {α:Type} (xs:List α) (lo hi:Option Int):(cutL xs lo hi).length<=xs.length:=by
 unfold cutL
 rw [YL,Yai]
 lia
theorem cutL_mem {α:Type} {xs:List α} {lo hi:Option Int} {x:α} (h:x∈cutL xs lo hi):x∈xs:=List.mem_of_mem_drop (List.mem_of_mem_take h)
theorem eqW {w v:Wr} {A:AHp} {Q:AVK} (h1:w.ok=true) (h2:v.ok=true) (hd:w.dep<=95) (h:Q (.bl (w.like v)) A):Zbg false w.toU v.toU A Q :=
 ⟨w.toD,v.toD,w.duW,v.duW,w.can h1,v.can h2,YH w.deep (by lia),by rw [if_neg (by decide),w.eqvD];exact h⟩
theorem neW {w v:Wr} {A:AHp} {Q:AVK} (h1:w.ok=true) (h2:v.ok=true) (hd:w.dep<=95) (h:Q (.bl (!w.like v)) A):Zbg true w.toU v.toU A Q :=
 ⟨w.toD,v.toD,w.duW,v.duW,w.can h1,v.can h2,YH w.deep (by lia),by rw [if_pos rfl,w.eqvD];exact h⟩
theorem Wr.toU_tup (w:Wr):∃ us,w.toU=.tup us:=by cases w <;> exact ⟨_,rfl⟩
theorem Wr.keyU_tup (w:Wr):∃ us,w.keyU=.tup us:=by cases w <;> exact ⟨_,rfl⟩
theorem q_eqW {w v:Wr} {A:AHp} {Q:AVK}:(xEq w.toU v.toU A Q)=(Zbg false w.toU v.toU A Q):=by
 obtain ⟨a,e⟩:=w.toU_tup
 obtain ⟨b,e'⟩:=v.toU_tup
 rw [e,e'];rfl
theorem q_neW {w v:Wr} {A:AHp} {Q:AVK}:(xNe w.toU v.toU A Q)=(Zbg true w.toU v.toU A Q):=by
 obtain ⟨a,e⟩:=w.toU_tup
 obtain ⟨b,e'⟩:=v.toU_tup
 rw [e,e'];rfl
theorem ZdP:∀ (ws us:List Wr),depL (ws++us)=max (depL ws) (depL us)
 | [],us=>by simp [depL]
 | w::ws,us=>by simp only [List.cons_append,depL,ZdP ws us,Nat.max_assoc]
noncomputable def LtAt (A:Around) (s:Shared) (y x:Value) (b:Bool):Prop:=∀ (prog:Program) (w:World) (E:Value->Shared->Prop) (Q:Value->Shared->Prop),Q (.bool b) s->wpAny (model prog w) A (richCompare .Lt y x) Q E s
noncomputable def lexN (e l:Nat->Bool) (d:Bool):Nat->Nat->Bool
 | _,0=>d
 | i,k + 1=>if e i=true then lexN e l d (i + 1) k else l i
section
open PySem.SeqAt
open PySem.AutoSeq1 (wpAny_loadPart')
open PySem.MeetsSeq PySem.MeetsSeq2 PySem.MeetsSeq3
theorem ZgQ (l b:Addr) (items items2:Array Value) (n n2:Nat) (dd dd2:Option Addr) (sl sl2:Array (Option Value)) (e lt:Nat->Bool) :
  Meets (Builtin.«tuple.__lt__» ⟨[.ref l,.ref b],[]⟩)
   (fun A R s=>s.heap.get? l=some { cls:=.type "tuple",dict:=dd,data:=.seq items n,slots:=sl }/\s.heap.get? b=some { cls:=.type "tuple",dict:=dd2,data:=.seq items2 n2,slots:=sl2 } /\
    (∀ j (h1:j < items.size) (h2:j < items2.size),EqAt A.in1 s items[j] items2[j] (e j))/\(∀ j (h1:j < items.size) (h2:j < items2.size),(∀ i,i < j->e i=true)->e j=false->LtAt A.in1 s items[j] items2[j] (lt j)) /\
    R (.ok (.ret (.bool (lexN e lt (decide (items.size < items2.size)) 0 (min items.size items2.size))))) s) :=
 .of_wp fun prog w A R s h=>by
  obtain ⟨hp,g,d,tk,os⟩:=s;obtain ⟨hl,hb,he,hlt,h⟩:=h
  have f2:=AutoSeq1.sub_tuple_tuple
  have hZ:(items.toList.zip items2.toList).length=min items.size items2.size:=by simp
  wp_walk using YF hl,YF hb,Ycg _ (fun rest b s'=>b.1=none/\s'=⟨hp,g,d,tk,os⟩/\∃ i k,rest=(items.toList.zip items2.toList).drop i/\i + k=min items.size items2.size/\(∀ j,j < i->e j=true) /\
   R (.ok (.ret (.bool (lexN e lt (decide (items.size < items2.size)) i k)))) ⟨hp,g,d,tk,os⟩) _
  case turn =>
   rintro ⟨y,x⟩ rest b s' ⟨hb',rfl,i,k,hr,hk,hall,hR⟩
   have hi:i < (items.toList.zip items2.toList).length:=by
    rcases Nat.lt_or_ge i (items.toList.zip items2.toList).length with q | q
    ·exact q
    ·rw [Yba q] at hr;cases hr
   have hi2:i < min items.size items2.size:=hZ ▸ hi
   rw [YX hi] at hr
   injection hr with h1 h2
   have hyx:y=items[i]'(by lia)/\x=items2[i]'(by lia):=by
    have:(items.toList.zip items2.toList)[i]=(items[i]'(by lia),items2[i]'(by lia)):=by simp
    rw [this] at h1
    injection h1 with a1 a2
    exact ⟨a1,a2⟩
   obtain ⟨rfl,rfl⟩:=hyx
   obtain ⟨k,rfl⟩:∃ k',k=k' + 1:=⟨k - 1,by lia⟩
   simp only [lexN] at hR
   refine Yc (he i (by lia) (by lia) prog w _ _ ?_)
   cases q:e i with
   | true =>
    rw [q,if_pos rfl] at hR
    wp_walk
    exact ⟨rfl,rfl,i + 1,k,h2,by lia,fun j hj=>by
     by_cases hji:j=i
     ·rw [hji];exact q
     ·exact hall j (by lia),hR⟩
   | false =>
    rw [q,if_neg (by decide)] at hR
    have hri:=hlt i (by lia) (by lia) hall q prog w
    wp_walk using hri
    exact ⟨_,rfl,by simpa using hR⟩
  case fin =>
   rintro ⟨b1,b2⟩ s' ⟨hb',rfl,i,k,hr,hk,hall,hR⟩
   simp only at hb'
   subst hb'
   have hi:(items.toList.zip items2.toList).length<=i:=List.drop_eq_nil_iff.mp hr.symm
   obtain rfl:k=0:=by lia
   wp_walk
   exact ⟨_,rfl,by simpa [Builtin.Tuple.tupleCompareSizes,lexN] using hR⟩
  case h =>
   exact ⟨rfl,rfl,0,_,rfl,by lia,fun j hj=>absurd hj (Ycs _),h⟩
theorem Zjc (l b:Addr) (items items2:Array Value) (n n2:Nat) (dd dd2:Option Addr) (sl sl2:Array (Option Value)) (e lt:Nat->Bool) (k:Nat) :
  ∀ i : Nat,i + k=min items.size items2.size->(∀ j,j < i->e j=true)->Meets (Builtin.«list.__eq__.loop» ⟨[.ref l,.ref b,rawInt i,rawInt 0],[]⟩)
   (fun A R s=>s.heap.get? l=some { cls:=.type "list",dict:=dd,data:=.seq items n,slots:=sl }/\s.heap.get? b=some { cls:=.type "list",dict:=dd2,data:=.seq items2 n2,slots:=sl2 } /\
    (∀ j (h1:j < items.size) (h2:j < items2.size),EqAt A.in1 s items[j] items2[j] (e j))/\(∀ j (h1:j < items.size) (h2:j < items2.size),(∀ i,i < j->e i=true)->e j=false->LtAt A.in1 s items[j] items2[j] (lt j)) /\
    R (.ok (.ret (.bool (lexN e lt (decide (items.size < items2.size)) i k)))) s):=by
 induction k with
 | zero =>
  intro i hk hall prog w A R s h
  obtain ⟨hp,g,d,tk,os⟩:=s;obtain ⟨hl,hb,he,hlt,h⟩:=h
  wp_walk using YF hl,YF hb
  by_cases q:i < items.size
  ·have z1:items[((i:Nat):Int).toNat]? = some (items[i]):=by simp [q]
   have z2:items2[((i:Nat):Int).toNat]? = none:=by simp;lia
   rw [z1,z2]
   wp_walk using YF hl,YF hb
   exact h
  ·have z1:items[((i:Nat):Int).toNat]? = none:=by simp;lia
   rw [z1]
   wp_walk using YF hl,YF hb
   exact h
 | succ k ih =>
  intro i hk hall prog w A R s h
  obtain ⟨hp,g,d,tk,os⟩:=s;obtain ⟨hl,hb,he,hlt,h⟩:=h
  wp_walk using YF hl,YF hb
  have b1:i < items.size:=by lia
  have b2:i < items2.size:=by lia
  have z1:items[((i:Nat):Int).toNat]? = some items[i]:=by simp [b1]
  have z2:items2[((i:Nat):Int).toNat]? = some items2[i]:=by simp [b2]
  have hc:((i:Int) + 1)=((i + 1:Nat):Int):=by push_cast;rfl
  simp only [lexN] at h
  rw [z1,z2]
  refine Yc (he i b1 b2 prog w _ _ ?_)
  cases q:e i with
  | true =>
   rw [q,if_pos rfl] at h
   wp_walk
   rw [hc]
   exact ⟨YaN plain_eq_loop _,Ya4 entry_eq_loop (by
    rw [YaM plain_eq_loop _]
    exact ih (i + 1) (by lia) (fun j hj=>by
     by_cases hji:j=i
     ·rw [hji];exact q
     ·exact hall j (by lia)) prog w A R _ ⟨hl,hb,he,hlt,h⟩)⟩
  | false =>
   rw [q,if_neg (by decide)] at h
   have hri:=hlt i b1 b2 hall q prog w
   wp_walk using YF hl,YF hb
   rw [z1,z2]
   wp_walk using hri
   exact h
theorem ZiM (l b:Addr) (items items2:Array Value) (n n2:Nat) (dd dd2:Option Addr) (sl sl2:Array (Option Value)) (e lt:Nat->Bool) :
  Meets (Builtin.«list.__lt__» ⟨[.ref l,.ref b],[]⟩)
   (fun A R s=>s.heap.get? l=some { cls:=.type "list",dict:=dd,data:=.seq items n,slots:=sl }/\s.heap.get? b=some { cls:=.type "list",dict:=dd2,data:=.seq items2 n2,slots:=sl2 } /\
    (∀ j (h1:j < items.size) (h2:j < items2.size),EqAt A.in1 s items[j] items2[j] (e j))/\(∀ j (h1:j < items.size) (h2:j < items2.size),(∀ i,i < j->e i=true)->e j=false->LtAt A.in1 s items[j] items2[j] (lt j)) /\
    R (.ok (.ret (.bool (lexN e lt (decide (items.size < items2.size)) 0 (min items.size items2.size))))) s):=by
 intro prog w A R s h
 obtain ⟨hp,g,d,tk,os⟩:=s;obtain ⟨hl,hb,he,hlt,h⟩:=h
 have f3:=AutoSeq1.sub_list_list
 wp_walk using YF hl,YF hb
 exact ⟨YaN plain_eq_loop _,Ya4 entry_eq_loop (by
  rw [YaM plain_eq_loop _]
  exact Zjc l b items items2 n n2 dd dd2 sl sl2 e lt _ 0 (by lia) (fun j hj=>absurd hj (Ycs _)) prog w A R _ ⟨hl,hb,he,hlt,h⟩)⟩
end
section
open PySem.SeqAt
variable {A:Around} {s:Shared} {l b:Addr} {items items2:Array Value} {e lt:Nat->Bool}
theorem LtAt.tuples (hl:s.heap.IsTuple l items) (hb:s.heap.IsTuple b items2) (hu:A.units < cLine) (he:∀ j (h1:j < items.size) (h2:j < items2.size),EqAt A.in1 s items[j] items2[j] (e j))
  (hlt:∀ j (h1:j < items.size) (h2:j < items2.size),(∀ i,i < j->e i=true)->e j=false->LtAt A.in1 s items[j] items2[j] (lt j)):LtAt A s (.ref l) (.ref b) (lexN e lt (decide (items.size < items2.size)) 0 (min items.size items2.size)):=fun prog w E Q h=>by
 obtain ⟨⟨cls,dd,data,sl⟩,ho,hc,n,hd⟩:=id hl
 obtain ⟨⟨cls2,dd2,data2,sl2⟩,ho2,hc2,n2,hd2⟩:=id hb
 simp only at hc hd hc2 hd2
 subst hc hd hc2 hd2
 refine YcC (op:=.Lt) ⟨_,ho,rfl⟩ ⟨_,ho2,rfl⟩ PySem.F.slot_tuple_lt PySem.F.entry_tuple_lt (PySem.F.args_tuple_lt_2 _ _) (ZgQ l b items items2 n n2 dd dd2 sl sl2 e lt) ⟨ho,ho2,he,hlt,?_⟩ hu
 exact ⟨(fun x=>nomatch x),h⟩
theorem LtAt.lists (hl:s.heap.IsList l items) (hb:s.heap.IsList b items2) (hu:A.units < cLine) (he:∀ j (h1:j < items.size) (h2:j < items2.size),EqAt A.in1 s items[j] items2[j] (e j))
  (hlt:∀ j (h1:j < items.size) (h2:j < items2.size),(∀ i,i < j->e i=true)->e j=false->LtAt A.in1 s items[j] items2[j] (lt j)):LtAt A s (.ref l) (.ref b) (lexN e lt (decide (items.size < items2.size)) 0 (min items.size items2.size)):=fun prog w E Q h=>by
 obtain ⟨⟨cls,dd,data,sl⟩,ho,hc,n,hd⟩:=id hl
 obtain ⟨⟨cls2,dd2,data2,sl2⟩,ho2,hc2,n2,hd2⟩:=id hb
 simp only at hc hd hc2 hd2
 subst hc hd hc2 hd2
 refine YcC (op:=.Lt) ⟨_,ho,rfl⟩ ⟨_,ho2,rfl⟩ PySem.F.slot_list_lt PySem.F.entry_list_lt (PySem.F.args_list_lt_2 _ _) (ZiM l b items items2 n n2 dd dd2 sl sl2 e lt) ⟨ho,ho2,he,hlt,?_⟩ hu
 exact ⟨(fun x=>nomatch x),h⟩
end
mutual
noncomputable def ltv:PyData->PyData->Bool
 | .int i,.int j=>decide (i < j)
 | .str x,.str y=>decide (x.cps.toList < y.cps.toList)
 | .tuple xs,.tuple ys=>ltvA xs ys
 | .list xs,.list ys=>ltvA xs ys
 | _,_=>false
noncomputable def ltvA:List PyData->List PyData->Bool
 | [],[]=>false
 | [],_::_=>true
 | _::_,[]=>false
 | x::xs,y::ys=>if PyData.eqv x y=true then ltvA xs ys else ltv x y
end
mutual
noncomputable def okLt:PyData->PyData->Bool
 | .int _,.int _=>true
 | .str _,.str _=>true
 | .tuple xs,.tuple ys=>ZaZ xs ys
 | .list xs,.list ys=>ZaZ xs ys
 | _,_=>false
noncomputable def ZaZ:List PyData->List PyData->Bool
 | [],_=>true
 | _::_,[]=>true
 | x::xs,y::ys=>if PyData.eqv x y=true then ZaZ xs ys else okLt x y
end
noncomputable def Zcl (xs ys:List PyData) (j:Nat):Bool:=match xs[j]?,ys[j]? with
 | some x,some y=>ltv x y
 | _,_=>false
noncomputable def Zb5 (xs ys:List PyData) (j:Nat):Bool:=match xs[j]?,ys[j]? with
 | some x,some y=>PyData.eqv x y
 | _,_=>false
theorem Zdv (e l e' l':Nat->Bool) (d:Bool) (c:Nat) (he:∀ j,e (j + c)=e' j) (hl:∀ j,l (j + c)=l' j):∀ k i,lexN e l d (i + c) k=lexN e' l' d i k
 | 0,i=>rfl
 | k + 1,i=>by
  simp only [lexN,he,hl]
  rw [show i + c + 1=(i + 1) + c from by lia,Zdv e l e' l' d c he hl k (i + 1)]
theorem ZdD:∀ (xs ys:List PyData),lexN (Zb5 xs ys) (Zcl xs ys) (decide (xs.length < ys.length)) 0 (min xs.length ys.length)=ltvA xs ys
 | [],[]=>by simp [lexN,ltvA]
 | [],y::ys=>by simp [lexN,ltvA]
 | x::xs,[]=>by simp [lexN,ltvA]
 | x :: xs,y::ys=>by
  have ih:=ZdD xs ys
  simp only [List.length_cons,Nat.add_min_add_right,lexN,ltvA]
  have e0:Zb5 (x::xs) (y::ys) 0=PyData.eqv x y:=rfl
  have l0:Zcl (x::xs) (y::ys) 0=ltv x y:=rfl
  rw [e0,l0]
  split
  ·rw [<- ih]
   have:=Zdv (Zb5 (x::xs) (y::ys)) (Zcl (x::xs) (y::ys)) (Zb5 xs ys) (Zcl xs ys) (decide (xs.length < ys.length)) 1 (fun j=>by simp [Zb5]) (fun j=>by simp [Zcl]) (min xs.length ys.length) 0
   rw [<- this]
   have e:decide (xs.length + 1 < ys.length + 1)=decide (xs.length < ys.length):=by simp
   rw [e]
  ·rfl
theorem Za9 {h:Heap}:∀ {vs:List Value} {xs:List PyData} {as:List Addr},ReadsAll h vs xs as->∀ (j:Nat) (h1:j < vs.length),∃ x bs,xs[j]? = some x/\Reads h vs[j] x bs
 | _,_,_,.nil,j,h1=>absurd h1 (Ycs _)
 | _,_,_,.cons r rs,0,_=>⟨_,_,rfl,r⟩
 | _,_,_,.cons r rs,j + 1,h1=>Za9 rs j (Nat.lt_of_succ_lt_succ h1)
theorem ZaW {h:Heap}:∀ {vs:List Value} {xs:List PyData} {as:List Addr},ReadsAll h vs xs as->vs.length=xs.length
 | _,_,_,.nil=>rfl
 | _,_,_,.cons _ rs=>by rw [List.length_cons,List.length_cons,ZaW rs]
theorem ZbL:∀ {xs:List PyData} {j:Nat} {x:PyData},PyData.canLayAll0 xs=true->xs[j]? = some x->x.canLay0=true
 | y :: ys,0,x,h,e=>by
  simp only [PyData.canLayAll0,Ye] at h
  simp at e;subst e;exact h.1
 | y :: ys,j + 1,x,h,e=>by
  simp only [PyData.canLayAll0,Ye] at h
  exact ZbL h.2 (by simpa using e)
theorem ZbI:∀ {xs:List PyData} {j:Nat} {x:PyData},xs[j]? = some x->x.depth<=PyData.depthAll xs
 | y::ys,0,x,e=>by simp at e;subst e;simp only [PyData.depthAll];lia
 | y :: ys,j + 1,x,e=>by
  have:=ZbI (xs:=ys) (j:=j) (x:=x) (by simpa using e)
  simp only [PyData.depthAll];lia
theorem ZfQ:∀ {xs ys:List PyData} {j:Nat} {x y:PyData},ZaZ xs ys=true->xs[j]? = some x->ys[j]? = some y->(∀ i,i < j->Zb5 xs ys i=true)->PyData.eqv x y=false->okLt x y=true
 | a :: xs,b::ys,0,x,y,h,e1,e2,_,q=>by
  simp at e1 e2;subst e1 e2
  simp only [ZaZ] at h
  rw [q,if_neg (by decide)] at h
  exact h
 | a :: xs,b::ys,j + 1,x,y,h,e1,e2,hp,q=>by
  simp only [ZaZ] at h
  have:PyData.eqv a b=true:=hp 0 (by lia)
  rw [this,if_pos rfl] at h
  exact ZfQ h (by simpa using e1) (by simpa using e2) (fun i hi=>by have:=hp (i + 1) (by lia);simpa [Zb5] using this) q
theorem Zcg:∀ (m:Nat) (da db:PyData) (A:Around) (s:Shared) (a b:Value) (as bs:List Addr),da.depth<=m->Reads s.heap a da as->Reads s.heap b db bs->da.canLay0=true->db.canLay0=true->okLt da db=true ->
  A.units + max da.depth db.depth < cLine->LtAt A s a b (ltv da db):=by
 intro m
 induction m with
 | zero =>
  intro da db A s a b as bs hm ra rb ca cb ok hu
  cases ra with
  | int x t =>
   cases rb with
   | int y u=>intro prog w E Q h;exact (YbU (by simpa [ltv] using h):wpAny (model prog w) A (compareOp .Lt (.int x t) (.int y u)) Q E s)
   | _=>simp [okLt] at ok
  | str x t =>
   cases rb with
   | str y u=>intro prog w E Q h;exact (Yc2 (by simpa [ltv] using h):wpAny (model prog w) A (compareOp .Lt (.str x t) (.str y u)) Q E s)
   | _=>simp [okLt] at ok
  | list _ _ _ _=>simp [PyData.depth] at hm
  | tuple _ _ _ _=>simp [PyData.depth] at hm
  | none=>simp [okLt] at ok
  | bool _=>simp [okLt] at ok
  | dict=>cases ca
 | succ m ih =>
  intro da db A s a b as bs hm ra rb ca cb ok hu
  have seq:∀ (vs ws:Array Value) (xs ys:List PyData) (as bs:List Addr),ReadsAll s.heap vs.toList xs as->ReadsAll s.heap ws.toList ys bs->PyData.canLayAll0 xs=true->PyData.canLayAll0 ys=true->ZaZ xs ys=true->PyData.depthAll xs<=m->A.units + (max (PyData.depthAll xs) (PyData.depthAll ys) + 1) < cLine ->
    (∀ j (h1:j < vs.size) (h2:j < ws.size),SeqAt.EqAt A.in1 s vs[j] ws[j] (Zb5 xs ys j))/\(∀ j (h1:j < vs.size) (h2:j < ws.size),(∀ i,i < j->Zb5 xs ys i=true)->Zb5 xs ys j=false->LtAt A.in1 s vs[j] ws[j] (Zcl xs ys j))/\vs.size=xs.length/\ws.size=ys.length:=by
   intro vs ws xs ys as bs r1 r2 c1 c2 ok hd hu
   have l1:=ZaW r1
   have l2:=ZaW r2
   refine ⟨fun j h1 h2=>?_,fun j h1 h2 hp q=>?_,by simpa using l1,by simpa using l2⟩
   ·obtain ⟨x,as1,ex,rx⟩:=Za9 r1 j (by simpa using h1)
    obtain ⟨y,bs1,ey,ry⟩:=Za9 r2 j (by simpa using h2)
    have d1:=ZbI ex
    have:=YdF x y A.in1 s _ _ _ _ rx ry (ZbL c1 ex) (ZbL c2 ey) (by rw [show A.in1.units=A.units + 1 from rfl];lia)
    have e:Zb5 xs ys j=PyData.eqv x y:=by simp [Zb5,ex,ey]
    rw [e]
    simpa using this
   ·obtain ⟨x,as1,ex,rx⟩:=Za9 r1 j (by simpa using h1)
    obtain ⟨y,bs1,ey,ry⟩:=Za9 r2 j (by simpa using h2)
    have e:Zb5 xs ys j=PyData.eqv x y:=by simp [Zb5,ex,ey]
    have e2:Zcl xs ys j=ltv x y:=by simp [Zcl,ex,ey]
    rw [e] at q
    rw [e2]
    have d1:=ZbI ex
    have d2:=ZbI ey
    have:=ih x y A.in1 s _ _ _ _ (by lia) rx ry (ZbL c1 ex) (ZbL c2 ey) (ZfQ ok ex ey hp q) (by rw [show A.in1.units=A.units + 1 from rfl];lia)
    simpa using this
  cases ra with
  | int x t =>
   cases rb with
   | int y u=>intro prog w E Q h;exact (YbU (by simpa [ltv] using h):wpAny (model prog w) A (compareOp .Lt (.int x t) (.int y u)) Q E s)
   | _=>simp [okLt] at ok
  | str x t =>
   cases rb with
   | str y u=>intro prog w E Q h;exact (Yc2 (by simpa [ltv] using h):wpAny (model prog w) A (compareOp .Lt (.str x t) (.str y u)) Q E s)
   | _=>simp [okLt] at ok
  | list k1 k2 k3 k4 =>
   cases rb with
   | list j1 j2 j3 j4 =>
    simp only [PyData.depth] at hm hu
    simp only [PyData.canLay0] at ca cb
    simp only [okLt] at ok
    obtain ⟨h1,h2,h3,h4⟩:=seq _ _ _ _ _ _ k4 j4 ca cb ok (by lia) (by lia)
    have:=LtAt.lists ⟨_,k1,k2,_,k3⟩ ⟨_,j1,j2,_,j3⟩ (by lia) h1 h2
    rw [h3,h4,ZdD] at this
    simpa [ltv] using this
   | _=>simp [okLt] at ok
  | tuple k1 k2 k3 k4 =>
   cases rb with
   | tuple j1 j2 j3 j4 =>
    simp only [PyData.depth] at hm hu
    simp only [PyData.canLay0] at ca cb
    simp only [okLt] at ok
    obtain ⟨h1,h2,h3,h4⟩:=seq _ _ _ _ _ _ k4 j4 ca cb ok (by lia) (by lia)
    have:=LtAt.tuples ⟨_,k1,k2,_,k3⟩ ⟨_,j1,j2,_,j3⟩ (by lia) h1 h2
    rw [h3,h4,ZdD] at this
    simpa [ltv] using this
   | _=>simp [okLt] at ok
  | none=>simp [okLt] at ok
  | bool _=>simp [okLt] at ok
  | dict=>cases ca
noncomputable def rLtD (K:YFr):R2:=fun x y H Q=>∃ d e,Rep K H d x/\Rep K H e y/\d.canLay0=true/\e.canLay0=true/\okLt d e=true/\d.depth<=190/\e.depth<=190/\Q (.bl (ltv d e)) H
noncomputable def uLtD (K:YFr):R2:=fun x y H Q=>match x,y with
 | .ref a,y=>rLtD K (.ref a) y H Q
 | x,y=>uLt x y H Q
section
variable {X:Cx}
theorem op_ltD (hu:X.A.units + 200 < cLine):OpR X (compareOp .Lt) (rLtD X.K):=by
 intro pins s σ H x y v u Q I rx ry h
 obtain ⟨d,e,h1,h2,c1,c2,ok,d1,d2,q⟩:=h
 obtain ⟨as,ra⟩:=Rep.reads I h1 rx
 obtain ⟨bs,rb⟩:=Rep.reads I h2 ry
 exact Zcg _ d e X.A s v u as bs (Yh _) ra rb c1 c2 ok (by lia) X.prog X.w X.xe _ ⟨.bl _,H,I,rfl,q⟩
theorem o_ltD {k:Nat} (hr:Room k X.A):OpR X (compareOp .Lt) (uLtD X.K):=((op_ltD (by have:=hr.un;lia)).or o_lt).imp fun x y H Q q=>by
 unfold uLtD at q
 split at q
 ·exact .inl q
 ·exact .inr q
end
noncomputable def xLtD:AR2:=fun u w A Q=>match u,w with
 | .int i,.int j=>Q (.bl (decide (i < j))) A
 | .str i,.str j=>Q (.bl (decide (i.cps.toList < j.cps.toList))) A
 | .tup us,.tup ws=>∃ d e,DU A (.tup us) d/\DU A (.tup ws) e/\d.canLay0=true/\e.canLay0=true/\okLt d e=true/\d.depth<=190/\e.depth<=190/\Q (.bl (ltv d e)) A
 | .ref a,.ref b=>∃ d e,DU A (.ref a) d/\DU A (.ref b) e/\d.canLay0=true/\e.canLay0=true/\okLt d e=true/\d.depth<=190/\e.depth<=190/\Q (.bl (ltv d e)) A
 | _,_=>False
theorem ab_ltD {K:YFr}:AbR K (uLtD K) xLtD:=fun x y u w A H Q' Q hu hw g h k=>by
 unfold xLtD at h
 split at h
 ·cases hu;cases hw;exact k _ _ _ _ (.refl H) g (.bl _) h
 ·cases hu;cases hw;exact k _ _ _ _ (.refl H) g (.bl _) h
 ·obtain ⟨d,e,h1,h2,c1,c2,ok,d1,d2,q⟩:=h
  have q1:=h1.rep g hu
  have q2:=h2.rep g hw
  cases hu
  exact ⟨d,e,q1,q2,c1,c2,ok,d1,d2,k _ _ _ _ (.refl H) g (.bl _) q⟩
 ·obtain ⟨d,e,h1,h2,c1,c2,ok,d1,d2,q⟩:=h
  have q1:=h1.rep g hu
  have q2:=h2.rep g hw
  cases hu
  exact ⟨d,e,q1,q2,c1,c2,ok,d1,d2,k _ _ _ _ (.refl H) g (.bl _) q⟩
 ·exact h.elim
section
variable {A:AHp} {Q:AVK} {i j:Int} {x y:Str} {us ws:List U} {p q:Addr}
theorem q_ltDi:(xLtD (.int i) (.int j) A Q)=(Q (.bl (decide (i < j))) A):=rfl
theorem q_ltDs:(xLtD (.str x) (.str y) A Q)=(Q (.bl (decide (x.cps.toList < y.cps.toList))) A):=rfl
theorem q_ltDt:(xLtD (.tup us) (.tup ws) A Q)=(∃ d e,DU A (.tup us) d/\DU A (.tup ws) e/\d.canLay0=true/\e.canLay0=true/\okLt d e=true/\d.depth<=190/\e.depth<=190/\Q (.bl (ltv d e)) A):=rfl
theorem q_ltDr:(xLtD (.ref p) (.ref q) A Q)=(∃ d e,DU A (.ref p) d/\DU A (.ref q) e/\d.canLay0=true/\e.canLay0=true/\okLt d e=true/\d.depth<=190/\e.depth<=190/\Q (.bl (ltv d e)) A):=rfl
end
end L2
set_option maxHeartbeats 4000000
namespace SortA
open PySem PySem.W PyProof.Rows
noncomputable def runT {α:Type} (lt:Nat->Nat->Bool):KasT α->α
 | .ret a=>a
 | .ask i j k=>runT lt (k (lt i j))
theorem Zby {α β:Type} (lt:Nat->Nat->Bool) (f:α->KasT β):∀ t:KasT α,runT lt (t.bind f)=runT lt (f (runT lt t))
 | .ret _=>rfl
 | .ask i j k=>by
  show runT lt ((k (lt i j)).bind f)=_
  exact Zby lt f _
noncomputable def AllP (n:Nat) {α:Type} (P:α->Prop):KasT α->Prop
 | .ret a=>P a
 | .ask i j k=>i < n/\j < n/\∀ b,AllP n P (k b)
theorem AllP.bind {n:Nat} {α β:Type} {P:α->Prop} {R:β->Prop} {f:α->KasT β} (hf:∀ a,P a->AllP n R (f a)):∀ t:KasT α,AllP n P t->AllP n R (t.bind f)
 | .ret a,h=>hf a h
 | .ask _ _ k,h=>⟨h.1,h.2.1,fun b=>AllP.bind hf (k b) (h.2.2 b)⟩
theorem wpT {α:Type} {cmp:Nat->Nat->(Bool->Shared->Prop)->Shared->Prop} {I:Shared->Prop} {lt:Nat->Nat->Bool} {n:Nat}
  (hc:∀ i j (C:Bool->Shared->Prop) (s:Shared),i < n->j < n->I s->(∀ s',I s'->C (lt i j) s')->cmp i j C s)
  {Q:α->Shared->Prop} {P:α->Prop}:∀ (t:KasT α) (s:Shared),AllP n P t->I s->(∀ s',I s'->Q (runT lt t) s')->t.kasWp cmp Q s
 | .ret _,s,_,hs,hq=>hq s hs
 | .ask i j k,s,hn,hs,hq=>hc i j _ s hn.1 hn.2.1 hs fun s' hs'=>wpT hc (k (lt i j)) s' (hn.2.2 _) hs' hq
noncomputable def PB (n:Nat) (p:Array Nat):Prop:=1<=n/\p.size=n/\∀ x∈p.toList,x < n
theorem PB.at {n:Nat} {p:Array Nat} (h:PB n p) (k:Nat):p.getD k 0 < n:=by
 by_cases hk:k < p.size
 ·have e:p.getD k 0=p[k]'hk:=by simp [Array.getD,hk]
  rw [e]
  exact h.2.2 _ (by simp)
 ·have e:p.getD k 0=0:=by simp [Array.getD,hk]
  rw [e];exact h.1
theorem PB.rev {n:Nat} {p:Array Nat} (h:PB n p) (i j:Nat):PB n (kas_rev p i j) :=
 ⟨h.1,(kas_rev_size i j).trans h.2.1,fun x hx=>h.2.2 x ((YaT.mp (mirror_perm p i j ((j - i) / 2))).mem_iff.mp hx)⟩
theorem PB.bub {n:Nat} {p:Array Nat} (h:PB n p) (i j:Nat):PB n (bubble p i j) :=
 ⟨h.1,(bubble_size p i j).trans h.2.1,fun x hx=>h.2.2 x ((YaT.mp (bubble_perm p i j)).mem_iff.mp hx)⟩
theorem ZfI {n:Nat} {p:Array Nat} (h:PB n p):∀ f m,AllP n (fun _=>True) (kas_asc p f m)
 | 0,_=>trivial
 | f + 1,m=>⟨h.at _,h.at _,fun b=>by cases b with
  | true=>exact trivial
  | false=>exact ZfI h f (m + 1)⟩
theorem Zcz {n:Nat}:∀ (f:Nat) (p:Array Nat) (m q:Nat),PB n p->AllP n (fun r=>PB n r.1) (kas_desc f p m q)
 | 0,_,_,_,h=>h
 | f + 1, p,m,q,h=>⟨h.at _,h.at _,fun b=>by
   cases b with
   | true =>
    show AllP n _ (if true=true then (if q > 0 then kas_desc f (kas_rev p (m - (q + 1)) m) (m + 1) 0 else kas_desc f p (m + 1) 0) else _)
    rw [if_pos rfl]
    by_cases hq:q > 0
    ·rw [if_pos hq];exact Zcz f _ _ _ (h.rev _ _)
    ·rw [if_neg hq];exact Zcz f _ _ _ h
   | false=>exact ⟨h.at _,h.at _,fun d=>by
     cases d with
     | true=>exact h
     | false=>exact Zcz f _ _ _ h⟩⟩
theorem Zfd {n m:Nat} {p:Array Nat} (h:PB n p):AllP n (fun r=>PB n r.2) (kas_tail3 m n p):=by
 refine AllP.bind (fun x _=>?_) _ (ZfI (h.rev 0 m) _ _)
 exact h.rev 0 m
theorem Zck {n m:Nat} {p:Array Nat} (h:PB n p):AllP n (fun r=>PB n r.2) (kas_descPart m n p):=by
 refine AllP.bind (fun r hr=>?_) _ (Zcz _ _ _ _ h)
 split
 ·exact Zfd (hr.rev _ _)
 ·exact Zfd hr
theorem ZhL {n:Nat} {p:Array Nat} (h:PB n p):AllP n (fun r=>PB n r.2) (kas_count n p):=by
 refine AllP.bind (fun r _=>?_) _ (ZfI h _ _)
 split
 ·exact h
 ·split
  ·exact ⟨h.at _,h.at _,fun b=>by
    cases b with
    | true=>exact h
    | false=>exact Zck (h.rev _ _)⟩
  ·exact Zck h
theorem ZcE {n:Nat} {p:Array Nat} (h:PB n p) (k:Nat):∀ f l r,AllP n (fun _=>True) (kas_place p k f l r)
 | 0,_,_=>trivial
 | f + 1, l,r=>by
  unfold kas_place
  split
  ·exact trivial
  ·exact ⟨h.at _,h.at _,fun b=>by
    cases b with
    | true=>exact ZcE h k f _ _
    | false=>exact ZcE h k f _ _⟩
theorem Zhw {n:Nat}:∀ (f:Nat) (p:Array Nat) (k:Nat),PB n p->AllP n (fun r=>PB n r) (kas_bin f p k)
 | 0,_,_,h=>h
 | f + 1,_,k,h=>AllP.bind (fun _ _=>Zhw f _ (k + 1) (h.bub _ _)) _ (ZcE h k _ _ _)
theorem all_sort {n:Nat} (hn:1<=n):AllP n (fun r=>PB n r) (kas_sort n):=by
 refine AllP.bind (fun r hr=>?_) _ (ZhL ⟨hn,by simp,fun x hx=>by simpa using hx⟩)
 split
 ·exact Zhw _ _ _ hr
 ·exact hr
structure Ord (n:Nat) (lt:Nat->Nat->Bool):Prop where
 tot:∀ i j,i < n->j < n->lt i j=true->lt j i=false
 tr:∀ i j k,i < n->j < n->k < n->lt j i=false->lt k j=false->lt k i=false
section
variable {n:Nat} {lt:Nat->Nat->Bool}
noncomputable def Pm (n:Nat) (p:Array Nat):Prop:=p.toList.Perm (List.range n)
theorem Pm.size {p:Array Nat} (h:Pm n p):p.size=n:=by
 have:=h.length_eq;simpa using this
theorem Pm.inb {p:Array Nat} (h:Pm n p) (i:Nat) (hi:i < n):p.getD i 0 < n:=by
 have hs:=h.size
 have e:p.getD i 0=p[i]'(by lia):=by simp [Array.getD,hs,hi]
 rw [e]
 have hm:p[i]'(by lia)∈p.toList:=by simp
 have:=h.mem_iff.mp hm
 simpa using this
theorem Pm.start:Pm n (List.toArray (List.range n)):=by unfold Pm;simp
theorem Pm.rev {p:Array Nat} (h:Pm n p) (i j:Nat):Pm n (kas_rev p i j):=by
 unfold Pm kas_rev
 have e:=mirror_perm p i j ((j - i) / 2)
 exact (YaT.mp e).trans h
theorem Pm.bub {p:Array Nat} (h:Pm n p) (i j:Nat):Pm n (bubble p i j):=by
 unfold Pm
 have e:=bubble_perm p i j
 exact (YaT.mp e).trans h
theorem ZbY {p:Array Nat} {k:Nat}:p.getD k 0=(p[k]?).getD 0:=by simp
theorem ZfT {p:Array Nat} {i j:Nat} (hj:j<=p.size) (k:Nat):(kas_rev p i j).getD k 0=if i<=k/\k < j then p.getD (i + j - 1 - k) 0 else p.getD k 0:=by
 rw [ZbY,ZbY,ZbY]
 unfold kas_rev
 rw [getElem?_mirror_all hj]
 split <;> rfl
theorem bub_at {p:Array Nat} {src:Nat} (hs:src < p.size) (d:Nat) (hd:d<=src) (k:Nat) :
  (bubble p src d).getD k 0=if k=src - d then p.getD src 0 else if src - d < k/\k<=src then p.getD (k - 1) 0 else p.getD k 0:=by
 rw [ZbY,ZbY,ZbY,ZbY,getElem?_bubble hs d hd]
 repeat' split
 all_goals rfl
noncomputable def Le (lt:Nat->Nat->Bool) (p:Array Nat) (i j:Nat):Prop:=lt (p.getD j 0) (p.getD i 0)=false
noncomputable def Up (lt:Nat->Nat->Bool) (p:Array Nat) (m:Nat):Prop:=∀ i j,i < j->j < m->Le lt p i j
noncomputable def Dn (lt:Nat->Nat->Bool) (p:Array Nat) (m:Nat):Prop:=∀ i j,i < j->j < m->Le lt p j i
theorem Le.trans (O:Ord n lt) {p:Array Nat} (hp:Pm n p) {i j k:Nat} (hi:i < n) (hj:j < n) (hk:k < n) (a:Le lt p i j) (b:Le lt p j k):Le lt p i k :=
 O.tr _ _ _ (hp.inb i hi) (hp.inb j hj) (hp.inb k hk) a b
theorem Le.self (O:Ord n lt) {p:Array Nat} (hp:Pm n p) {i:Nat} (hi:i < n):Le lt p i i:=by
 unfold Le
 cases h:lt (p.getD i 0) (p.getD i 0) with
 | false=>rfl
 | true=>have e:=O.tot _ _ (hp.inb i hi) (hp.inb i hi) h;rw [h] at e;exact e
theorem Le.of (O:Ord n lt) {p:Array Nat} (hp:Pm n p) {i j:Nat} (hi:i < n) (hj:j < n) (h:lt (p.getD i 0) (p.getD j 0)=true):Le lt p i j :=
 O.tot _ _ (hp.inb i hi) (hp.inb j hj) h
theorem Up.snoc (O:Ord n lt) {p:Array Nat} (hp:Pm n p) {m:Nat} (h1:1<=m) (hm:m < n) (h:Up lt p m) (hl:Le lt p (m - 1) m):Up lt p (m + 1):=by
 intro i j hij hj
 by_cases hjm:j < m
 ·exact h i j hij hjm
 ·obtain rfl:j=m:=by lia
  by_cases hi:i=j - 1
  ·rw [hi];exact hl
  ·exact Le.trans O hp (by lia) (by lia) (by lia) (h i (j - 1) (by lia) (by lia)) hl
theorem Dn.snoc (O:Ord n lt) {p:Array Nat} (hp:Pm n p) {m:Nat} (h1:1<=m) (hm:m < n) (h:Dn lt p m) (hl:Le lt p m (m - 1)):Dn lt p (m + 1):=by
 intro i j hij hj
 by_cases hjm:j < m
 ·exact h i j hij hjm
 ·obtain rfl:j=m:=by lia
  by_cases hi:i=j - 1
  ·rw [hi];exact hl
  ·exact Le.trans O hp (by lia) (by lia) (by lia) hl (h i (j - 1) (by lia) (by lia))
theorem Ziw (O:Ord n lt) {p:Array Nat} (hp:Pm n p):∀ (f m:Nat),1<=m->m + f<=n->Up lt p m ->
  m <= runT lt (kas_asc p f m)/\runT lt (kas_asc p f m)<=m + f/\Up lt p (runT lt (kas_asc p f m)) /\
   (runT lt (kas_asc p f m) < m + f->lt (p.getD (runT lt (kas_asc p f m)) 0) (p.getD (runT lt (kas_asc p f m) - 1) 0)=true)
 | 0,m,_,_,hu=>⟨Yh _,Yh _,hu,fun h=>absurd h (YaR _)⟩
 | f + 1, m,h1,hf,hu=>by
  cases hc:lt (p.getD m 0) (p.getD (m - 1) 0) with
  | true =>
   have e:runT lt (kas_asc p (f + 1) m)=m:=by
    show runT lt (if lt (p.getD m 0) (p.getD (m - 1) 0)=true then KasT.ret m else kas_asc p f (m + 1))=m
    rw [if_pos hc];rfl
   rw [e]
   exact ⟨Yh _,by lia,hu,fun _=>hc⟩
  | false =>
   have e:runT lt (kas_asc p (f + 1) m)=runT lt (kas_asc p f (m + 1)):=by
    show runT lt (if lt (p.getD m 0) (p.getD (m - 1) 0)=true then KasT.ret m else kas_asc p f (m + 1))=_
    rw [if_neg (by rw [hc];simp)]
   rw [e]
   obtain ⟨a,b,c,d⟩:=Ziw O hp f (m + 1) (by lia) (by lia) (hu.snoc O hp h1 (by lia) hc)
   exact ⟨by lia,by lia,c,fun h=>d (by lia)⟩
noncomputable def Lk (lt:Nat->Nat->Bool) (p:Array Nat) (a b:Nat):Prop:=∀ i j,a<=i->i < b->a<=j->j < b->Le lt p i j
theorem Dn.rev {p:Array Nat} (hp:Pm n p) {a b m:Nat} (hb:b<=m) (hm:m<=n) (h:Dn lt p m) (hk:Lk lt p a b):Dn lt (kas_rev p a b) m:=by
 have hs:=hp.size
 intro i j hij hj
 unfold Le
 rw [ZfT (by lia),ZfT (by lia)]
 by_cases hi:a<=i/\i < b
 ·rw [if_pos hi]
  by_cases hj':a<=j/\j < b
  ·rw [if_pos hj'];exact hk _ _ (by lia) (by lia) (by lia) (by lia)
  ·rw [if_neg hj'];exact h _ _ (by lia) (by lia)
 ·rw [if_neg hi]
  by_cases hj':a<=j/\j < b
  ·rw [if_pos hj'];exact h _ _ (by lia) (by lia)
  ·rw [if_neg hj'];exact h _ _ hij hj
theorem Dn.up {p:Array Nat} {m:Nat} (hm:m<=p.size) (h:Dn lt p m):Up lt (kas_rev p 0 m) m:=by
 intro i j hij hj
 unfold Le
 rw [ZfT hm,ZfT hm,if_pos ⟨by lia,by lia⟩,if_pos ⟨by lia,by lia⟩]
 exact h _ _ (by lia) (by lia)
theorem ZdE (O:Ord n lt):∀ (f:Nat) (p:Array Nat) (m q:Nat),Pm n p->q + 1<=m->m + f<=n->Dn lt p m->Lk lt p (m - (q + 1)) m ->
  ∃ p' m' q',runT lt (kas_desc f p m q)=(p',m',q')/\Pm n p'/\q' + 1<=m'/\m'<=m + f/\Dn lt p' m'/\Lk lt p' (m' - (q' + 1)) m'
 | 0,p,m,q,hp,hq,hf,hd,hl=>⟨p,m,q,rfl,hp,hq,by lia,hd,hl⟩
 | f + 1, p, m,q,hp,hq,hf,hd,hl=>by
  have hs:=hp.size
  have one:∀ p':Array Nat,Pm n p'->Lk lt p' (m + 1 - (0 + 1)) (m + 1):=by
   intro p' hp' i j h1 h2 h3 h4
   obtain rfl:i=m:=by lia
   obtain rfl:j=i:=by lia
   exact Le.self O hp' (by lia)
  cases hc:lt (p.getD m 0) (p.getD (m - 1) 0) with
  | true =>
   have hle:Le lt p m (m - 1):=Le.of O hp (by lia) (by lia) hc
   by_cases hq0:q > 0
   ·have e:runT lt (kas_desc (f + 1) p m q)=runT lt (kas_desc f (kas_rev p (m - (q + 1)) m) (m + 1) 0):=by
     show runT lt (if lt (p.getD m 0) (p.getD (m - 1) 0)=true then (if q > 0 then kas_desc f (kas_rev p (m - (q + 1)) m) (m + 1) 0 else kas_desc f p (m + 1) 0) else _)=_
     rw [if_pos hc,if_pos hq0]
    have hd':Dn lt (kas_rev p (m - (q + 1)) m) (m + 1):=Dn.rev hp (by lia) (by lia) (hd.snoc O hp (by lia) (by lia) hle) hl
    obtain ⟨p',m',q',e',a,b,c,d,g⟩:=ZdE O f _ (m + 1) 0 (hp.rev (m - (q + 1)) m) (by lia) (by lia) hd' (one _ (hp.rev _ _))
    exact ⟨p',m',q',e.trans e',a,b,by lia,d,g⟩
   ·have e:runT lt (kas_desc (f + 1) p m q)=runT lt (kas_desc f p (m + 1) 0):=by
     show runT lt (if lt (p.getD m 0) (p.getD (m - 1) 0)=true then (if q > 0 then kas_desc f (kas_rev p (m - (q + 1)) m) (m + 1) 0 else kas_desc f p (m + 1) 0) else _)=_
     rw [if_pos hc,if_neg hq0]
    obtain ⟨p',m',q',e',a,b,c,d,g⟩:=ZdE O f _ (m + 1) 0 hp (by lia) (by lia) (hd.snoc O hp (by lia) (by lia) hle) (one _ hp)
    exact ⟨p',m',q',e.trans e',a,b,by lia,d,g⟩
  | false =>
   cases hc2:lt (p.getD (m - 1) 0) (p.getD m 0) with
   | true =>
    have e:runT lt (kas_desc (f + 1) p m q)=(p,m,q):=by
     show runT lt (if lt (p.getD m 0) (p.getD (m - 1) 0)=true then _ else KasT.ask (p.getD (m - 1) 0) (p.getD m 0) fun d=>if d=true then .ret (p,m,q) else kas_desc f p (m + 1) (q + 1))=_
     rw [if_neg (by rw [hc];simp)]
     show runT lt (if lt (p.getD (m - 1) 0) (p.getD m 0)=true then _ else _)=_
     rw [if_pos hc2];rfl
    exact ⟨p,m,q,e,hp,hq,by lia,hd,hl⟩
   | false =>
    have e:runT lt (kas_desc (f + 1) p m q)=runT lt (kas_desc f p (m + 1) (q + 1)):=by
     show runT lt (if lt (p.getD m 0) (p.getD (m - 1) 0)=true then _ else KasT.ask (p.getD (m - 1) 0) (p.getD m 0) fun d=>if d=true then .ret (p,m,q) else kas_desc f p (m + 1) (q + 1))=_
     rw [if_neg (by rw [hc];simp)]
     show runT lt (if lt (p.getD (m - 1) 0) (p.getD m 0)=true then _ else _)=_
     rw [if_neg (by rw [hc2];simp)]
    have h1:Le lt p (m - 1) m:=hc
    have h2:Le lt p m (m - 1):=hc2
    have hl':Lk lt p (m + 1 - (q + 1 + 1)) (m + 1):=by
     intro i j a1 a2 a3 a4
     have hi:Le lt p i (m - 1)/\Le lt p (m - 1) i:=by
      by_cases x:i=m
      ·rw [x];exact ⟨h2,h1⟩
      ·exact ⟨hl _ _ (by lia) (by lia) (by lia) (by lia),hl _ _ (by lia) (by lia) (by lia) (by lia)⟩
     have hj:Le lt p j (m - 1)/\Le lt p (m - 1) j:=by
      by_cases x:j=m
      ·rw [x];exact ⟨h2,h1⟩
      ·exact ⟨hl _ _ (by lia) (by lia) (by lia) (by lia),hl _ _ (by lia) (by lia) (by lia) (by lia)⟩
     exact Le.trans O hp (by lia) (by lia:m - 1 < n) (by lia) hi.1 hj.2
    obtain ⟨p',m',q',e',a,b,c,d,g⟩:=ZdE O f _ (m + 1) (q + 1) hp (by lia) (by lia) (hd.snoc O hp (by lia) (by lia) h2) hl'
    exact ⟨p',m',q',e.trans e',a,b,by lia,d,g⟩
noncomputable def Good (n:Nat) (lt:Nat->Nat->Bool) (r:Nat × Array Nat):Prop:=1<=r.1/\r.1<=n/\Pm n r.2/\Up lt r.2 r.1
theorem ZfU (O:Ord n lt) {p:Array Nat} {m:Nat} (hp:Pm n p) (h1:1<=m) (hm:m<=n) (hd:Dn lt p m):Good n lt (runT lt (kas_tail3 m n p)):=by
 unfold kas_tail3
 rw [Zby]
 have hs:=hp.size
 obtain ⟨a,b,c,_⟩:=Ziw O (hp.rev 0 m) (n - m) m h1 (by lia) (hd.up (by lia))
 exact ⟨YH h1 a,by show runT lt (kas_asc (kas_rev p 0 m) (n - m) m)<=n;lia,hp.rev 0 m,c⟩
theorem ZcW (O:Ord n lt) {p:Array Nat} {m:Nat} (hp:Pm n p) (h1:1<=m) (hm:m < n) (hd:Dn lt p (m + 1)):Good n lt (runT lt (kas_descPart m n p)):=by
 unfold kas_descPart
 rw [Zby]
 have one:Lk lt p (m + 1 - (0 + 1)) (m + 1):=by
  intro i j h1 h2 h3 h4
  obtain rfl:i=m:=by lia
  obtain rfl:j=i:=by lia
  exact Le.self O hp (by lia)
 obtain ⟨p',m',q',e,a,b,c,d,g⟩:=ZdE O (n - (m + 1)) p (m + 1) 0 hp (by lia) (by lia) hd one
 rw [e]
 dsimp only
 split
 ·exact ZfU O (a.rev _ _) (by lia) (by lia) (Dn.rev a (Yh _) (by lia) d g)
 ·exact ZfU O a (by lia) (by lia) d
theorem count_ok (O:Ord n lt) {p:Array Nat} (hp:Pm n p) (hn:1<=n):Good n lt (runT lt (kas_count n p)):=by
 unfold kas_count
 rw [Zby]
 have hs:=hp.size
 have u1:Up lt p 1:=by intro i j a b;lia
 obtain ⟨a,b,c,d⟩:=Ziw O hp (n - 1) 1 (Yh _) (by lia) u1
 generalize runT lt (kas_asc p (n - 1) 1)=m at a b c d
 by_cases hm:m=n
 ·rw [if_pos (by simp [hm])]
  exact ⟨a,by show m<=n;lia,hp,c⟩
 ·rw [if_neg (by simp [hm])]
  have hlt:=d (by lia)
  by_cases h1:m > 1
  ·rw [if_pos h1]
   show Good n lt (runT lt (if lt (p.getD 0 0) (p.getD (m - 1) 0)=true then _ else _))
   by_cases hc:lt (p.getD 0 0) (p.getD (m - 1) 0)=true
   ·rw [if_pos hc];exact ⟨a,by show m<=n;lia,hp,c⟩
   ·rw [if_neg hc]
    have hb:Le lt p (m - 1) 0:=by unfold Le;simpa using hc
    have hk : Lk lt p 0 m:=by
     intro i j _ hi _ hj
     have h0i:Le lt p 0 i/\Le lt p i 0:=by
      constructor
      ·by_cases x:i=0
       ·rw [x];exact Le.self O hp (by lia)
       ·exact c 0 i (by lia) hi
      ·by_cases x:i=m - 1
       ·rw [x];exact hb
       ·exact Le.trans O hp (by lia) (by lia:m - 1 < n) (by lia) (c i (m - 1) (by lia) (by lia)) hb
     have h0j:Le lt p 0 j:=by
      by_cases x:j=0
      ·rw [x];exact Le.self O hp (by lia)
      ·exact c 0 j (by lia) hj
     exact Le.trans O hp (by lia) (by lia:0 < n) (by lia) h0i.2 h0j
    have hd:Dn lt p m:=fun i j hij hj=>hk _ _ (by lia) (by lia) (by lia) (by lia)
    have hd1:Dn lt p (m + 1):=hd.snoc O hp a (by lia) (Le.of O hp (by lia) (by lia) hlt)
    exact ZcW O (hp.rev 0 m) a (by lia) (Dn.rev hp (by lia) (by lia) hd1 hk)
  ·rw [if_neg h1]
   obtain rfl:m=1:=by lia
   refine ZcW O hp (Yh _) (by lia) ?_
   refine Dn.snoc O hp (Yh _) (by lia) (fun i j a b=>by lia) ?_
   exact Le.of O hp (by lia) (by lia) hlt
theorem Zec (O:Ord n lt) {p:Array Nat} {k:Nat} (hp:Pm n p) (hk:k < n) (hu:Up lt p k):∀ (f l r:Nat),r<=k->r<=l + f->l<=r ->
  (∀ i,i < l->Le lt p i k)->(∀ i,r<=i->i < k->Le lt p k i) ->
  runT lt (kas_place p k f l r)<=k/\(∀ i,i < runT lt (kas_place p k f l r)->Le lt p i k)/\(∀ i,runT lt (kas_place p k f l r)<=i->i < k->Le lt p k i)
 | 0, l,r,hr,hf,hlr,h1,h2=>by
  obtain rfl:l=r:=by lia
  exact ⟨hr,h1,h2⟩
 | f + 1, l,r,hr,hf,hlr,h1,h2=>by
  unfold kas_place
  by_cases hge:l ≥ r
  ·rw [if_pos hge]
   obtain rfl:l=r:=by lia
   exact ⟨hr,h1,h2⟩
  ·rw [if_neg hge]
   show runT lt (if lt (p.getD k 0) (p.getD ((l + r) / 2) 0)=true then kas_place p k f l ((l + r) / 2) else kas_place p k f ((l + r) / 2 + 1) r)<=k/\(∀ i,i < runT lt (if lt (p.getD k 0) (p.getD ((l + r) / 2) 0)=true then kas_place p k f l ((l + r) / 2) else kas_place p k f ((l + r) / 2 + 1) r)->Le lt p i k)/\(∀ i,runT lt (if lt (p.getD k 0) (p.getD ((l + r) / 2) 0)=true then kas_place p k f l ((l + r) / 2) else kas_place p k f ((l + r) / 2 + 1) r)<=i->i < k->Le lt p k i)
   by_cases hc:lt (p.getD k 0) (p.getD ((l + r) / 2) 0)=true
   ·rw [if_pos hc]
    have hle:Le lt p k ((l + r) / 2):=Le.of O hp hk (by lia) hc
    refine Zec O hp hk hu f l ((l + r) / 2) (by lia) (by lia) (by lia) h1 fun i a b=>?_
    by_cases x:i=(l + r) / 2
    ·rw [x];exact hle
    ·exact Le.trans O hp hk (by lia:(l + r) / 2 < n) (by lia) hle (hu _ _ (by lia) b)
   ·rw [if_neg hc]
    have hle:Le lt p ((l + r) / 2) k:=by unfold Le;simpa using hc
    refine Zec O hp hk hu f ((l + r) / 2 + 1) r hr (by lia) (by lia) (fun i a=>?_) h2
    by_cases x:i=(l + r) / 2
    ·rw [x];exact hle
    ·exact Le.trans O hp (by lia) (by lia:(l + r) / 2 < n) hk (hu _ _ (by lia) (by lia)) hle
theorem bin_ok (O:Ord n lt):∀ (f:Nat) (p:Array Nat) (k:Nat),Pm n p->1<=k->k + f=n->Up lt p k->Pm n (runT lt (kas_bin f p k))/\Up lt (runT lt (kas_bin f p k)) n
 | 0,p,k,hp,_,hk,hu=>⟨hp,by have e:k=n:=(by lia);rw [<- e];exact hu⟩
 | f + 1, p, k,hp,h1,hk,hu=>by
  have hs:=hp.size
  show Pm n (runT lt ((kas_place p k k 0 k).bind fun l=>kas_bin f (bubble p k (k - l)) (k + 1)))/\Up lt (runT lt ((kas_place p k k 0 k).bind fun l=>kas_bin f (bubble p k (k - l)) (k + 1))) n
  rw [Zby]
  obtain ⟨a,b,c⟩:=Zec O hp (by lia) hu k 0 k (Yh _) (by lia) (by lia) (fun i h=>by lia) (fun i h h'=>by lia)
  generalize runT lt (kas_place p k k 0 k)=l at a b c
  refine bin_ok O f _ (k + 1) (hp.bub _ _) (by lia) (by lia) ?_
  intro i j hij hj
  unfold Le
  rw [bub_at (by lia) _ (by lia),bub_at (by lia) _ (by lia)]
  have e:k - (k - l)=l:=by lia
  rw [e]
  by_cases i1:i=l
  ·rw [if_pos i1]
   rw [if_neg (by lia),if_pos (by lia)]
   exact c _ (by lia) (by lia)
  ·rw [if_neg i1]
   by_cases j1:j=l
   ·rw [if_pos j1,if_neg (by lia)]
    exact b i (by lia)
   ·rw [if_neg j1]
    by_cases i2:l < i/\i<=k
    ·rw [if_pos i2,if_pos (by lia)]
     exact hu _ _ (by lia) (by lia)
    ·rw [if_neg i2]
     by_cases j2:l < j/\j<=k
     ·rw [if_pos j2]
      by_cases x:i=j - 1
      ·lia
      ·exact hu _ _ (by lia) (by lia)
     ·rw [if_neg j2]
      exact hu _ _ hij (by lia)
theorem sort_ok (O:Ord n lt) (hn:1<=n):Pm n (runT lt (kas_sort n))/\Up lt (runT lt (kas_sort n)) n:=by
 unfold kas_sort
 rw [Zby]
 obtain ⟨a,b,c,d⟩:=count_ok O (Pm.start (n:=n)) hn
 generalize runT lt (kas_count n (List.toArray (List.range n)))=r at a b c d
 split
 ·have e:max r.1 1=r.1:=by lia
  rw [e]
  exact bin_ok O _ _ _ c a (by lia) d
 ·have e:r.1=n:=by lia
  refine ⟨c,?_⟩
  show Up lt r.2 n
  rw [<- e];exact d
end
end SortA
namespace N2
open PySem PyProof.Rows
section
variable {prog:Program} {w:World} {K:Type} [DecidableEq K] (kk:KeyKind prog w K)
variable {kk}
variable {A:Around} {E:Value->Shared->Prop} {s:Shared}
theorem still (n:Nat) {ks:List K} {a:Addr} {Q:Bool->Shared->Prop} (hk:IsTupleKey kk s.heap ks a) (h:Q true s):wpAny (model prog w) A (eqIsQuiet (n + 1) (.ref a)) Q E s:=by
 have ty:=hk.typeIs
 obtain ⟨ob,its,m,e,_,dd,hi⟩:=hk
 unfold eqIsQuiet
 refine Yc (Ya5 ty F.slot_tuple_eq.lookup ?_)
 show wpAny _ _ (isInstance (.ref a) (.type "tuple") >>= _) _ _ s
 refine Yc (YbI ty isSubtype_tuple_tuple ?_)
 simp only [Bool.not_true,YZ,YaE]
 refine Yc (Y9 e dd ?_)
 refine Yc ?_
 show wpAny _ _ (forIn its _ _) _ _ s
 rw [<- Ybu]
 refine Ycg _ (fun rest r s'=>r.1=none/\s'=s/\∀ v∈rest,carriedByValue v=true) _ ?_ ?_ _ _ ⟨rfl,rfl,hi.byValue⟩
 ·intro v rest r s' hh
  obtain ⟨hr,e0,all⟩:=hh
  subst e0
  rw [eqIsQuiet_byValue _ (all v YaF)]
  refine Yc (Yi ?_)
  simp only [Bool.not_true,YZ,YaE]
  exact Yi ⟨rfl,rfl,fun u z=>all u (Yaw _ z)⟩
 ·intro rr s' hh
  obtain ⟨r1,r2⟩:=rr
  obtain ⟨hr,e0,_⟩:=hh
  subst e0
  simp only at hr
  subst hr
  exact Yi h
end
end N2
namespace N2
open PySem PyProof.Rows PySem.F
end N2
namespace L2
open PySem PySem.Spec PyProof.Rows N2
theorem Zhr:∀ {xs:List V} {us:List Value} {i:Nat} {u:Value},Vals xs us->us[i]? = some u->∃ x,xs[i]? = some x/\RelV x u
 | _,_,_,_,.nil,e=>by simp at e
 | _,_,0,_,.cons h _,e=>by simp at e;subst e;exact ⟨_,rfl,h⟩
 | _,_,i + 1,_,.cons _ r,e=>by simp at e;simpa using Zhr r e
theorem Reps.at {K:YFr} {H:Hp}:∀ {ds:List PyData} {vs:List V} {i:Nat} {v:V},Reps K H ds vs->vs[i]? = some v->∃ d,ds[i]? = some d/\Rep K H d v
 | _,_,_,_,.nil,e=>by simp at e
 | _,_,0,_,.cons h _,e=>by simp at e;subst e;exact ⟨_,rfl,h⟩
 | _,_,i + 1,_,.cons _ r,e=>by simp at e;simpa using Reps.at r e
noncomputable def ltD (ds:List PyData) (i j:Nat):Bool:=ltv (ds.getD i .none) (ds.getD j .none)
noncomputable def OkD (ds:List PyData):Prop:=(∀ d∈ds,d.canLay0=true/\d.depth<=190)/\∀ d∈ds,∀ e∈ds,okLt d e=true
noncomputable abbrev Ky:=List (List Int)
noncomputable def kU (k:Ky):U:=.tup (k.map fun r=>.tup (r.map U.int))
theorem big {X:Cx} {pins:List (Addr × Obj)} {σ:St} {H:Hp} {s:Shared} (I:Inv X pins σ H s):sysModules < s.heap.objs.size :=
 Nat.lt_trans (by decide) (show mainGlobals < s.heap.objs.size from (I.mod.glob.keeps I.bk).lt)
open PySem PySem.Spec PySem.W PyProof.Rows
section
variable {prog:Program} {w:World} {A:Around} {E:Value->Shared->Prop} {s:Shared} {Q:Bool->Shared->Prop}
noncomputable def ZaM:PyData->Bool
 | .tuple (.int _::_)=>true
 | _=>false
theorem lexU1 {u a b c d L:Nat} (h:u + (max (max a b) (max c d) + 1) < L):u + min a c < L:=by
 have h1:min a c<=a:=Ybm a c
 have h2:a<=max (max a b) (max c d):=YH (Ya7 a b) (Ya7 _ _)
 lia
theorem lexU2 {u a b c d L:Nat} (h:u + (max (max a b) (max c d) + 1) < L):u + (max b d + 1) < L:=by
 have h2:max b d<=max (max a b) (max c d):=Nat.max_le.mpr ⟨YH (YbJ a b) (Ya7 _ _),YH (YbJ c d) (YbJ _ _)⟩
 lia
theorem lexU3 {u a b c d L:Nat} (h:u + (max (max a b) (max c d) + 1) < L):u + max a c < L:=by
 have h2:max a c<=max (max a b) (max c d):=Nat.max_le.mpr ⟨YH (Ya7 a b) (Ya7 _ _),YH (Ya7 c d) (YbJ _ _)⟩
 lia
theorem Zhp : ∀ (xs ys:List PyData) (vs ws:List Value) (as bs:List Addr) (i:Nat),ReadsAll s.heap vs xs as->ReadsAll s.heap ws ys bs->PyData.canLayAll0 xs=true->PyData.canLayAll0 ys=true->ZaZ xs ys=true ->
  A.units + (max (PyData.depthAll xs) (PyData.depthAll ys) + 1) < cLine->(i=0->ZaM (.tuple xs)=true/\ZaM (.tuple ys)=true)->Q (ltvA xs ys) s->KatLex prog w A true (decide (xs.length < ys.length)) Q (vs.zip ws) i s:=by
 intro xs
 induction xs with
 | nil =>
  intro ys vs ws as bs i rx ry cx cy ok hu hi q
  cases rx
  cases ry with
  | nil=>exact q
  | cons r1 r2 =>
   rename_i d ds _ _
   have e:decide (([]:List PyData).length < (d::ds).length)=true:=by simp
   rw [e];exact q
 | cons x xs ih =>
  intro ys vs ws as bs i rx ry cx cy ok hu hi q
  cases rx with
  | cons rx rxs =>
   cases ry with
   | nil=>exact q
   | cons ry rys =>
    rename_i y ys _ _
    simp only [PyData.canLayAll0,Ye] at cx cy
    simp only [PyData.depthAll] at hu
    refine kat_cons (YdF x y A s _ _ _ _ rx ry cx.1 cy.1 (lexU1 hu) prog w _ _ ?_)
    refine kat_go (fun e=>kat_yes ?_) fun e=>kat_no ?_
    ·have e1:decide ((x::xs).length < (y::ys).length)=decide (xs.length < ys.length):=by simp
     rw [e1]
     simp only [ltvA,e,if_true] at q
     simp only [ZaZ,e,if_true] at ok
     exact ih ys _ _ _ _ (i + 1) rxs rys cx.2 cy.2 ok (lexU2 hu) (fun z=>absurd z (Nat.succ_ne_zero i)) q
    ·simp only [ltvA,e,YZ,YaE] at q
     simp only [ZaZ,e,YZ,YaE] at ok
     by_cases h0:i=0
     ·obtain ⟨f1,f2⟩:=hi h0
      subst h0
      cases x <;> simp [ZaM] at f1
      cases y <;> simp [ZaM] at f2
      cases rx;cases ry
      exact oneLt_int q
     ·have e2:(true && i == 0)=false:=by simp [h0]
      rw [e2]
      exact kat_one _ _ (Zcg _ x y A s _ _ _ _ (Yh _) rx ry cx.1 cy.1 ok (lexU3 hu) prog w (fun _ _=>False) _ q)
theorem Zfl {x y:Value} {dx dy:PyData} {as bs:List Addr} (rx:Reads s.heap x dx as) (ry:Reads s.heap y dy bs) (cx:dx.canLay0=true) (cy:dy.canLay0=true) (ok:okLt dx dy=true) (fx:ZaM dx=true) (fy:ZaM dy=true)
  (hu:A.units + (max dx.depth dy.depth + 1) < cLine) (q:Q (ltv dx dy) s):wpAny (model prog w) A (keyLt' (tuples' true) x y) Q E s:=by
 cases rx with
 | tuple k1 k2 k3 k4 =>
  cases ry with
  | tuple j1 j2 j3 j4 =>
   simp only [PyData.canLay0] at cx cy
   simp only [PyData.depth] at hu
   simp only [okLt] at ok
   have l1:=ZaW k4
   have l2:=ZaW j4
   refine kat_lt k1 k3 j1 j3 ?_
   have:=Zhp (prog:=prog) (w:=w) (A:=A) _ _ _ _ _ _ 0 k4 j4 cx cy ok (by lia) (fun _=>⟨fx,fy⟩) q
   rw [<- l1,<- l2,Array.length_toList,Array.length_toList] at this
   exact this
  | _=>simp [ZaM] at fy
 | _=>simp [ZaM] at fx
end
section
variable {X:Cx} {pins:List (Addr × Obj)} {σ:St}
theorem Inv.adopt {H:Hp} {s:Shared} {a:Addr} {xs:List V} {its:List Value} {n:Nat} (I:Inv X pins σ H s) (f:FpOk X pins H a) (h0:X.s₀.heap.objs.size<=a) (r:Vals xs its) (hz:xs.length<=sizeLine)
  (e:s.heap.get? a=some { cls:=.type "list",data:=.seq its.toArray n }):Inv X pins σ (upd H a (.lst xs)) s:=by
 obtain ⟨f0,f1,f2,f3,f4,f5⟩:=f
 have ne:∀ b u,H b=some u->b≠a:=fun b u q z=>by rw [z,f0] at q;cases q
 have old:∀ b o,X.s₀.heap.get? b=some o->b≠a:=fun b o q=>Yx (YI (Ym q) h0)
 refine ⟨I.ok,I.os,I.bare,⟨I.base.keep,I.base.slot,fun b o q n hx=>?_,I.base.there,fun b xs q=>?_,fun b o u q=>?_,fun b ps q=>?_⟩,I.loc,I.cell,?_,fun x c q=>?_,fun p hp=>?_,fun b u q=>?_,I.len⟩
 ·rw [Zs (old b o q)];exact I.base.free b o q n hx
 ·have:=I.base.tups b xs q;rw [Zs (ne _ _ this)];exact this
 ·have:=I.base.frzs b o u q;rw [Zs (ne _ _ this)];exact this
 ·obtain ⟨m,q'⟩:=I.base.tbls b ps q;exact ⟨m,by rw [Zs (ne _ _ q')];exact q'⟩
 ·rw [Zs (Ne.symm f1)];exact I.free
 ·rw [Zs (f4 x c q)];exact I.freeC x c q
 ·obtain ⟨p1,p2,p3⟩:=I.pin p hp;exact ⟨p1,by rw [Zs (f5 p hp)];exact p2,p3⟩
 ·by_cases hb:b=a
  ·subst hb;rw [Z3] at q;cases q;exact ⟨hz,its,n,r,e⟩
  ·rw [Zs hb] at q
   exact (I.hok b u q).stay (fun _ _ _ z=>z) (fun c z=>by rw [Zs (ne _ _ z)];exact z) (fun c ys z=>by rw [Zs (ne _ _ z)];exact z)
theorem Inv.mine {H:Hp} {s:Shared} {a:Addr} {h':Heap} {t':Nat} (I:Inv X pins σ H s) (f:FpOk X pins H a) (k:∀ b o,b≠a->s.heap.get? b=some o->h'.get? b=some o):Inv X pins σ H { s with heap:=h',toks:=t' } :=
 I.turned k f.1 f.2.1 f.2.2.2.1 f.2.2.2.2.1 f.2.2.2.2.2
theorem RUs.getD {K:YFr} {H:Hp} {us:List U} {vs:List V} {its:List Value} (r:RUs K H us vs) (rv:Vals vs its) (i:Nat) (hi:i < us.length):∃ v,vs[i]? = some v/\RU K H (us.getD i .non) v/\RelV v (its.getD i .none):=by
 obtain ⟨v,hv,hr⟩:=r.get' (i:=i) (u:=us[i]) (Yg hi)
 obtain ⟨x,hx,rel⟩:=rv.get hv
 exact ⟨v,hv,by rw [Yn,Yg hi];exact hr,by rw [Yn,hx];exact rel⟩
theorem RUs.picked {K:YFr} {H:Hp} {us:List U} {vs:List V} {its:List Value} (r:RUs K H us vs) (rv:Vals vs its):∀ (ps:List Nat),(∀ p∈ps,p < us.length) ->
  ∃ ys,RUs K H (ps.map fun i=>us.getD i .non) ys/\Vals ys (ps.map fun i=>its.getD i .none)
 | [],_=>⟨[],.nil,.nil⟩
 | p :: ps,h=>by
  obtain ⟨v,_,h1,h2⟩:=RUs.getD r rv p (h p (.head _))
  obtain ⟨ys,h3,h4⟩:=RUs.picked r rv ps fun q hq=>h q (.tail _ hq)
  exact ⟨v::ys,.cons h1 h3,.cons h2 h4⟩
theorem RUs.katRev {K:YFr} {H:Hp} {us:List U} {vs:List V} (b:Bool) (r:RUs K H us vs):RUs K H (katRev b us) (katRev b vs):=by
 unfold PySem.W.katRev;split
 ·exact r.rev
 ·exact r
theorem vals_rev {vs:List V} {its:List Value} (r:Vals vs its):Vals vs.reverse its.reverse:=by
 induction vs generalizing its with
 | nil=>cases r;exact .nil
 | cons v vs ih =>
  cases r with
  | cons h t=>rw [Yad,Yad];exact Vals.append (ih t) (.cons h .nil)
theorem Zb1 {vs:List V} {its:List Value} (b:Bool) (r:Vals vs its):Vals (katRev b vs) (katRev b its):=by
 unfold PySem.W.katRev;split
 ·exact vals_rev r
 ·exact r
noncomputable def srt (b:Bool) (us:List U) (ds:List PyData):List U:=if us.length < 2 then us else katRev b ((SortA.runT (ltD (katRev b ds)) (kas_sort us.length)).toList.map fun i=>(katRev b us).getD i .non)
section
variable {B:Around} {E:Value->Shared->Prop} {f:Value} {b:Bool} {A:AHp} {us:List U} {H:Hp} {s:Shared} {a kS:Addr} {e e1:Nat} {P:PySem.Fin->Shared->Prop}
theorem ZhX {Y:Cx} {H H':Hp} {p:Addr} (f:FpOk Y pins H p) (h:H' p=none):FpOk Y pins H' p:=⟨h,f.2⟩
theorem Ze0 {st:SortSt} {out ks:List Value} (I:Inv X pins σ H s) (fa:FpOk X pins H a) (fk:FpOk X pins H kS) (hak:a≠kS) (oa:s.heap.get? a=some (seqObj "list" #[] e1)) (ok:s.heap.get? kS=some (seqObj "list" ks.toArray e))
  (hout:(arrOf st).map (·.2)=List.toArray out) (hz:out.length < 64) (hkz:ks.length < 64) (hf:failedOf st=none)
  (h:∀ s' c,Inv X pins σ H s'->s'.heap.get? a=some (seqObj "list" (katRev b out).toArray c)->P (.done (.ret .none)) s') :
  wpAny (model X.prog X.w) B (ksk_tail a b e1 (.ref kS) st) P E s:=by
 have s1:=Yac s.heap kS (Obj.mapSeq fun _=>(#[]:Array Value))
 have na:(s.heap.update kS (Obj.mapSeq fun _=>(#[]:Array Value))).get? a=some (seqObj "list" #[] e1):=(s1.2 a hak).trans oa
 have s2:=Yac (s.heap.update kS (Obj.mapSeq fun _=>(#[]:Array Value))) a (Obj.mapSeq fun _=>List.toArray (katRev b out))
 have hsz:(List.toArray (katRev b out)).size=out.length:=by rw [Yk,kat_len]
 unfold ksk_tail
 try dsimp only
 rw [hout,kat_outs]
 refine Yc (Yb5 ok rfl (show _ from ?_) (by rw [Yk,YaC];lia) (YY _))
 refine Yc (YaJ (show _ from ?_))
 refine Yc (seqEpoch_at na rfl (show _ from ?_))
 refine Yc (Yb5 na rfl (show _ from ?_) (YY _) (YH (Ydm hsz) (by rw [YaC];lia)))
 rw [hf]
 simp only [bne_self_eq_false,YZ,YaE]
 have I1:=I.mine (t':=s.toks) fk fun p o hp q=>(s1.2 p hp).trans q
 have I2:=I1.mine (t':=s.toks) (s:={ s with heap:=s.heap.update kS (Obj.mapSeq fun _=>(#[]:Array Value)),toks:=s.toks }) fa fun p o hp q=>(s2.2 p hp).trans q
 exact Yi (h _ _ I2 (Ybo na fun _=>List.toArray (katRev b out)))
variable {kf:U->U} {dk:U->PyData} {Z:Hp->Prop}
theorem Zf9 (I:Inv X pins σ H s) (g:HR X.K H A) {kus:List U} {kvs:List V} {ks:List Value} {ds:List PyData} (rk:RUs X.K H kus kvs) (rv:Vals kvs ks) (hd:DUs A kus ds) (i:Nat) (hi:i < ks.length) :
  ∃ as,Reads s.heap (ks.getD i .none) (ds.getD i .none) as:=by
 have rep:=DUs.reps g hd rk
 obtain ⟨x,hx,rel⟩:=Zhr rv (Yg hi)
 obtain ⟨d,h1,h2⟩:=rep.at hx
 obtain ⟨as,ra⟩:=Rep.reads I h2 rel
 refine ⟨as,?_⟩
 rw [Yn,Yn,Yg hi,h1]
 exact ra
theorem dus_rev {A:AHp}:∀ {us:List U} {ds:List PyData},DUs A us ds->DUs A us.reverse ds.reverse:=by
 have app:∀ {us ws:List U} {ds es:List PyData},DUs A us ds->DUs A ws es->DUs A (us++ws) (ds++es):=by
  intro us
  induction us with
  | nil=>intro ws ds es h k;cases h;exact k
  | cons u us ih=>intro ws ds es h k;cases h with | cons p q=>exact .cons p (ih q k)
 intro us
 induction us with
 | nil=>intro ds h;cases h;exact .nil
 | cons u us ih =>
  intro ds h
  cases h with
  | cons p q=>rw [Yad,Yad];exact app (ih q) (.cons p .nil)
theorem ZgU {us:List U} {ds:List PyData} (b:Bool) (h:DUs A us ds):DUs A (katRev b us) (katRev b ds):=by
 unfold PySem.W.katRev;split
 ·exact dus_rev h
 ·exact h
theorem Zay {α:Type} {b:Bool} {l:List α} {x:α} (h:x∈katRev b l):x∈l:=by
 unfold PySem.W.katRev at h;split at h
 ·exact YdG.mp h
 ·exact h
theorem Zhe {ds:List PyData} (b:Bool) (h:OkD ds):OkD (katRev b ds):=⟨fun d hd=>h.1 d (Zay hd),fun d hd e he=>h.2 d (Zay hd) e (Zay he)⟩
theorem Zdo (hs:Heap):∀ {ks:List Value} {ds:List PyData} {n:Nat},ks.length=n->ds.length=n->(∀ i,i < n->∃ as,Reads hs (ks.getD i .none) (ds.getD i .none) as)->(∀ d∈ds,ZaM d=true) ->
  ∃ fs:List Value,KatTups hs ks fs/\fs.length=n/\∀ v∈fs,∃ i t,v=.int i t
 | [],[],_,h1,_,_,_=>⟨[],trivial,h1,fun v hv=>nomatch hv⟩
 | k :: ks, d::ds,n,h1,h2,hr,hi=>by
  obtain ⟨m,rfl⟩:∃ m,n=m + 1:=⟨ks.length,by rw [<- h1];rfl⟩
  obtain ⟨fs,t,l,all⟩:=Zdo hs (n:=m) (by simpa using h1) (by simpa using h2) (fun i hlt=>by simpa using hr (i + 1) (by lia)) fun d hd=>hi d (.tail _ hd)
  obtain ⟨as,ra⟩:=hr 0 (by lia)
  have ra:Reads hs k d as:=by simpa using ra
  have fi:=hi d (.head _)
  cases ra with
  | @tuple a0 o its n0 xs as1 k1 k2 k3 k4 =>
   have hl:=ZaW k4
   cases xs with
   | nil=>simp [ZaM] at fi
   | cons x xs =>
    cases x <;> simp [ZaM] at fi
    rename_i i
    obtain ⟨x',bs,e,rx⟩:=Za9 k4 0 (by rw [hl];simp)
    simp at e
    subst e
    have h0:0 < its.toList.length:=by rw [hl];simp
    obtain ⟨v0,hv0⟩:∃ v0,v0=its.toList[0]'h0:=⟨_,rfl⟩
    rw [<- hv0] at rx
    cases rx
    rename_i t
    refine ⟨.int i t::fs,⟨⟨_,_,_,_,rfl,k1,k2,k3,?_⟩,‹KatTups _ _ _›⟩,by simp [l],?_⟩
    ·rw [<- YaG,Yg h0,hv0]
    ·intro v hv
     rcases Yv.mp hv with rfl | hv
     ·exact ⟨_,_,rfl⟩
     ·exact all v hv
  | _=>simp [ZaM] at fi
theorem ZfH {n:Nat} (hn:1<=n) (lt:Nat->Nat->Bool):(SortA.runT lt (kas_sort n)).size=n/\∀ p∈(SortA.runT lt (kas_sort n)).toList,p < n:=by
 have go:∀ {α:Type} {R:α->Prop} (t:KasT α),SortA.AllP n R t->R (SortA.runT lt t):=by
  intro α R t
  induction t with
  | ret a=>intro h;exact h
  | ask i j k ih=>intro h;exact ih _ (h.2.2 _)
 exact (go _ (SortA.all_sort hn)).2
theorem Zi2 (b:Bool) (us:List U) (ds:List PyData):(srt b us ds).length=us.length:=by
 unfold srt
 split
 ·rfl
 ·rw [kat_len,Yb,Array.length_toList,(ZfH (by lia) _).1]
theorem sort_end {ks its:List Value} {vs kvs:List V} (I:Inv X pins σ H s) (g:HR X.K H A) (r:RUs X.K H us vs) (rv:Vals vs its) (rk:RUs X.K H (us.map kf) kvs) (rkv:Vals kvs ks) (h64:us.length < 64)
  (fa:FpOk X pins H a) (fk:FpOk X pins H kS) (hak:a≠kS) (oa:s.heap.get? a=some (seqObj "list" #[] e1)) (ok:s.heap.get? kS=some (seqObj "list" ks.toArray e))
  (hdu:DUs A (us.map kf) (us.map dk)) (hok:OkD (us.map dk)) (hin:∀ u∈us,ZaM (dk u)=true) (hun:B.units + 200 < cLine)
  (h:∀ s' ys its' c,Inv X pins σ H s'->s'.heap.get? a=some (seqObj "list" its'.toArray c)->RUs X.K H (srt b us (us.map dk)) ys->Vals ys its'->P (.done (.ret .none)) s') :
  wpAny (model X.prog X.w) B (ksk_end a b its.toArray e1 (.ref kS) (List.toArray ks)) P E s:=by
 have l1:its.length=us.length:=by rw [<- rv.length,r.length]
 have l2:ks.length=us.length:=by rw [<- rkv.length,<- rk.length,Yb]
 have hl:ks.length=its.length:=by rw [l1,l2]
 have step:∀ t:Sem PySem.Fin,wpAny (model X.prog X.w) B t P E s->wpAny (model X.prog X.w) B (if b=true then (do let _ <- rule "list.sort.reverse";t) else t) P E s:=by
  intro t ht
  split
  ·exact Yc (Ybi ht)
  ·exact ht
 unfold ksk_end
 try dsimp only
 refine step _ ?_
 rw [kat_pairs b hl]
 by_cases hn:us.length < 2
 ·have hn2:its.toArray.size < 2:=by rw [Yk];lia
  rw [if_pos hn2,if_pos hn2]
  refine Yc (Yi ?_)
  refine Yc (Yi ?_)
  have hrev:katRev b its=its:=by
   unfold PySem.W.katRev
   split
   ·match its,l1 with
    | [],_=>rfl
    | [x],_=>rfl
    | x::y::z,q=>simp at q;lia
   ·rfl
  have hz:((List.toArray (katRev b ks)).zip (List.toArray (katRev b its))).map (·.2)=List.toArray its:=by
   apply Yav.mp
   rw [Array.toList_map,ksk_zip,hrev]
   simp only [List.toList_toArray]
   rw [List.map_snd_zip (by rw [kat_len];lia)]
  refine Ze0 (out:=its) I fa fk hak oa ok hz (by rw [l1];exact h64) (by rw [l2];exact h64) rfl fun s' c I' o'=>?_
  rw [hrev] at o'
  exact h s' vs its c I' o' (by unfold srt;rw [if_pos hn];exact r) rv
 ·have hn2:¬ its.toArray.size < 2:=by rw [Yk];lia
  rw [if_neg hn2,if_neg hn2]
  have hd':=ZgU (A:=A) b hdu
  have hok':=Zhe b hok
  have rk':=rk.katRev b
  have rkv':=Zb1 b rkv
  have hld:(katRev b (us.map dk)).length=us.length:=by rw [kat_len,Yb]
  have hlk:(katRev b ks).length=us.length:=by rw [kat_len,l2]
  have rds:∀ i,i < us.length->∃ as,Reads s.heap ((katRev b ks).getD i .none) ((katRev b (us.map dk)).getD i .none) as:=fun i hi=>Zf9 I g rk' rkv' hd' i (by lia)
  have mem:∀ i,i < us.length->(katRev b (us.map dk)).getD i .none∈katRev b (us.map dk):=fun i hi=>by
   rw [Yn,Yg (by lia)];exact YaY _
  have int':∀ d∈us.map dk,ZaM d=true:=fun d hd=>by
   obtain ⟨u,hu,rfl⟩:=Yt.mp hd;exact hin u hu
  obtain ⟨fs,kt,lf,all⟩:=Zdo s.heap (ks:=ks) (ds:=us.map dk) (n:=us.length) l2 (by rw [Yb]) (fun i hi=>Zf9 I g rk rkv hdu i (by lia)) int'
  refine Yc (kat_kind (T:=.type "int") kt (by lia) (fun v hv=>by obtain ⟨i,t,rfl⟩:=all v hv;exact Looks.of_pure rfl) rfl ?_)
  have hT:(Value.type "int" != Value.type "tuple")=true:=by decide
  rw [hT]
  have hlr:(katRev b ks).length=(katRev b its).length:=by rw [kat_len,kat_len,hl]
  refine Yc (YR (kat_run (Q:=fun st' s'=>s'=s/\arrOf st'=(SortA.runT (ltD (katRev b (us.map dk))) (kas_sort us.length)).map (kas_item ((List.toArray (katRev b ks)).zip (List.toArray (katRev b its))))/\failedOf st'=none/\(SortA.runT (ltD (katRev b (us.map dk))) (kas_sort us.length)).size=(katRev b its).length)
   (G:=fun p s'=>s'=s/\p=SortA.runT (ltD (katRev b (us.map dk))) (kas_sort us.length)) hlr (by rw [kat_len];lia) (by rw [kat_len];lia) (fun p' st' s' a1 a2 a3 a4=>⟨a4.1,by rw [a2,a4.2],a3,by rw [<- a4.2];exact a1⟩) ?_) ?_ fun _ _ x=>x)
  ·rw [kat_len,l1]
   refine SortA.wpT (I:=fun s'=>s'=s) (lt:=ltD (katRev b (us.map dk))) (n:=us.length) (fun i j C s0 hi hj hs hC=>?_) _ s (SortA.all_sort (by lia)) rfl fun s' hs=>⟨hs,rfl⟩
   subst hs
   obtain ⟨as,ra⟩:=rds i hi
   obtain ⟨bs,rb⟩:=rds j hj
   have m1:=mem i hi
   have m2:=mem j hj
   have d1:=(hok'.1 _ m1).2
   have d2:=(hok'.1 _ m2).2
   exact Zfl ra rb (hok'.1 _ m1).1 (hok'.1 _ m2).1 (hok'.2 _ m1 _ m2) (int' _ (Zay m1)) (int' _ (Zay m2)) (by lia) (hC _ rfl)
  ·rintro ⟨⟨⟩,st'⟩ s' ⟨e0,har,hf,hsz⟩
   subst e0
   have hps:=(ZfH (n:=us.length) (by lia) (ltD (katRev b (us.map dk)))).2
   have hpl:(SortA.runT (ltD (katRev b (us.map dk))) (kas_sort us.length)).toList.length<=us.length:=by
    rw [Array.length_toList,hsz,kat_len,l1];exact Yh _
   obtain ⟨ys,r1,r2⟩:=RUs.picked (r.katRev b) (Zb1 b rv) (SortA.runT (ltD (katRev b (us.map dk))) (kas_sort us.length)).toList (fun p hp=>by rw [kat_len];exact hps p hp)
   refine Ze0 (out:=(SortA.runT (ltD (katRev b (us.map dk))) (kas_sort us.length)).toList.map fun i=>(katRev b its).getD i .none) I fa fk hak oa ok (kat_snds hlr har) (by rw [Yb];lia) (by lia) hf fun s'' c I' o'=>?_
   exact h s'' (katRev b ys) _ c I' o' (by unfold srt;rw [if_neg hn];exact r1.katRev b) (Zb1 b r2)
noncomputable def Zc0 (X:Cx) (pins:List (Addr × Obj)) (σ:St) (B:Around) (f:Value) (A:AHp) (us:List U) (kf:U->U) (Z:Hp->Prop):Prop :=
 ∀ (pl:List (Addr × Obj)) (s:Shared) (H:Hp) (u:U) (v:V) (x:Value),Inv X (pins++pl) σ H s->HR X.K H A->Z H->u∈us->RU X.K H u v->RelV v x ->
  wpAny (model X.prog X.w) B (call f [x]) (fun y s'=>∃ H' z,Inv X (pins++pl) σ H' s'/\Kp X.K H H'/\HR X.K H' A/\RU X.K H' (kf u) z/\RelV z y) (fun _ _=>False) s
theorem ZiX {its:List Value} {vs:List V} (I:Inv X pins σ H s) (g:HR X.K H A) (r:RUs X.K H us vs) (rv:Vals vs its) (h64:us.length < 64)
  (fa:FpOk X pins H a) (fk:FpOk X pins H kS) (hak:a≠kS) (oa:s.heap.get? a=some (seqObj "list" #[] e1)) (ok:s.heap.get? kS=some (seqObj "list" #[] 0))
  (hdu:DUs A (us.map kf) (us.map dk)) (hok:OkD (us.map dk)) (hin:∀ u∈us,ZaM (dk u)=true) (hun:B.units + 200 < cLine) (hcall:Zc0 X pins σ B f A us kf Z) (z0:Z H) (hZ:∀ H H',Z H->Kp X.K H H'->Z H')
  (h:∀ H' s' ys its' c,Inv X pins σ H' s'->Kp X.K H H'->HR X.K H' A->FpOk X pins H' a->s'.heap.get? a=some (seqObj "list" its'.toArray c)->RUs X.K H' (srt b us (us.map dk)) ys->Vals ys its'->P (.done (.ret .none)) s') :
  wpAny (model X.prog X.w) B (ksk_rest a f b its.toArray e1 (.ref kS)) P E s:=by
 have l1:its.length=us.length:=by rw [<- rv.length,r.length]
 unfold ksk_rest
 refine Yc (Ybi ?_)
 first
  | rw [List.forIn_toArray]
  | (rw [<- Ybu];simp only [List.toList_toArray])
 refine Yc (ksk_fold (fun j s'=>∃ H' kvs ks e,Inv X pins σ H' s'/\Kp X.K H H'/\HR X.K H' A/\FpOk X pins H' a/\FpOk X pins H' kS/\s'.heap.get? a=some (seqObj "list" #[] e1)/\s'.heap.get? kS=some (seqObj "list" (List.toArray ks) e)/\RUs X.K H' ((us.take j).map kf) kvs/\Vals kvs ks) its 0 s
  ⟨H,[],[],0,I,.refl H,g,fa,fk,oa,ok,by simpa using RUs.nil,.nil⟩ ?step ?done)
 case step =>
  rintro j x s' hx ⟨H1,kvs,ks,e,I1,k1,g1,fa1,fk1,oa1,ok1,rk1,rv1⟩
  simp only [Nat.zero_add] at rk1 ⊢
  have hj:j < us.length:=by rw [<- l1];exact (Yq.mp hx).1
  have hkl:ks.length=j:=by rw [<- rv1.length,<- rk1.length,Yb,YL];lia
  obtain ⟨v,hv,rel⟩:=Zhr rv hx
  obtain ⟨u,hu,ru⟩:=r.get hv
  have hmem:=YG hu
  have J:=I1.pinned (fp:=[kS,a]) (fun p hp=>by
   rcases Yv.mp hp with rfl | hp
   ·exact fk1
   ·rw [YJ.mp hp];exact fa1) (fun p hp=>by
   rcases Yv.mp hp with rfl | hp
   ·exact ⟨_,ok1,fun v z=>nomatch z⟩
   ·rw [YJ.mp hp];exact ⟨_,oa1,fun v z=>nomatch z⟩)
  refine Yc (YcV (YR (hcall _ s' H1 u v x J g1 (hZ _ _ z0 k1) hmem (ru.same k1) rel) (fun y s2 hy=>?_) fun _ _ hF=>hF.elim))
  obtain ⟨H2,z,J2,k2,g2,rz,relz⟩:=hy
  have pk:=J2.pin (kS,seqObj "list" (List.toArray ks) e) (Yw _ (Yw _ (ZaX (.head _) ok1)))
  have pa:=J2.pin (a,seqObj "list" #[] e1) (Yw _ (Yw _ (ZaX (.tail _ (.head _)) oa1)))
  have I2:=J2.unpinned
  have s1:=Yac s2.heap kS (Obj.mapSeq (·.push y))
  have ea:(List.toArray ks).push y=List.toArray (ks++[y]):=by simp
  obtain ⟨c2,hc2⟩:∃ c2,(s2.heap.update kS (Obj.mapSeq (·.push y))).get? kS=some (seqObj "list" (List.toArray (ks++[y])) c2):=⟨_,by rw [<- ea];exact Ybo pk.1 (·.push y)⟩
  try dsimp only
  refine Yc (Yb5 pk.1 rfl (show _ from ?_) (by rw [Yk,YaC];lia) (YH (Ydm (Array.size_push ..)) (by rw [Yk,YaC];lia)))
  have I3:=I2.mine (t':=s2.toks) (ZhX fk1 pk.2.1) fun p o hp q=>(s1.2 p hp).trans q
  refine Yi ⟨rfl,H2,kvs++[z],ks++[y],c2,I3,k1.trans k2,g2,ZhX fa1 pa.2.1,ZhX fk1 pk.2.1,(s1.2 a hak).trans pa.1,hc2,?_,Vals.append rv1 (.cons relz .nil)⟩
  rw [Ybc,hu,Yo]
  exact (rk1.same k2).app (.one rz)
 case done =>
  rintro s' ⟨H1,kvs,ks,e,I1,k1,g1,fa1,fk1,oa1,ok1,rk1,rv1⟩
  rw [Nat.zero_add,l1,Yaj] at rk1
  try dsimp only
  refine Yc (listItems_at ok1 rfl (show _ from ?_))
  exact sort_end I1 g1 (r.same k1) rv rk1 rv1 h64 fa1 fk1 hak oa1 ok1 hdu hok hin hun fun s2 ys its' c I2 o2 r2 v2=>h H1 s2 ys its' c I2 k1 g1 fa1 o2 r2 v2
theorem Zjb {its:List Value} {vs:List V} {n:Nat} (I:Inv X pins σ H s) (g:HR X.K H A) (r:RUs X.K H us vs) (rv:Vals vs its) (h64:us.length < 64)
  (fa:FpOk X pins H a) (oa:s.heap.get? a=some (seqObj "list" its.toArray n))
  (hdu:DUs A (us.map kf) (us.map dk)) (hok:OkD (us.map dk)) (hin:∀ u∈us,ZaM (dk u)=true) (hun:B.units + 200 < cLine) (hcall:Zc0 X pins σ B f A us kf Z) (z0:Z H) (hZ:∀ H H',Z H->Kp X.K H H'->Z H')
  (h:∀ H' s' ys its' c,Inv X pins σ H' s'->Kp X.K H H'->HR X.K H' A->FpOk X pins H' a->s'.heap.get? a=some (seqObj "list" its'.toArray c)->RUs X.K H' (srt b us (us.map dk)) ys->Vals ys its'->P (.done (.ret .none)) s') :
  wpAny (model X.prog X.w) B (ksk_tree a f b) P E s:=by
 have l1:its.length=us.length:=by rw [<- rv.length,r.length]
 have ha:a < s.heap.objs.size:=Ym oa
 have s1:=Yac s.heap a (Obj.mapSeq fun _=>(#[]:Array Value))
 obtain ⟨e1,ho1⟩:∃ e1,(s.heap.update a (Obj.mapSeq fun _=>(#[]:Array Value))).get? a=some (seqObj "list" #[] e1):=⟨_,Ybo oa fun _=>#[]⟩
 unfold ksk_tree
 refine Yc (listItems_at oa rfl (show _ from ?_))
 refine Yc (Yb5 oa rfl (show _ from ?_) (by rw [Yk,YaC];lia) (YY _))
 refine Yc (seqEpoch_at ho1 rfl (show _ from ?_))
 refine Yc (YbY (show _ from ?_) (by show its.length<=_;rw [YaC];lia))
 refine Yc (YcW (show _ from ?_) (YY _))
 refine YS (show _ from ?_)
 have I1:=I.mine (t':=s.toks) fa fun p o hp q=>(s1.2 p hp).trans q
 have I2:=I1.kept (t':=s.toks) (h':=(s.heap.update a (Obj.mapSeq fun _=>(#[]:Array Value))).push { cls:=.type "tuple",data:=.seq its.toArray }) fun p o q=>Yd _ q
 have fk:FpOk X pins H ((s.heap.update a (Obj.mapSeq fun _=>(#[]:Array Value))).push { cls:=.type "tuple",data:=.seq its.toArray }).objs.size:=I2.fpOk (Yh _) (I2.hok.fresh (Yh _))
 have I3:=I2.kept (t':=s.toks) (h':=((s.heap.update a (Obj.mapSeq fun _=>(#[]:Array Value))).push { cls:=.type "tuple",data:=.seq its.toArray }).push { cls:=.type "list",data:=.seq #[] }) fun p o q=>Yd _ q
 have oa2:=Yd ({ cls:=.type "tuple",data:=.seq its.toArray }:Obj) ho1
 exact ZiX I3 g r rv h64 fa fk (Yx (Ym oa2)) (Yd _ oa2) (Yp _ rfl) hdu hok hin hun hcall z0 hZ h
theorem Zdr {l:Addr} {kw:List (Str × Value)} {Q:Value->Shared->Prop} (I:Inv X pins σ H s) (g:HR X.K H A) (hl:A l=some (.lst us)) (h64:us.length < 64)
  (ha1:argsOk "sorted" ⟨[.ref l],kw⟩) (ha2:∀ x,argsOk "list.sort" ⟨[.ref x],kw⟩) (ht:∀ x,Builtin.«list.sort» ⟨[.ref x],kw⟩=ksk_tree x f b)
  (hdu:DUs A (us.map kf) (us.map dk)) (hok:OkD (us.map dk)) (hin:∀ u∈us,ZaM (dk u)=true) (hun:B.in1.in1.units + 200 < cLine) (hcall:Zc0 X pins σ B.in1.in1 f A us kf Z) (z0:Z H) (hZ:∀ H H',Z H->Kp X.K H H'->Z H')
  (h:∀ D H' s',A D=none->Inv X pins σ H' s'->Kp X.K H H'->HR X.K H' (updA A D (.lst (srt b us (us.map dk))))->Q (.ref D) s') :
  wpAny (model X.prog X.w) B (call (.builtin "sorted") [.ref l] kw) Q E s:=by
 obtain ⟨vs,h1,r⟩:=g.list hl
 obtain ⟨its,rv,pl,hz⟩:=I.list (SqL.of h1)
 have l1:its.length=us.length:=by rw [<- rv.length,r.length]
 refine call_function_entry_kw kind_sorted plain_sorted entry_sorted ha1 (show _ from ?_)
 unfold Builtin.«sorted»
 refine Yc (m:=checkCount "sorted" 1 1 _) (Yi (show _ from ?_))
 refine Yc (collect_list pl.isList (show _ from ?_) (by rw [YaC];lia))
 refine Yc (YcW (show _ from ?_) (by rw [YaC];lia))
 have s0:=Yac (s.heap.push (seqObj "list" #[] 0)) s.heap.objs.size (Obj.mapSeq (·++its.toArray))
 have hk1:∀ p o,s.heap.get? p=some o->((s.heap.push (seqObj "list" #[] 0)).update s.heap.objs.size (Obj.mapSeq (·++its.toArray))).get? p=some o:=fun p o q =>
  (s0.2 p (Yx (Ym q))).trans (Yd _ q)
 have I1:=I.kept (t':=s.toks) hk1
 have f1:=I1.fpOk (Yh _) (I1.hok.fresh (Yh _))
 have hs0:X.s₀.heap.objs.size<=((s.heap.push (seqObj "list" #[] 0)).update s.heap.objs.size (Obj.mapSeq (·++its.toArray))).objs.size:=I1.sz
 have I2:=I1.kept (t':=s.toks) (h':=((s.heap.push (seqObj "list" #[] 0)).update s.heap.objs.size (Obj.mapSeq (·++its.toArray))).push { cls:=.type "list",data:=.seq its.toArray }) fun p o q=>Yd _ q
 have oD:(((s.heap.push (seqObj "list" #[] 0)).update s.heap.objs.size (Obj.mapSeq (·++its.toArray))).push { cls:=.type "list",data:=.seq its.toArray }).get? ((s.heap.push (seqObj "list" #[] 0)).update s.heap.objs.size (Obj.mapSeq (·++its.toArray))).objs.size=some (seqObj "list" its.toArray 0):=Yp _ rfl
 refine Yc (YS (wpAny_call_entry_kw slot_list_sort ⟨_,oD,rfl⟩ entry_list_sort ?body (ha2 _)))
 case body =>
  generalize ((s.heap.push (seqObj "list" #[] 0)).update s.heap.objs.size (Obj.mapSeq (·++its.toArray))).objs.size=D at *
  have ht':=ht D
  show wpAny (model X.prog X.w) B.in1.in1 (Builtin.«list.sort» ⟨[.ref D],kw⟩) _ _ _
  rw [ht']
  refine Zjb I2 g r rv h64 f1 oD hdu hok hin hun hcall z0 hZ fun H' s' ys its' c I3 k3 g3 f3 o3 r3 v3=>⟨_,rfl,Yi ⟨_,rfl,?_⟩⟩
  have hsl:(srt b us (us.map dk)).length<=sizeLine:=by rw [Zi2,YaC];lia
  have I4:=I3.adopt f3 hs0 v3 (by rw [<- r3.length];exact hsl) o3
  exact h D (upd H' D (.lst ys)) s' (g3.none f3.1) I4 (k3.trans (Same.upd_new f3.1).kp) (g3.newL f3.1 r3)
theorem ZgM {k:Nat} {fa:Addr} {fd:FuncData} {x:Str} {asp:ASp} (F:FnOk X.prog X.w X.K X.mg X.base CX0 k fa fd [x] (spOf X.K asp)) (hr:Room k B) (hfr:B.frames=X.A.frames) (hb:Zav X.K fd [x] [])
  (hkey:∀ u∈us,asp [u] A (fun y A'=>y=kf u/\Ext A A')):Zc0 X pins σ B (.ref fa) A us kf (fun _=>True):=by
 intro pl s H u v x I g _ hu r rel
 have e0:=I.env0
 have e1:Env0 X.prog X.w X.K X.mg X.base B X.stack s H:=⟨hfr.trans e0.frames,e0.mod,e0.bs,e0.bsz,e0.funs,e0.frf,e0.hok,e0.bare⟩
 refine YcN (Ybp (F.run B X.stack s H ⟨[x],[]⟩ [x] [v] (fun z H'=>Kp X.K H H'/\HR X.K H' A/\RU X.K H' (kf u) z) E0 hr e1 (hb s [x] I.kIn rfl) (.cons rel .nil) ⟨[u],A,_,.cons r .nil,g,hkey u hu,fun y A' z H' kp g' r' q=>?_⟩) fun res s' hq=>?_)
 ·obtain ⟨rfl,e⟩:=q
  exact ⟨kp,HR.ext e g',r'⟩
 ·cases res with
  | error e=>exact hq.elim
  | ok fl =>
   cases fl with
   | ret y =>
    obtain ⟨z,H',I',rz,k1,g1,r1⟩:=I.after hq
    exact ⟨H',z,I',k1,g1,r1,rz⟩
   | next=>exact False.elim hq
   | brk=>exact False.elim hq
   | cont=>exact False.elim hq
end
end
noncomputable def Zij (K:YFr) (asp:ASp) (b:Bool):V->Hp->VK->Prop:=fun x H Q=>∃ l A Q' us kf dk,x=.ref l/\HR K H A/\A l=some (.lst us)/\us.length < 64/\DUs A (us.map kf) (us.map dk)/\OkD (us.map dk)/\(∀ u∈us,ZaM (dk u)=true) /\
 (∀ u∈us,asp [u] A (fun y A'=>y=kf u/\Ext A A'))/\(∀ D,A D=none->Q' (.ref D) (updA A D (.lst (srt b us (us.map dk)))))/\Aft K H Q' Q
noncomputable def tSortF (K:YFr) (asp:ASp) (b:Bool) (te:TE):TE:=fun σ H Q=>te σ H fun x H1=>Zij K asp b x H1 Q
noncomputable def xSortF (asp:ASp) (b:Bool):U->AHp->AVK->Prop:=fun x A Q=>∃ l us kf dk,x=.ref l/\A l=some (.lst us)/\us.length < 64/\DUs A (us.map kf) (us.map dk)/\OkD (us.map dk)/\(∀ u∈us,ZaM (dk u)=true) /\
 (∀ u∈us,asp [u] A (fun y A'=>y=kf u/\Ext A A'))/\∀ D,A D=none->Q (.ref D) (updA A D (.lst (srt b us (us.map dk))))
noncomputable def aSortF (asp:ASp) (b:Bool) (ae:AE):AE:=fun ρ A Q=>ae ρ A fun x A1=>xSortF asp b x A1 Q
theorem ab_sortF {K:YFr} {asp:ASp} {b:Bool} {te:TE} {ae:AE} (h:AbE K te ae):AbE K (tSortF K asp b te) (aSortF asp b ae):=fun ρ A σ H Q' Q hs g w k =>
 h ρ A σ H _ _ hs g w fun x A1 v H1 k1 g1 r1 hq0=>by
  obtain ⟨l,us,kf,dk,e,h1,h2,h3,h4,h5,h6,q⟩:=hq0
  subst e
  cases r1
  exact ⟨l,A1,Q',us,kf,dk,rfl,g1,h1,h2,h3,h4,h5,h6,q,fun u A2 v2 H2 k2 g2 r2 q2=>k _ _ _ _ (k1.trans k2) g2 r2 q2⟩
section
variable {X:Cx} {k:Nat} {fa:Addr} {fd:FuncData} {x y:Str} {asp:ASp} {e:Expr} {te:TE} {p p2 p3 p4 p5 pos:Pos} {j:Nat} {b:Bool}
theorem pe_sortF (F:FnOk X.prog X.w X.K X.mg X.base CX0 k fa fd [x] (spOf X.K asp)) (hr:Room (k + 2) X.A) (hg:Gl X "sorted") (hm:X.mg "sorted"=none) (hgy:Gl X y) (hmy:X.mg y=some (.ref fa)) (hb:Zav X.K fd [x] []) (he:PE X e te)
  (hdy:(y == ("__debug__":Str))=false:=by decide) (hst:starEach [e] X.env=[(false,eval e X.env)]:=by rfl) :
  PE X (.Call (.Name "sorted" p) [e] [⟨some "key",.Name y p2,p3⟩,⟨some "reverse",.Constant (.bool b) j p4,p5⟩] pos) (tSortF X.K asp b te):=by
 intro pins s σ H Q I h
 refine Yah (Zbm I hg hm boot_sorted (show _ from ?_) (by decide) (by decide))
 have hpa:PA X [e] (Zcc te tNil):=Za he Ze hst
 have hpk:PK X [⟨some "key",.Name y p2,p3⟩,⟨some "reverse",.Constant (.bool b) j p4,p5⟩] (Zcc (tC (.ref fa)) (Zcc (tC (.bl b)) tNil)):=Zhz (Zd6 (v:=.ref fa) hgy hmy rfl hdy) (Zhz ZfK pk_nil)
 have h':Zcc te tNil σ H (fun vs H1=>match vs with | [x]=>Zij X.K asp b x H1 Q | _=>False):=h
 refine Ydz (thn (hpa pos pins s σ H _ I h') fun us s1 ⟨vs,H1,I1,r1,q1⟩=>?_) (by rw [hst];rfl) (by rw [hst];rfl) rfl rfl
 dsimp only at q1
 split at q1
 ·obtain ⟨u,rfl,ru⟩:=r1.one
  have q2:Zcc (tC (.ref fa)) (Zcc (tC (.bl b)) tNil) σ H1 (fun zs H2=>zs=[.ref fa,.bl b]/\Zij X.K asp b _ H2 Q):=⟨rfl,q1⟩
  refine thn (hpk pos pins s1 σ H1 _ I1 q2) fun ws s2 h_q=>?_
  obtain ⟨zs,H2,I2,rz,ez,q3⟩:=h_q
  subst ez
  obtain ⟨w1,w2,rfl,rw1,rw2⟩:=rz.two
  cases rw1;cases rw2
  obtain ⟨l,A,Q',us,kf,dk,rfl,g,hl,h64,hdu,hok,hin,hkey,q,aft⟩:=q3
  cases ru
  have hun:=hr.un
  show wpAny _ _ (call (.builtin "sorted") [.ref l] [(Str.ofString "key",.ref fa),(Str.ofString "reverse",.bool b)]) _ _ _
  exact Zdr I2 g hl h64 (ksk_s2 _ _ _) (fun x=>ksk_l2 _ _ _) (fun x=>ksk_t2 _ _ _) hdu hok hin (by show X.A.units + 1 + 1 + 200 < cLine;lia) (ZgM F hr.in1.in1 rfl hb hkey) trivial (fun _ _ _ _=>trivial) fun D H' s' hD I' kp g'=>⟨.ref D,H',I',rfl,aft _ _ _ _ kp g' (.ref D) (q D hD)⟩
 ·exact q1.elim
end
open PySem PySem.Spec PyProof.Rows
noncomputable def aIfH (c:AT) (t e:AS):AS:=aIfS c t e
theorem Zgg {K:YFr} {tc:TT} {t1 t2:TS} {c:AT} {a1 a2:AS} (hc:AbT K tc c) (h1:AbS K t1 a1) (h2:AbS K t2 a2):AbS K (tIfS tc t1 t2) (aIfH c a1 a2):=ZO hc h1 h2
theorem if_yes {c:AT} {t e:AS} {D:ZbS} {ρ:ASt} {A:AHp} (h1:∀ B:Bool->AHp->Prop,B true A->c ρ A B) (h2:t D ρ A):aIfH c t e D ρ A:=h1 _ (iteP rfl h2)
theorem if_no {c:AT} {t e:AS} {D:ZbS} {ρ:ASt} {A:AHp} (h1:∀ B:Bool->AHp->Prop,B false A->c ρ A B) (h2:e D ρ A):aIfH c t e D ρ A:=h1 _ (iteN Yr h2)
section
variable {K:YFr}
noncomputable abbrev AJ:=Str->ASt->AHp->(Str->AHp->Prop)->Prop
variable {out:Str} {ρ:ASt} {A:AHp} {Q:AVK} {R:Str->AHp->Prop} {ae:AE} {t:AJ}
end
section
variable {X:Cx} {pins:List (Addr × Obj)} {σ:St} {B:Around} {A:AHp} {us:List U} {kf:U->U}
theorem Zfw {fl c:Addr} {name qual:Str} {params:Arguments} {body:Expr} {scope:Scope} {pm ctv:Value} {oc:Obj} {vs:Array Value} {tq:Tok} {p:Str} {N:List Str} {ae:AE} {k:Nat}
  (S:ZB N [p] scope) (hbind:∀ x,bindArgs (kla_fn name qual params body scope [] pm (.ref c) ctv) ⟨[x],[]⟩=pure [(p,x)])
  (m1:(fl,kla_obj name qual params body scope [] pm c ctv)∈pins) (hoc:oc.data=.fields vs) (hq:vs[1]? = some (.str qual tq))
  (hr:Room (k + 1) B) (hfr:B.frames=X.A.frames)
  (hbody:∀ (s:Shared) (H:Hp),Room k (B.deeper (envOfC qual scope s.heap.objs.size fl (.ref c)))->∃ te,PE (cxOf CX0 X.prog X.w X.K X.mg X.base N qual scope fl (.ref c) B X.stack s H E0).nox body te/\AbE X.K te ae)
  (hkey:∀ u∈us,ae (aStart N [u]) A (fun y A'=>y=kf u/\Ext A A')):Zc0 X pins σ B (.ref fl) A us kf (fun H=>H c=some (.frz oc (.own c))):=by
 intro pl s H u v x I g hz hu r rel
 have p1:=(I.pin _ (Yw _ (Ybh pl m1))).1
 have p2:s.heap.get? c=some oc:=(I.hok c _ hz).1
 have e0:=I.env0
 have e1:Env0 X.prog X.w X.K X.mg X.base B X.stack s H:=⟨hfr.trans e0.frames,e0.mod,e0.bs,e0.bsz,e0.funs,e0.frf,e0.hok,e0.bare⟩
 have rv:Vals [v] [x]:=.cons rel .nil
 have hkind:∀ y∈[(p,x)],scope.names.lookup y.1=some .local\/(scope.names.lookup y.1=some .cell/\((cellsFrom (s.heap.objs.size + 1) scope.names []).lookup y.1).isSome=true):=fun y hy=>by
  rw [YJ.mp hy]
  rcases S.par p (.head _) with q | q
  ·exact .inl q
  ·exact .inr ⟨q,Ya9 _ _ _ (.inl q)⟩
 have lim:s.heap.NoLimit:=e1.mod.nolimit.keeps fun b o e=>(e1.bs b o e).1
 obtain ⟨te,hpe,hab⟩:=hbody s H (hr.deeper _)
 refine YcN (Ybp (R:=CR CX0 X.stack X.prog X.w H s (fun z H'=>Kp X.K H H'/\HR X.K H' A/\RU X.K H' (kf u) z) E0) ?_ fun res s' hq=>?_)
 ·refine kla_callFunE hr.depth p1 rfl S.co S.gen rfl ⟨c,oc,vs,tq,rfl,p2,hoc,hq⟩ ?_
  rw [hbind]
  refine Yi ?_
  refine Ybk S.kind hkind fun env he s1 xx=>?_
  subst he
  refine ⟨lim.keeps xx.toInCall.keep,kla_codeExpr ?_⟩
  have J:Inv (cxOf CX0 X.prog X.w X.K X.mg X.base N qual scope fl (.ref c) B X.stack s H E0) [] (start N [v]) H s1:=ZcH S hr.hd e1 rfl rv xx
  refine YR (hpe.nox [] s1 (start N [v]) H (fun z H'=>Kp X.K H H'/\HR X.K H' A/\RU X.K H' (kf u) z) J (hab (aStart N [u]) A _ _ _ _ (RSt.start N (.cons r .nil)) g (hkey u hu) fun y A' z H' kp g' r' q=>?_)) (fun y s2 hs=>?_) fun e s2 hs=>hs
  ·obtain ⟨rfl,e⟩:=q
   exact ⟨kp,HR.ext e g',r'⟩
  ·obtain ⟨z,H',J',rz,q⟩:=hs
   exact ⟨z,H',J'.os,J'.bare,J'.base,J'.hok,rz,q⟩
 ·cases res with
  | error e=>exact hq.elim
  | ok fl =>
   cases fl with
   | ret y =>
    obtain ⟨z,H',I',rz,k1,g1,r1⟩:=I.after hq
    exact ⟨H',z,I',k1,g1,r1,rz⟩
   | next=>exact False.elim hq
   | brk=>exact False.elim hq
   | cont=>exact False.elim hq
noncomputable def tblO (pos:Pos) (qual:Str):AO:=.oth fun _ H P=>∃ ps:Array Value,H P=some (.tbl ps)/\TriplesOk ps.toList /\
 (codeAmong pos ps.toList=none\/∃ c oc vs t,codeAmong pos ps.toList=some (.ref c)/\H c=some (.frz oc (.own c))/\oc.data=.fields vs/\vs[1]? = some (.str qual t))
theorem ZhM {K:YFr} {H:Hp} {P:Addr} {pos:Pos} {qual:Str} {ps:Array Value} (h1:H P=some (.tbl ps)) (h2:TriplesOk ps.toList)
  (h3:codeAmong pos ps.toList=none\/∃ c oc vs t,codeAmong pos ps.toList=some (.ref c)/\H c=some (.frz oc (.own c))/\oc.data=.fields vs/\vs[1]? = some (.str qual t)):RO K H P (tblO pos qual) :=
 ⟨⟨_,h1⟩,⟨ps,h1,h2,h3⟩,fun H1 H2 ⟨qs,q1,q2,q3⟩ kp e=>⟨qs,by rw [e];exact q1,q2,q3.imp id fun ⟨c,oc,vs,t,w1,w2,w3,w4⟩=>⟨c,oc,vs,t,w1,kp.f _ _ _ w2,w3,w4⟩⟩⟩
theorem Kp.tbl {K:YFr} {H:Hp} {P c:Addr} {ps qs:Array Value} {o:HO} (h:H P=some (.tbl ps)) (hc:H c=none):Kp K H (upd (upd H P (.tbl qs)) c o):=by
 have ne:∀ a u,H a=some u->a≠c:=fun a u q z=>by rw [z,hc] at q;cases q
 refine ⟨fun a xs q=>?_,fun a xs q=>?_,fun a ob u q=>by rw [Zs (ne _ _ q),Zs (Zct q h (by intro z;cases z))];exact q⟩
 ·rcases q with (q | ⟨ob,q⟩) | q
  ·exact .inl (.inl (by rw [Zs (ne _ _ q),Zs (Zct q h (by intro z;cases z))];exact q))
  ·exact .inl (.inr ⟨ob,by rw [Zs (ne _ _ q),Zs (Zct q h (by intro z;cases z))];exact q⟩)
  ·exact .inr q
 ·rcases q with ⟨ob,q⟩ | q
  ·exact .inl ⟨ob,by rw [Zs (ne _ _ q),Zs (Zct q h (by intro z;cases z))];exact q⟩
  ·exact .inr q
theorem Inv.coded {H:Hp} {s:Shared} {P c:Addr} {ps qs:Array Value} {oc:Obj} {h':Heap} {t':Nat} (I:Inv X pins σ H s) (hP:H P=some (.tbl ps)) (hx:Heap.ExtBut P s.heap h') (hc:s.heap.objs.size<=c) (oP:h'.get? P=some { cls:=.none,data:=.fields (ps++qs) }) (occ:h'.get? c=some oc) :
  Inv X pins σ (upd (upd H P (.tbl (ps++qs))) c (.frz oc (.own c))) { s with heap:=h',toks:=t' }:=by
 have hcn:H c=none:=I.hok.fresh hc
 have ne:∀ a u,H a=some u->a≠c:=fun a u q z=>by rw [z,hcn] at q;cases q
 have old:∀ b o,s.heap.get? b=some o->b≠c:=fun b o q=>Yx (YI (Ym q) hc)
 have nP:∀ b,H b=none->b≠P:=fun b q z=>by rw [z,hP] at q;cases q
 have hPc:P≠c:=ne _ _ hP
 refine I.un ⟨fun b o q n _ _=>hx b o (nP b n) q,fun b o q n _ _=>⟨o.slots,hx b o (nP b n) q⟩,fun b o q n _=>by rw [Zs (old b o q),Zs (nP b n)];exact n,fun b o q _=>?_,fun b xs q=>?_,fun b ob u q=>?_,fun b rs q=>?_⟩ fun b u q=>?_
 ·by_cases hb:b=P
  ·rw [hb];exact ⟨_,oP⟩
  ·exact ⟨o,hx b o hb q⟩
 ·rw [Zs (ne _ _ q),Zs (Zct q hP (by intro z;cases z))];exact q
 ·rw [Zs (ne _ _ q),Zs (Zct q hP (by intro z;cases z))];exact q
 ·by_cases hb:b=P
  ·subst hb
   rw [hP] at q;cases q
   exact ⟨qs,by rw [Zs hPc,Z3]⟩
  ·exact ⟨#[],by rw [Zs (ne _ _ q),Zs hb,q];simp⟩
 ·by_cases hb:b=c
  ·subst hb
   rw [Z3] at q;cases q
   exact ⟨occ,oc,occ⟩
  ·rw [Zs hb] at q
   by_cases hb2:b=P
   ·subst hb2
    rw [Z3] at q;cases q
    exact oP
   ·rw [Zs hb2] at q
    refine (I.hok b u q).stay (fun d w hd z=>hx d w ?_ z) (fun d z=>?_) fun d xs z=>?_
    ·rcases hd with z2 | z2
     ·rw [z2];exact hb2
     ·exact fun z3=>by rw [z3,hP] at z2;cases z2
    ·rw [Zs (ne _ _ z),Zs (Zct z hP (by intro z;cases z))];exact z
    ·rw [Zs (ne _ _ z),Zs (Zct z hP (by intro z;cases z))];exact z
theorem Zgw {name qual:Str} {params:Arguments} {body:Expr} {scope:Scope} {pos:Pos} {firstLine:Nat} {H:Hp} {s:Shared} {P c0:Addr} {E:Value->Shared->Prop} {Q:Value->Shared->Prop}
  (I:Inv X pins σ H s) (g:HR X.K H A) (hA:A P=some (tblO pos qual)) (hcode:X.env.code=.ref c0) (hcd:codeHdIn X.K c0 P=true) (hcl:closureFor scope X.env=pure []) (hBA:X.base.BuiltinsAt X.mg P) (hgP:mainGlobals≠P)
  (h:∀ fl c ctv oc vs t H' s',Inv X (pins++[(fl,kla_obj name qual params body scope [] ((X.mg "__name__").getD .none) c ctv)]) σ H' s'->Kp X.K H H'->HR X.K H' A->H' c=some (.frz oc (.own c))->oc.data=.fields vs->vs[1]? = some (.str qual t)->Q (.ref fl) s') :
  wpAny (model X.prog X.w) X.A (makeFunction name qual params (.expr body) scope X.env [] [] [] pos firstLine) Q E s:=by
 obtain ⟨ps,h1,h2,h3⟩:=(g P _ hA).2.1
 have oP:s.heap.get? P=some (tabObj ps):=I.hok P _ h1
 have gl:=I.mod.glob.keeps I.bk
 have C:=codeHd_of_K I.kIn hcd
 have pinned:∀ {H':Hp} {s':Shared} {o:Obj} (I':Inv X pins σ H' s') (t:Nat),(∀ v,o.data≠.cell v)->o.isFreed=false->Inv X (pins++[(s'.heap.objs.size,o)]) σ H' { s' with heap:=s'.heap.push o,toks:=t }:=by
  intro H' s' o I' t hd hfr
  have f:=I'.fpOk (Yh _) (I'.hok.fresh (Yh _))
  have I2:=I'.kept (t':=t) (h':=s'.heap.push o) fun b u q=>Yd _ q
  refine I2.pins_of fun p hp=>?_
  rcases Yaa.mp hp with hp | hp
  ·exact I2.pin p (Yw _ hp)
  ·rw [YJ.mp hp]
   exact ⟨Yp _ hfr,f.1,f.2.1,f.2.2.1,hd⟩
 rcases h3 with h3 | ⟨c,oc,vs,t,h3,h4,h5,h6⟩
 ·refine kla_makeFunction hcl I.ok.glob gl hcode C oP h2 h3 hgP (hBA.keeps I.bk) fun c' ctv h' tk hx hge hlt hrec htab=>?_
  obtain ⟨c,oc,vs,t,e,ho,hd,hq⟩:=hrec
  cases e
  have I1:=I.coded (t':=tk) h1 hx hge htab ho
  have hcn:H c'=none:=I.hok.fresh hge
  have kp:Kp X.K H (upd (upd H P (.tbl (ps++#[rawInt pos.line,rawInt pos.col,.ref c']))) c' (.frz oc (.own c'))):=Kp.tbl h1 hcn
  have hPc:P≠c':=fun z=>by rw [z,hcn] at h1;cases h1
  refine h _ c' ctv oc vs t _ _ (pinned I1 tk (fun v z=>nomatch z) rfl) kp (fun b o q=>?_) Z3 hd hq
  by_cases hb:b=P
  ·subst hb
   rw [hA] at q;cases q
   refine ZhM (by rw [Zs hPc,Z3]) ?_ (.inr ⟨c',oc,vs,t,?_,Z3,hd,hq⟩)
   ·rw [Yc3];exact TriplesOk_snoc _ _ _ _ h2
   ·rw [Yc3];exact codeAmong_snoc _ h2 h3
  ·have hbc:b≠c':=fun z=>by rw [z,g.none hcn] at q;cases q
   exact (g b o q).keep kp (by rw [Zs hbc,Zs hb])
 ·refine kla_makeFunctionHit hcl I.ok.glob gl hcode C oP h2 h3 (hBA.keeps I.bk) fun ctv h' tk hk hsz=>?_
  have I1:=I.kept (t':=tk) hk
  exact h _ c ctv oc vs t H _ (pinned I1 tk (fun v z=>nomatch z) rfl) (.refl H) g h4 h5 h6
end
theorem Zgf {M:Model} {A:Around} {E:Value->Shared->Prop} {s:Shared} {env:Env} {params:Arguments} {body:Expr} {scope:Scope} {pos:Pos} {Q:Value->Shared->Prop} (hd:params.defaults=[]) (hk:params.kw_defaults=[])
  (h:wpAny M A (makeFunction "<lambda>" (env.qual++"<lambda>") params (.expr body) scope env [] [] [] pos pos.line) Q E s):wpAny M A (eval (.Lambda params body scope pos) env) Q E s:=by
 rw [arm_eval_Lambda,defaultsOf_eq,hk,hd]
 exact Yc (YbC (Yc (YS (Yi h))))
noncomputable def rSortL (K:YFr) (P:Addr) (lpos:Pos) (qual:Str) (N:List Str) (ae:AE) (b:Bool):V->Hp->VK->Prop:=fun x H Q=>∃ l A Q' us kf dk,x=.ref l/\HR K H A/\A P=some (tblO lpos qual)/\A l=some (.lst us)/\us.length < 64/\DUs A (us.map kf) (us.map dk)/\OkD (us.map dk)/\(∀ u∈us,ZaM (dk u)=true) /\
 (∀ u∈us,ae (aStart N [u]) A (fun y A'=>y=kf u/\Ext A A'))/\(∀ D,A D=none->Q' (.ref D) (updA A D (.lst (srt b us (us.map dk)))))/\Aft K H Q' Q
noncomputable def tSortL (K:YFr) (P:Addr) (lpos:Pos) (qual:Str) (N:List Str) (ae:AE) (b:Bool) (te:TE):TE:=fun σ H Q=>te σ H fun x H1=>rSortL K P lpos qual N ae b x H1 Q
noncomputable def xSortL (P:Addr) (lpos:Pos) (qual:Str) (N:List Str) (ae:AE) (b:Bool):U->AHp->AVK->Prop:=fun x A Q=>∃ l us kf dk,x=.ref l/\A P=some (tblO lpos qual)/\A l=some (.lst us)/\us.length < 64/\DUs A (us.map kf) (us.map dk)/\OkD (us.map dk)/\(∀ u∈us,ZaM (dk u)=true) /\
 (∀ u∈us,ae (aStart N [u]) A (fun y A'=>y=kf u/\Ext A A'))/\∀ D,A D=none->Q (.ref D) (updA A D (.lst (srt b us (us.map dk))))
noncomputable def aSortL (P:Addr) (lpos:Pos) (qual:Str) (N:List Str) (ae:AE) (b:Bool) (aa:AE):AE:=fun ρ A Q=>aa ρ A fun x A1=>xSortL P lpos qual N ae b x A1 Q
theorem ab_sortL {K:YFr} {P:Addr} {lpos:Pos} {qual:Str} {N:List Str} {ae:AE} {b:Bool} {te:TE} {aa:AE} (h:AbE K te aa):AbE K (tSortL K P lpos qual N ae b te) (aSortL P lpos qual N ae b aa):=fun ρ A σ H Q' Q hs g w k =>
 h ρ A σ H _ _ hs g w fun x A1 v H1 k1 g1 r1 hq0=>by
  obtain ⟨l,us,kf,dk,e,h0,h1,h2,h3,h4,h5,h6,q⟩:=hq0
  subst e
  cases r1
  exact ⟨l,A1,Q',us,kf,dk,rfl,g1,h0,h1,h2,h3,h4,h5,h6,q,fun u A2 v2 H2 k2 g2 r2 q2=>k _ _ _ _ (k1.trans k2) g2 r2 q2⟩
section
variable {X:Cx} {k:Nat} {P c0:Addr} {x y:Str} {e body:Expr} {te:TE} {p lpos p3 p4 p5 pos:Pos} {j:Nat} {b:Bool} {params:Arguments} {scope:Scope} {qual:Str} {N:List Str} {ae:AE}
theorem pe_sortL (hr:Room (k + 3) X.A) (hg:Gl X "sorted") (hm:X.mg "sorted"=none) (he:PE X e te) (hcode:X.env.code=.ref c0) (hcd:codeHdIn X.K c0 P=true) (hcl:closureFor scope X.env=pure []) (hBA:X.base.BuiltinsAt X.mg P) (hgP:mainGlobals≠P) (hqu:X.env.qual++"<lambda>"=qual)
  (S:ZB N [y] scope) (hd0:params.defaults=[]) (hk0:params.kw_defaults=[]) (hbind:∀ pm c ctv x,bindArgs (kla_fn "<lambda>" qual params body scope [] pm (.ref c) ctv) ⟨[x],[]⟩=pure [(y,x)])
  (hbody:∀ (fl c:Addr) (s:Shared) (H:Hp),Room k (X.A.in1.in1.deeper (envOfC qual scope s.heap.objs.size fl (.ref c)))->∃ te,PE (cxOf CX0 X.prog X.w X.K X.mg X.base N qual scope fl (.ref c) X.A.in1.in1 X.stack s H E0).nox body te/\AbE X.K te ae)
  (hst:starEach [e] X.env=[(false,eval e X.env)]:=by rfl) :
  PE X (.Call (.Name "sorted" p) [e] [⟨some "key",.Lambda params body scope lpos,p3⟩,⟨some "reverse",.Constant (.bool b) j p4,p5⟩] pos) (tSortL X.K P lpos qual N ae b te):=by
 intro pins s σ H Q I h
 refine Yah (Zbm I hg hm boot_sorted (show _ from ?_) (by decide) (by decide))
 have hpa:PA X [e] (Zcc te tNil):=Za he Ze hst
 have h':Zcc te tNil σ H (fun vs H1=>match vs with | [x]=>rSortL X.K P lpos qual N ae b x H1 Q | _=>False):=h
 refine Ydz (thn (hpa pos pins s σ H _ I h') fun us s1 ⟨vs,H1,I1,r1,q1⟩=>?_) (by rw [hst];rfl) (by rw [hst];rfl) rfl rfl
 dsimp only at q1
 split at q1
 ·obtain ⟨u,rfl,ru⟩:=r1.one
  obtain ⟨l,A,Q',us,kf,dk,rfl,g,hA,hl,h64,hdu,hok,hin,hkey,q,aft⟩:=q1
  cases ru
  have hun:=hr.un
  show wpAny _ _ (evalAll [(do let v <- eval (.Lambda params body scope lpos) X.env;standAt pos;pure v),(do let v <- eval (.Constant (.bool b) j p4) X.env;standAt pos;pure v)]) _ _ s1
  refine Ybq (Yc ?_)
  refine Zgf hd0 hk0 ?_
  rw [hqu]
  refine Zgw I1 g hA hcode hcd hcl hBA hgP fun fl c ctv oc vs t H2 s2 I2 k2 g2 hz hoc hq=>?_
  refine Yc (Ya1 (Yi ?_))
  refine Ybq (Yc (Constant_bool ?_))
  refine Yc (Ya1 (Yi ?_))
  refine YbC ?_
  show wpAny _ _ (call (.builtin "sorted") [.ref l] [(Str.ofString "key",.ref fl),(Str.ofString "reverse",.bool b)]) _ _ _
  exact Zdr I2 g2 hl h64 (ksk_s2 _ _ _) (fun x=>ksk_l2 _ _ _) (fun x=>ksk_t2 _ _ _) hdu hok hin (by show X.A.units + 1 + 1 + 200 < cLine;lia)
   (Zfw S (hbind _ _ _) (Yw _ (.head _)) hoc hq hr.in1.in1 rfl (hbody fl c) hkey) hz (fun _ _ z kp=>kp.f _ _ _ z) fun D H' s' hD I' kp g'=>⟨.ref D,H',I'.unpinned,rfl,aft _ _ _ _ (k2.trans kp) g' (.ref D) (q D hD)⟩
 ·exact q1.elim
end
noncomputable abbrev Tabs:=List (Addr × Pos × Str)
noncomputable def OnlyT (ts:Tabs) (H:Hp):Prop:=∀ b,H b=none\/(∃ o xs,H b=some (.frz o (.lst xs)))\/(b∈ts.map (·.1)/\H b=some (.tbl #[]))
theorem Zhl {P:Program} {w:World} {K:YFr} {mg mb:Str->Option Value} {k:Nat} {fa a:Addr} {fd:FuncData} {x:Str} {sp:Sp} {s₁:Shared} {vs:List Value} {ns:List Int} {ts:Tabs}
  (KX:K.In s₁.heap) (hns:s₁.heap.Ns mainGlobals mg) (hb:s₁.heap.Ns builtinsNs mb) (hbb:∀ x:Str,x≠"__name__"->mb x=bootBuiltins x) (hlim:s₁.heap.NoLimit) (hg:s₁.gens=#[])
  (hbm:∃ bm ob,mg "__builtins__"=some (.ref bm)/\bm≠builtinsNs/\s₁.heap.get? bm=some ob/\ob.cls=.type "module"/\ob.dict=some builtinsNs/\ob.data=.plain)
  (hts:∀ t∈ts,s₁.heap.get? t.1=some (tabObj #[])/\K.lookup t.1=none/\isCodeTable s₁.heap t.1)
  (ha:s₁.heap.get? a=some { cls:=.type "list",data:=.seq vs.toArray }) (hi:IntsAre vs ns) (hl:ns.length<=sizeLine) (hr:Room k callerA)
  (F:∀ base:Heap,K.In base->base.Ns mainGlobals mg->(∀ t∈ts,base.BuiltinsAt mg t.1)->FnOk P w K mg base CX0 k fa fd [x] sp) (hbind:∀ (s:Shared) (u:Value),BindsTo s fd ⟨[u],[]⟩ [(x,u)])
  (hsp:∀ H:Hp,OnlyT ts H->(∀ t∈ts,H t.1=some (.tbl #[]))->SqL K H a (ns.map V.int)->sp [.ref a] H (fun v _=>v=.bl true) E0) :
  codeAny (model P w) callerA (.call (.ref fa) ⟨[.ref a],[]⟩) (fun r s'=>r=.ok (.ret (.bool true))/\OldK s₁.heap s'.heap/\s'.os=s₁.os/\AllBare s'.gens) s₁:=by
 have rv:=Zei hi
 have lenV:=hi.length
 have na:∀ t∈ts,t.1≠a:=fun t ht z=>by
  have e:=(hts t ht).1
  rw [z,ha] at e;cases e
 have core : ∀ H:Hp,OnlyT ts H->(∀ t∈ts,H t.1=some (.tbl #[]))->SqL K H a (ns.map V.int)->HOk P w H s₁.heap->(∀ b,H b≠none->b=a\/b∈ts.map (·.1))->(H a≠none->K.lookup a=none) ->
   codeAny (model P w) callerA (.call (.ref fa) ⟨[.ref a],[]⟩) (fun r s'=>r=.ok (.ret (.bool true))/\OldK s₁.heap s'.heap/\s'.os=s₁.os/\AllBare s'.gens) s₁:=by
  intro H hO hT hS hok hA hK
  have trkd:∀ {b:Addr} {o:Obj},s₁.heap.get? b=some o->H b≠none->o={ cls:=.type "list",data:=.seq vs.toArray }\/o=tabObj #[]:=fun {b o} e n=>by
   rcases hA b n with z | z
   ·rw [z,ha] at e;cases e;exact .inl rfl
   ·obtain ⟨t,ht,rfl⟩:=Yt.mp z
    rw [(hts t ht).1] at e;cases e;exact .inr rfl
  have base_of:∀ {b:Addr} {o:Obj},s₁.heap.get? b=some o->H b=none->(hidT s₁.heap H).get? b=some o:=fun e n=>hidT_get e n
  have noA:∀ {b:Addr} {o:Obj} {es:Array DictEntry} {ep:Nat},s₁.heap.get? b=some o->o.data=.dict es ep->H b=none:=fun {b o es ep} e d=>by
   cases q:H b with
   | none=>rfl
   | some u =>
    rcases trkd e (by rw [q];simp) with z | z
    ·rw [z] at d;cases d
    ·rw [z] at d;cases d
  have nsK:∀ {b:Addr} {m:Str->Option Value},s₁.heap.Ns b m->(hidT s₁.heap H).Ns b m:=fun {b m} ⟨o,es,ep,e,d,r⟩=>⟨o,es,ep,base_of e (noA e d),d,r⟩
  have hKb:K.In (hidT s₁.heap H):=fun b o e=>base_of (KX b o e) (by
   cases q:H b with
   | none=>rfl
   | some u =>
    rcases hA b (by rw [q];simp) with z | z
    ·subst z
     rw [hK (by rw [q];simp)] at e;cases e
    ·obtain ⟨t,ht,rfl⟩:=Yt.mp z
     rw [(hts t ht).2.1] at e;cases e)
  have hM:Mod K mg (hidT s₁.heap H):=⟨hKb,nsK hns,⟨mb,nsK hb,hbb⟩,let ⟨mc,h1,h2⟩:=hlim;⟨mc,nsK h1,h2⟩⟩
  have hBA:∀ t∈ts,(hidT s₁.heap H).BuiltinsAt mg t.1:=fun t ht=>by
   obtain ⟨bm,ob,b1,b2,b3,b4,b5,b6⟩:=hbm
   have hn:H bm=none:=by
    cases q:H bm with
    | none=>rfl
    | some u =>
     rcases trkd b3 (by rw [q];simp) with z | z
     ·rw [z] at b6;cases b6
     ·rw [z] at b6;cases b6
   refine ⟨bm,ob,b1,b2,fun z=>?_,fun z=>?_,base_of b3 hn,b4,b5,b6⟩
   ·obtain ⟨o,es,ep,e,d,_⟩:=hns
    rw [z,e] at b3;cases b3
    rw [b6] at d;cases d
   ·rw [z,(hts t ht).1] at b3;cases b3;cases b6
  have e0:Env0 P w K mg (hidT s₁.heap H) callerA [] s₁ H:=⟨rfl,hM,fun b o e=>of_hidT e,Ydm (Zja _ _),trivial,fun b hb=>absurd (show b∈([]:List Addr) from hb) (by simp),hok,.of_eq hg⟩
  refine Ybp ((F _ hKb (nsK hns) hBA).run callerA [] s₁ H ⟨[.ref a],[]⟩ [.ref a] [.ref a] _ _ hr e0 (hbind s₁ (.ref a)) (.cons rfl .nil) (hsp H hO hT hS)) fun r s' h=>?_
  cases r with
  | error e=>exact h.elim
  | ok fl =>
   cases fl with
   | next=>exact False.elim h
   | brk=>exact False.elim h
   | cont=>exact False.elim h
   | ret u =>
    obtain ⟨v,H',os,bare,un,hok',r',q⟩:=h
    have q':v=.bl true:=q
    subst q'
    obtain rfl:u=Value.bool true:=r'
    have cases3:∀ b o,s₁.heap.get? b=some o->s'.heap.get? b=some o\/(b∈ts.map (·.1)/\∃ more,s'.heap.get? b=some (tabObj more)):=fun b o e=>by
     rcases hO b with z | ⟨ob,xs,z⟩ | ⟨z1,z2⟩
     ·exact .inl (un.keep b o e z (by intro y;exact absurd (show b∈([]:List Addr) from y) (by simp)) (by simp))
     ·have y2:=un.frzs b ob _ z
      obtain ⟨e1,_⟩:=hok b _ z
      obtain ⟨e2,_⟩:=hok' b _ y2
      rw [e] at e1;cases e1
      exact .inl e2
     ·obtain ⟨more,y2⟩:=un.tbls b _ z2
      exact .inr ⟨z1,_,hok' b _ y2⟩
    refine ⟨rfl,⟨fun b o e=>?_,fun b o e=>?_⟩,os,bare⟩
    ·rcases cases3 b o e with y | ⟨y1,more,y2⟩
     ·exact .inl y
     ·obtain ⟨t,ht,rfl⟩:=Yt.mp y1
      have e':=(hts t ht).1
      rw [e] at e';cases e'
      exact .inr (.inl ⟨(hts t ht).2.2,rfl,#[],more,rfl,by rw [y2];simp⟩)
    ·rcases cases3 b o e with y | ⟨_,more,y⟩
     ·exact ⟨_,y⟩
     ·exact ⟨_,y⟩
 have tin:∀ t∈ts,t.1∈ts.map (·.1):=fun t ht=>Yt.mpr ⟨t,ht,rfl⟩
 cases hk:K.lookup a with
 | some o =>
  have e:=KX a o hk
  rw [ha] at e
  cases e
  refine core (fun b=>if b∈ts.map (·.1) then some (.tbl #[]) else none) (fun b=>?_) (fun t ht=>if_pos (tin t ht)) (.inr ⟨_,vs.toArray,_,hk,rfl,rfl,rfl,by rw [Yk,lenV];exact hl,by simpa using rv⟩) (fun b u z=>?_) (fun b z=>?_) fun z=>?_
  ·by_cases h:b∈ts.map (·.1)
   ·exact .inr (.inr ⟨h,if_pos h⟩)
   ·exact .inl (if_neg h)
  ·by_cases h:b∈ts.map (·.1)
   ·have z':=(if_pos h).symm.trans z
    cases z'
    obtain ⟨t,ht,rfl⟩:=Yt.mp h
    exact (hts t ht).1
   ·have z':=(if_neg h).symm.trans z
    cases z'
  ·by_cases h:b∈ts.map (·.1)
   ·exact .inr h
   ·exact absurd (if_neg h) z
  ·have h:a ∉ ts.map (·.1):=fun h=>by
    obtain ⟨t,ht,e⟩:=Yt.mp h
    exact na t ht e
   exact absurd (if_neg h) z
 | none =>
  refine core (fun b=>if b=a then some (.frz { cls:=.type "list",data:=.seq vs.toArray } (.lst (ns.map V.int))) else if b∈ts.map (·.1) then some (.tbl #[]) else none) (fun b=>?_) (fun t ht=>(if_neg (na t ht)).trans (if_pos (tin t ht))) (.inl (.inr ⟨{ cls:=.type "list",data:=.seq vs.toArray },if_pos rfl⟩)) (fun b u z=>?_) (fun b z=>?_) fun _=>hk
  ·by_cases hb:b=a
   ·exact .inr (.inl ⟨_,_,if_pos hb⟩)
   ·by_cases h:b∈ts.map (·.1)
    ·exact .inr (.inr ⟨h,(if_neg hb).trans (if_pos h)⟩)
    ·exact .inl ((if_neg hb).trans (if_neg h))
  ·by_cases hb:b=a
   ·have z':=(if_pos hb).symm.trans z
    cases z'
    subst hb
    exact ⟨ha,by rw [Yb];exact hl,vs,_,rv,ha⟩
   ·have z':=(if_neg hb).symm.trans z
    by_cases h:b∈ts.map (·.1)
    ·have z2:=(if_pos h).symm.trans z'
     cases z2
     obtain ⟨t,ht,rfl⟩:=Yt.mp h
     exact (hts t ht).1
    ·have z2:=(if_neg h).symm.trans z'
     cases z2
  ·by_cases hb:b=a
   ·exact .inl hb
   ·by_cases h:b∈ts.map (·.1)
    ·exact .inr h
    ·exact absurd ((if_neg hb).trans (if_neg h)) z
theorem walk_ofT {l:PySem.W.OpenLaw} {n k:Nat} {q:Program} {loose:List Str} {XP:(Str->Option Value)->Heap->Prop} {YP:World->Heap->Prop} {d:DefRec} {K:Params->YFr} {sp:World->Sp} {x:Str} {ts:Tabs}
  (hn:l.most=some n) (hn2:n<=sizeLine) (hdf:d.params.defaults=[]) (hr:Room k callerA)
  (hY:∀ (w:World) (h:Heap),YP w h->(K w.params).In h/\∀ t∈ts,h.get? t.1=some (tabObj #[]))
  (hK:∀ (w:World) (t:Addr × Pos × Str),t∈ts->(K w.params).lookup t.1=none/\∃ c,codeHdIn (K w.params) c t.1=true)
  (F : ∀ (w:World) (mg:Str->Option Value) (fa:Addr) (h:Heap),(K w.params).In h->h.Ns mainGlobals mg->mg d.name=some (.ref fa) ->
   ∃ fd:FuncData,(∀ (s:Shared) (u:Value),BindsTo s fd ⟨[u],[]⟩ [(x,u)]) /\
    ∀ base:Heap,(K w.params).In base->base.Ns mainGlobals mg->(∀ t∈ts,base.BuiltinsAt mg t.1)->FnOk l.prog w (K w.params) mg base CX0 k fa fd [x] (sp w))
  (hsp:∀ (w:World) (H:Hp) (a:Addr) (ns:List Int),ns.length<=n->OnlyT ts H->(∀ t∈ts,H t.1=some (.tbl #[]))->SqL (K w.params) H a (ns.map V.int)->sp w [.ref a] H (fun v _=>v=.bl true) E0) :
  PySem.W.WalkO q loose XP YP l.row.toRowW d [] (fun f vs=>PySem.call f vs):=by
 refine Att.attach_call hn hdf fun w s₀ s₁ mg mb fa o pm cd doc a vs ns G Y ho hd hcd hmg hobj hints hlen hg=>?_
 obtain ⟨KX,hT⟩:=hY w _ Y
 obtain ⟨fd,hb,hF⟩:=F w mg fa _ KX G.T.g hmg
 exact Zhl (ts:=ts) KX G.T.g G.T.b G.T.builtins G.T.nolimit hg G.T.bmain (fun t ht=>⟨hT t ht,(hK w t ht).1,let ⟨c,hc⟩:=(hK w t ht).2;((codeHd_of_K KX hc).tab (hT t ht)).isCodeTable⟩) hobj hints (YH hlen hn2) hr hF hb (fun H hO h1 hS=>hsp w H a ns hlen hO h1 hS)
noncomputable def ZcT (ts:Tabs):ASp:=fun us A Q=>∃ ns:List Int,us=[.rol (ns.map U.int)]/\ns.length<=63/\(∀ t∈ts,A t.1=some (tblO t.2.1 t.2.2))/\∀ A',Q (.bl true) A'
theorem law_inT {K:YFr} {H:Hp} {a:Addr} {ns:List Int} {E:XK} {ts:Tabs} (hd:(ts.map (·.1)).Nodup) (hl:ns.length<=63) (hO:OnlyT ts H) (hT:∀ t∈ts,H t.1=some (.tbl #[])) (hS:SqL K H a (ns.map V.int)):spOf K (ZcT ts) [.ref a] H (fun v _=>v=.bl true) E:=by
 have hR:SqR K H a (ns.map V.int):=by
  rcases hS with (h | h) | h
  ·rcases hO a with e | ⟨o,xs,e⟩ | ⟨_,e⟩ <;> rw [e] at h <;> cases h
  ·exact .inl h
  ·exact .inr h
 refine ⟨[.rol (ns.map U.int)],fun b=>(ts.find? fun t=>decide (t.1=b)).map fun t=>tblO t.2.1 t.2.2,fun u _=>u=.bl true,.one (.rol hR RUs.of_ints),(fun b o e=>?_),⟨ns,rfl,hl,fun t ht=>?_,fun _=>rfl⟩,fun u A v H' _ _ r e=>by subst e;cases r;rfl⟩
 ·obtain ⟨t,ht,rfl⟩:=Y8.mp e
  have h1:=List.mem_of_find?_eq_some ht
  have h2:t.1=b:=Yay (List.find?_some (p:=fun t:Addr × Pos × Str=>decide (t.1=b)) ht)
  subst h2
  exact ZhM (hT t h1) trivial (.inl rfl)
 ·have : ts.find? (fun t'=>decide (t'.1=t.1))=some t:=by
   clear hO hT
   induction ts with
   | nil=>cases ht
   | cons y ys ih =>
    rw [YE,Ya3] at hd
    rcases Yv.mp ht with z | z
    ·subst z;simp
    ·have:y.1≠t.1:=fun e=>hd.1 (by rw [e];exact Yt.mpr ⟨t,z,rfl⟩)
     rw [List.find?_cons_of_neg (by simpa using this)]
     exact ih hd.2 z
  show (ts.find? fun t'=>decide (t'.1=t.1)).map _=_
  rw [this];rfl
section
variable {X:Cx} {pins:List (Addr × Obj)} {σ:St} {B:Around} {A:AHp} {us:List U} {kl:U->List U} {dl:U->List PyData} {Z:Hp->Prop} {f:Value} {l I S:Addr} {R:Result->Shared->Prop} {H0:Hp}
noncomputable def Zcu (X:Cx) (pins:List (Addr × Obj)) (σ:St) (B:Around) (f:Value) (A0:AHp) (us:List U) (kl:U->List U) (Z:Hp->Prop):Prop :=
 ∀ (pl:List (Addr × Obj)) (s:Shared) (H:Hp) (A:AHp) (u:U) (v:V) (x:Value),Inv X (pins++pl) σ H s->Ext A0 A->HR X.K H A->Z H->u∈us->RU X.K H u v->RelV v x ->
  wpAny (model X.prog X.w) B (call f [x]) (fun y s'=>∃ H' z,y=.ref z/\Inv X (pins++pl) σ H' s'/\Kp X.K H H'/\A z=none/\HR X.K H' (updA A z (.lst (kl u)))) (fun _ _=>False) s
noncomputable def ltL (dl:U->List PyData) (us:List U):Nat->Nat->Bool:=ltD (us.map fun u=>.list (dl u))
theorem ltL_at {i j:Nat} {u w:U} (hi:us[i]? = some u) (hj:us[j]? = some w):ltL dl us i j=ltv (.list (dl u)) (.list (dl w)):=by
 unfold ltL ltD
 rw [Yn,Yn,Yl,Yl,hi,hj];rfl
theorem ZiS {H:Hp} {s:Shared} {i:Nat} {u:U} (J:Inv X pins σ H s) (g:HR X.K H A) (hl:A l=some (.lst us)) (hu:us[i]? = some u):∃ (its:List Value) (x:Value) (v:V),s.heap.IsList l its.toArray/\its.toArray[i]? = some x/\RU X.K H u v/\RelV v x/\its.length=us.length:=by
 obtain ⟨vs,h1,r⟩:=g.list hl
 obtain ⟨its,rv,pl,hz⟩:=J.list (SqL.of h1)
 obtain ⟨v,hv,ru⟩:=r.get' hu
 obtain ⟨x,hx,rel⟩:=rv.get hv
 exact ⟨its,x,v,pl.isList,by rw [List.getElem?_toArray];exact hx,ru,rel,by rw [<- rv.length,r.length]⟩
theorem listed {H:Hp} {s:Shared} (J:Inv X pins σ H s) (g:HR X.K H A) (hl:A l=some (.lst us)):∃ its:List Value,s.heap.IsList l its.toArray/\its.length=us.length:=by
 obtain ⟨vs,h1,r⟩:=g.list hl
 obtain ⟨its,rv,pl,hz⟩:=J.list (SqL.of h1)
 exact ⟨its,pl.isList,by rw [<- rv.length,r.length]⟩
theorem called {H:Hp} {s:Shared} {oI oS:Obj} {u:U} {v:V} {x:Value} {A1:AHp} {Q:Value->Shared->Prop} (hcall:Zcu X pins σ B f A us kl Z) (J:Inv X pins σ H s) (fI:FpOk X pins H I) (fS:FpOk X pins H S) (eI:s.heap.get? I=some oI) (eS:s.heap.get? S=some oS) (dI:∀ v,oI.data≠.cell v) (dS:∀ v,oS.data≠.cell v)
  (hE:Ext A A1) (g:HR X.K H A1) (z:Z H) (hu:u∈us) (ru:RU X.K H u v) (rel:RelV v x)
  (h:∀ H' z s',Inv X pins σ H' s'->Kp X.K H H'->A1 z=none->HR X.K H' (updA A1 z (.lst (kl u)))->FpOk X pins H' I->FpOk X pins H' S->s'.heap.get? I=some oI->s'.heap.get? S=some oS->Q (.ref z) s') :
  wpAny (model X.prog X.w) B (call f [x]) Q (fun _ _=>False) s:=by
 have J1:=J.pinned (fp:=[I,S]) (fun p hp=>by
  rcases Yv.mp hp with rfl | hp
  ·exact fI
  ·rw [YJ.mp hp];exact fS) (fun p hp=>by
  rcases Yv.mp hp with rfl | hp
  ·exact ⟨_,eI,dI⟩
  ·rw [YJ.mp hp];exact ⟨_,eS,dS⟩)
 refine YR (hcall _ s H A1 u v x J1 hE g z hu ru rel) (fun y s' hy=>?_) fun _ _ hF=>hF
 obtain ⟨H',z',rfl,J2,kp,hz,g2⟩:=hy
 have pI:=J2.pin (I,oI) (Yw _ (Yw _ (ZaX (.head _) eI)))
 have pS:=J2.pin (S,oS) (Yw _ (Yw _ (ZaX (.tail _ (.head _)) eS)))
 exact h H' z' s' J2.unpinned kp hz g2 (ZhX fI pI.2.1) (ZhX fS pS.2.1) pI.1 pS.1
theorem Zds {H:Hp} {s:Shared} {A1:AHp} {zz:Addr} {ks:List U} {ds:List PyData} (J:Inv X pins σ H s) (g:HR X.K H A1) (h:A1 zz=some (.lst ks)) (hd:DUs A1 ks ds):∃ as,Reads s.heap (.ref zz) (.list ds) as :=
 Rep.reads J (DU.rep g (.lst h hd) (.ref zz)) rfl
theorem minK_go (hh:B.in1.handled=none) (hl:A l=some (.lst us)) (hcall:Zcu X pins σ B.in1 f A us kl Z) (hZ:∀ H H',Z H->Kp X.K H H'->Z H') (hdu:∀ u∈us,∀ A',DUs A' (kl u) (dl u)) (hok:OkD (us.map fun u=>.list (dl u))) (hun:B.in1.units + 200 < cLine) (hIS:I≠S) (hfn:f≠.none)
  (hloop : ∀ (s:Shared) (vb kb:Value) (c:Nat) (R:Result->Shared->Prop),s.heap.get? S=some (seqObj "list" #[vb,kb] c) ->
   wpAny (model X.prog X.w) B.in1 (pyNext (.ref I)) (fun o s1=>match o with
    | none=>∃ c1,s1.heap.get? S=some (seqObj "list" #[vb,kb] c1)/\R (.ok (.ret vb)) { s1 with heap:=s1.heap.update S (Obj.mapSeq fun _=>#[]) }
    | some v=>wpAny (model X.prog X.w) B.in1 (call f [v]) (fun k s2=>wpAny (model X.prog X.w) B.in1 (richCompare .Lt k kb) (fun q s3=>∃ b,q=.bool b /\
      if b=true then ∃ c3,s3.heap.get? S=some (seqObj "list" #[vb,kb] c3)/\codeAny (model X.prog X.w) B (.builtin "min.loop" ⟨[.ref I,f,.ref S],[]⟩) R { s3 with heap:=s3.heap.update S (Obj.mapSeq fun _=>#[v,k]) }
      else codeAny (model X.prog X.w) B (.builtin "min.loop" ⟨[.ref I,f,.ref S],[]⟩) R s3) (fun _ _=>False) s2) (fun _ _=>False) s1) (fun _ _=>False) s ->
   codeAny (model X.prog X.w) B (.builtin "min.loop" ⟨[.ref I,f,.ref S],[]⟩) R s)
  (hR:∀ H' s' u v x,Inv X pins σ H' s'->Kp X.K H0 H'->HR X.K H' A->us[argBest (ltL dl us) (us.length - 1)]? = some u->RU X.K H' u v->RelV v x->R (.ok (.ret x)) s') :
  ∀ (r j:Nat) (s:Shared) (H:Hp) (ub:U) (wb:V) (vb:Value) (zb:Addr) (c:Nat),us.length - (j + 1)=r->j + 1<=us.length->Inv X pins σ H s->Kp X.K H0 H->Z H->FpOk X pins H I->FpOk X pins H S->s.heap.IsListIter I l (j + 1)->s.heap.get? S=some (seqObj "list" #[vb,.ref zb] c) ->
   A zb=none->HR X.K H (updA A zb (.lst (kl ub)))->us[argBest (ltL dl us) j]? = some ub->RU X.K H ub wb->RelV wb vb->codeAny (model X.prog X.w) B (.builtin "min.loop" ⟨[.ref I,f,.ref S],[]⟩) R s:=by
 intro r
 induction r with
 | zero =>
  intro j s H ub wb vb zb c hr hj J k0 z0 fI fS hit eS hzb g hub rub relb
  have hin:j + 1=us.length:=by lia
  have hl1:updA A zb (.lst (kl ub)) l=some (.lst us):=by rw [Zk (neA hl hzb)];exact hl
  obtain ⟨its,il,hlen⟩:=listed J g hl1
  refine hloop s vb (.ref zb) c R eS (YcE hh hit il (by simp;lia) fun h' he'=>?_)
  have J1:=J.mine (t':=s.toks) fI fun b o hb q=>he' b o hb q
  have eS1:=he' S _ (Ne.symm hIS) eS
  refine ⟨c,eS1,?_⟩
  have s1:=Yac h' S (Obj.mapSeq fun _=>(#[]:Array Value))
  have J2:=J1.mine (t':=s.toks) (s:={ s with heap:=h',toks:=s.toks }) fS fun b o hb q=>(s1.2 b hb).trans q
  refine hR H _ ub wb vb J2 k0 (HR.ext (Ext.new hzb) g) ?_ rub relb
  rw [<- hin];exact hub
 | succ r ih =>
  intro j s H ub wb vb zb c hr hj J k0 z0 fI fS hit eS hzb g hub rub relb
  have hlt:j + 1 < us.length:=by lia
  have hl1:updA A zb (.lst (kl ub)) l=some (.lst us):=by rw [Zk (neA hl hzb)];exact hl
  have hu:us[j + 1]? = some us[j + 1]:=Yg hlt
  obtain ⟨its,x,v,il,hx,rv,rel,hlen⟩:=ZiS J g hl1 hu
  have hmem:=YG hu
  have hmb:=YG hub
  refine hloop s vb (.ref zb) c R eS (YbF hit il hx fun h' hit' hs'=>?_)
  have J1:=J.mine (t':=s.toks) fI fun b o hb q=>(hs'.2 b hb).trans q
  have eS1:h'.get? S=some (seqObj "list" #[vb,.ref zb] c):=(hs'.2 S (Ne.symm hIS)).trans eS
  obtain ⟨oI,eI,hoc,hod⟩:=id hit'
  refine called (s:={ s with heap:=h',toks:=s.toks }) hcall J1 fI fS eI eS1 (fun v z=>by rw [hod] at z;cases z) (fun v z=>nomatch z) (Ext.new hzb) g z0 hmem rv rel fun H2 z s2 J2 k2 hz g2 fI2 fS2 eI2 eS2=>?_
  have zne:z≠zb:=fun e=>by rw [e,Zd] at hz;cases hz
  have hzA:A z=none:=by rw [Zk zne] at hz;exact hz
  have a1:updA (updA A zb (.lst (kl ub))) z (.lst (kl us[j + 1])) z=some (.lst (kl us[j + 1])):=Zd
  have a2:updA (updA A zb (.lst (kl ub))) z (.lst (kl us[j + 1])) zb=some (.lst (kl ub)):=by rw [Zk (Ne.symm zne),Zd]
  obtain ⟨as,ra⟩:=Zds J2 g2 a1 (hdu _ hmem _)
  obtain ⟨bs,rb⟩:=Zds J2 g2 a2 (hdu _ hmb _)
  have m1:PyData.list (dl us[j + 1])∈us.map fun u=>PyData.list (dl u):=Yt.mpr ⟨_,hmem,rfl⟩
  have m2:PyData.list (dl ub)∈us.map fun u=>PyData.list (dl u):=Yt.mpr ⟨_,hmb,rfl⟩
  have d1:=(hok.1 _ m1).2
  have d2:=(hok.1 _ m2).2
  have elt:=ltL_at (dl:=dl) hu hub
  refine Zcg _ _ _ B.in1 s2 _ _ as bs (Yh _) ra rb (hok.1 _ m1).1 (hok.1 _ m2).1 (hok.2 _ m1 _ m2) (by lia) X.prog X.w _ _ ⟨_,rfl,?_⟩
  by_cases hb:ltL dl us (j + 1) (argBest (ltL dl us) j)=true
  ·rw [if_pos (by rw [<- elt];exact hb)]
   refine ⟨c,eS2,?_⟩
   have s1:=Yac s2.heap S (Obj.mapSeq fun _=>#[x,.ref z])
   have J3:=J2.mine (t':=s2.toks) fS2 fun b o hb q=>(s1.2 b hb).trans q
   have hit3:(s2.heap.update S (Obj.mapSeq fun _=>#[x,.ref z])).IsListIter I l (j + 1 + 1):=⟨oI,(s1.2 I hIS).trans eI2,hoc,hod⟩
   refine ih (j + 1) _ H2 us[j + 1] v x z _ (by lia) hlt J3 (k0.trans k2) (hZ _ _ z0 k2) fI2 fS2 hit3 (Ybo eS2 fun _=>#[x,.ref z]) hzA ?_ ?_ (rv.same k2) rel
   ·refine HR.ext (fun b o q=>?_) g2
    by_cases e:b=z
    ·subst e;rw [Zd] at q ⊢;exact q
    ·rw [Zk e] at q ⊢
     exact Ext.new hzb b o q
   ·show us[if ltL dl us (j + 1) (argBest (ltL dl us) j)=true then j + 1 else argBest (ltL dl us) j]? = _
    rw [if_pos hb];exact hu
  ·rw [if_neg (by rw [<- elt];exact hb)]
   have hit3:s2.heap.IsListIter I l (j + 1 + 1):=⟨oI,eI2,hoc,hod⟩
   refine ih (j + 1) s2 H2 ub wb vb zb c (by lia) hlt J2 (k0.trans k2) (hZ _ _ z0 k2) fI2 fS2 hit3 eS2 hzb (HR.ext (Ext.new hz) g2) ?_ (rub.same k2) relb
   show us[if ltL dl us (j + 1) (argBest (ltL dl us) j)=true then j + 1 else argBest (ltL dl us) j]? = _
   rw [if_neg hb];exact hub
open PySem.F in
theorem min_step {f:Addr} (s:Shared) (vb kb:Value) (c:Nat) (R:Result->Shared->Prop) (eS:s.heap.get? S=some (seqObj "list" #[vb,kb] c))
  (h : wpAny (model X.prog X.w) B.in1 (pyNext (.ref I)) (fun o s1=>match o with
    | none=>∃ c1,s1.heap.get? S=some (seqObj "list" #[vb,kb] c1)/\R (.ok (.ret vb)) { s1 with heap:=s1.heap.update S (Obj.mapSeq fun _=>#[]) }
    | some v=>wpAny (model X.prog X.w) B.in1 (call (.ref f) [v]) (fun k s2=>wpAny (model X.prog X.w) B.in1 (richCompare .Lt k kb) (fun q s3=>∃ b,q=.bool b /\
      if b=true then ∃ c3,s3.heap.get? S=some (seqObj "list" #[vb,kb] c3)/\codeAny (model X.prog X.w) B (.builtin "min.loop" ⟨[.ref I,.ref f,.ref S],[]⟩) R { s3 with heap:=s3.heap.update S (Obj.mapSeq fun _=>#[v,k]) }
      else codeAny (model X.prog X.w) B (.builtin "min.loop" ⟨[.ref I,.ref f,.ref S],[]⟩) R s3) (fun _ _=>False) s2) (fun _ _=>False) s1) (fun _ _=>False) s) :
  codeAny (model X.prog X.w) B (.builtin "min.loop" ⟨[.ref I,.ref f,.ref S],[]⟩) R s:=by
 have nm:(toString "min"++toString ".loop":String)="min.loop":=by decide
 refine Ya4 entry_min_loop ?_
 rw [YaM plain_min_loop _]
 show wpAny _ B.in1 (seqItems? (Value.ref S) >>= _) _ _ s
 refine Yc (Y9 eS rfl (show _ from ?_))
 show wpAny _ B.in1 (tryCatch (pyNext (Value.ref I)) _ >>= _) _ _ s
 refine Yc (Ybz (YR h (fun o s1 ho=>?_) fun _ _ hF=>hF.elim))
 cases o with
 | none =>
  obtain ⟨c1,e1,q⟩:=ho
  show wpAny _ B.in1 (updateSeq S (fun (_:Array Value)=>#[]) >>= _) _ _ _
  refine Yc ?_
  exact Ya6 e1 rfl (Yc (YaJ (Yi q)))
 | some v =>
  show wpAny _ B.in1 (tryCatch (holding [v] (call (.ref f) [v])) _ >>= _) _ _ _
  refine Yc (Ybz (YS (YR ho (fun k s2 hk=>?_) fun _ _ hF=>hF.elim)))
  show wpAny _ B.in1 (tryCatch (holding [v,k] (richCompare .Lt k kb >>= _)) _ >>= _) _ _ _
  refine Yc (Ybz (YS (Yc (YR hk (fun q s3 hq=>?_) fun _ _ hF=>hF.elim))))
  obtain ⟨b,rfl,hb⟩:=hq
  refine Yc (YS (Yap (show _ from ?_)))
  refine Yc (YaJ (Yi (show _ from ?_)))
  cases b with
  | true =>
   rw [if_pos rfl] at hb
   obtain ⟨c3,e3,q⟩:=hb
   simp only [if_true]
   refine Yc ?_
   refine Ya6 e3 rfl (Yc (YaJ (show _ from ?_)))
   rw [nm]
   exact Yi ⟨YaN plain_min_loop _,q⟩
  | false =>
   rw [if_neg (by simp)] at hb
   simp only [YZ,YaE]
   refine Yc (YaJ (show _ from ?_))
   rw [nm]
   exact Yi ⟨YaN plain_min_loop _,hb⟩
open PySem.F in
theorem min_run {fl:Addr} {H:Hp} {s:Shared} {E:Value->Shared->Prop} {Q:Value->Shared->Prop} (J:Inv X pins σ H s) (g:HR X.K H A) (z0:Z H) (hh:B.in1.handled=none) (hl:A l=some (.lst us)) (hne:0 < us.length) (hcall:Zcu X pins σ B.in1 (.ref fl) A us kl Z) (hZ:∀ H H',Z H->Kp X.K H H'->Z H')
  (hdu:∀ u∈us,∀ A',DUs A' (kl u) (dl u)) (hok:OkD (us.map fun u=>.list (dl u))) (hun:B.in1.units + 200 < cLine)
  (hQ:∀ H' s' u v x,Inv X pins σ H' s'->Kp X.K H H'->HR X.K H' A->us[argBest (ltL dl us) (us.length - 1)]? = some u->RU X.K H' u v->RelV v x->Q x s') :
  wpAny (model X.prog X.w) B (call (.builtin "min") [.ref l] [(Str.ofString "key",.ref fl)]) Q E s:=by
 have nm:(toString "min"++toString ".loop":String)="min.loop":=by decide
 obtain ⟨its0,il0,hlen0⟩:=listed J g hl
 have hll:l < s.heap.objs.size:=by obtain ⟨o,e,_⟩:=il0;exact Ym e
 refine kmk_tree kind_min plain_min entry_min (kmk_min_key _ _) (show _ from ?_)
 show wpAny _ B.in1 (Builtin.Builtins.bindParams "min" ["key","default"] 0 ⟨[],[(Str.ofString "key",.ref fl)]⟩ >>= _) _ E s
 refine Yc (Ydy (show Builtin.Builtins.bindParams "min" ["key","default"] 0 ⟨[],[(Str.ofString "key",.ref fl)]⟩=pure [some (.ref fl),none] from rfl) (show _ from ?_))
 refine Yc (Yi (show _ from ?_))
 refine Yc (YaU il0 (show _ from ?_))
 refine Yc (YcW (show _ from ?_) (YY _))
 rw [nm]
 refine Yi ⟨YaN plain_min_loop _,?_⟩
 obtain ⟨h1,e1⟩:∃ h1,h1=s.heap.push { cls:=.type "list_iterator",data:=.fields #[.ref l,.int 0 0] }:=⟨_,rfl⟩
 have fI:FpOk X pins H s.heap.objs.size:=J.fpOk (Yh _) (J.hok.fresh (Yh _))
 have J1:=J.kept (t':=s.toks) (h':=h1) fun b o q=>by rw [e1];exact Yd _ q
 have fS:FpOk X pins H h1.objs.size:=J1.fpOk (Yh _) (J1.hok.fresh (Yh _))
 have J2:=J1.kept (t':=s.toks) (h':=h1.push { cls:=.type "list",data:=.seq #[] }) fun b o q=>Yd _ q
 have gI0:h1.get? s.heap.objs.size=some { cls:=.type "list_iterator",data:=.fields #[.ref l,.int 0 0] }:=by rw [e1];exact Yp _ rfl
 have gI:(h1.push { cls:=.type "list",data:=.seq #[] }).get? s.heap.objs.size=some { cls:=.type "list_iterator",data:=.fields #[.ref l,.int 0 0] }:=Yd _ gI0
 have gS:(h1.push { cls:=.type "list",data:=.seq #[] }).get? h1.objs.size=some (seqObj "list" #[] 0):=Yp _ rfl
 have hIS:s.heap.objs.size≠h1.objs.size:=Yx (Ym gI0)
 rw [<- e1]
 refine Ya4 entry_min_loop ?_
 rw [YaM plain_min_loop _]
 show wpAny _ B.in1 (seqItems? (Value.ref _) >>= _) _ _ _
 refine Yc (Y9 gS rfl (show _ from ?_))
 show wpAny _ B.in1 (tryCatch (pyNext (Value.ref s.heap.objs.size)) _ >>= _) _ _ _
 have hu:us[0]? = some us[0]:=Yg hne
 obtain ⟨its,x,v,il,hx,rv,rel,hlen⟩:=ZiS J2 g hl hu
 have hmem:=YG hu
 refine Yc (Ybz (YbF ⟨_,gI,rfl,rfl⟩ il hx fun h' hit' hs'=>?_))
 have J3:=J2.mine (t':=s.toks) (s:={ s with heap:=h1.push { cls:=.type "list",data:=.seq #[] },toks:=s.toks }) fI fun b o hb q=>(hs'.2 b hb).trans q
 have eS1:h'.get? h1.objs.size=some (seqObj "list" #[] 0):=(hs'.2 _ (Ne.symm hIS)).trans gS
 obtain ⟨oI,eI,hoc,hod⟩:=id hit'
 show wpAny _ B.in1 (tryCatch (holding [x] (call (.ref fl) [x])) _ >>= _) _ _ _
 refine Yc (Ybz (YS (YR (called (s:={ s with heap:=h',toks:=s.toks }) (Q:=fun y s2=>∃ H2 z,y=.ref z/\Inv X pins σ H2 s2/\Kp X.K H H2/\A z=none/\HR X.K H2 (updA A z (.lst (kl us[0])))/\FpOk X pins H2 s.heap.objs.size/\FpOk X pins H2 h1.objs.size/\s2.heap.get? s.heap.objs.size=some oI/\s2.heap.get? h1.objs.size=some (seqObj "list" #[] 0))
  hcall J3 fI fS eI eS1 (fun v z=>by rw [hod] at z;cases z) (fun v z=>nomatch z) (Ext.refl A) g z0 hmem rv rel fun H2 z s2 J4 k2 hz g2 fI2 fS2 eI2 eS2=>⟨H2,z,rfl,J4,k2,hz,g2,fI2,fS2,eI2,eS2⟩) (fun y s2 hy=>?_) fun _ _ hF=>hF.elim)))
 obtain ⟨H2,z,rfl,J4,k2,hz,g2,fI2,fS2,eI2,eS2⟩:=hy
 show wpAny _ B.in1 (updateSeq h1.objs.size (fun (_:Array Value)=>#[x,.ref z]) >>= _) _ _ _
 refine Yc ?_
 refine Ya6 eS2 rfl (show _ from ?_)
 rw [nm]
 refine Yi ⟨YaN plain_min_loop _,?_⟩
 have s1:=Yac s2.heap h1.objs.size (Obj.mapSeq fun _=>#[x,.ref z])
 have J5:=J4.mine (t':=s2.toks) fS2 fun b o hb q=>(s1.2 b hb).trans q
 exact minK_go (H0:=H) hh hl hcall hZ hdu hok hun hIS (fun z=>nomatch z) (fun s vb kb c R e h=>min_step s vb kb c R e h) (fun H' s' u v x a1 a2 a3 a4 a5 a6=>hQ H' s' u v x a1 a2 a3 a4 a5 a6) (us.length - (0 + 1)) 0 _ H2 us[0] v x z _ rfl hne J5 k2 (hZ _ _ z0 k2) fI2 fS2 ⟨oI,(s1.2 _ hIS).trans eI2,hoc,hod⟩ (Ybo eS2 fun _=>#[x,.ref z]) hz g2 hu (rv.same k2) rel
theorem Zem {fl c:Addr} {name qual:Str} {params:Arguments} {body:Expr} {scope:Scope} {pm ctv:Value} {oc:Obj} {vs:Array Value} {tq:Tok} {p:Str} {N:List Str} {ae:AE} {k:Nat}
  (S:ZB N [p] scope) (hbind:∀ x,bindArgs (kla_fn name qual params body scope [] pm (.ref c) ctv) ⟨[x],[]⟩=pure [(p,x)])
  (m1:(fl,kla_obj name qual params body scope [] pm c ctv)∈pins) (hoc:oc.data=.fields vs) (hq:vs[1]? = some (.str qual tq))
  (hr:Room (k + 1) B) (hfr:B.frames=X.A.frames)
  (hbody:∀ (s:Shared) (H:Hp),Room k (B.deeper (envOfC qual scope s.heap.objs.size fl (.ref c)))->∃ te,PE (cxOf CX0 X.prog X.w X.K X.mg X.base N qual scope fl (.ref c) B X.stack s H E0).nox body te/\AbE X.K te ae)
  (hkey:∀ u∈us,∀ A1,Ext A A1->ae (aStart N [u]) A1 (fun y A'=>∃ z,y=.ref z/\A1 z=none/\Ext (updA A1 z (.lst (kl u))) A')):Zcu X pins σ B (.ref fl) A us kl (fun H=>H c=some (.frz oc (.own c))):=by
 intro pl s H A1 u v x I hE g hz hu r rel
 have p1:=(I.pin _ (Yw _ (Ybh pl m1))).1
 have p2:s.heap.get? c=some oc:=(I.hok c _ hz).1
 have e0:=I.env0
 have e1:Env0 X.prog X.w X.K X.mg X.base B X.stack s H:=⟨hfr.trans e0.frames,e0.mod,e0.bs,e0.bsz,e0.funs,e0.frf,e0.hok,e0.bare⟩
 have rv:Vals [v] [x]:=.cons rel .nil
 have hkind:∀ y∈[(p,x)],scope.names.lookup y.1=some .local\/(scope.names.lookup y.1=some .cell/\((cellsFrom (s.heap.objs.size + 1) scope.names []).lookup y.1).isSome=true):=fun y hy=>by
  rw [YJ.mp hy]
  rcases S.par p (.head _) with q | q
  ·exact .inl q
  ·exact .inr ⟨q,Ya9 _ _ _ (.inl q)⟩
 have lim:s.heap.NoLimit:=e1.mod.nolimit.keeps fun b o e=>(e1.bs b o e).1
 obtain ⟨te,hpe,hab⟩:=hbody s H (hr.deeper _)
 refine YcN (Ybp (R:=CR CX0 X.stack X.prog X.w H s (fun y H'=>∃ z,y=.ref z/\Kp X.K H H'/\A1 z=none/\HR X.K H' (updA A1 z (.lst (kl u)))) E0) ?_ fun res s' hq=>?_)
 ·refine kla_callFunE hr.depth p1 rfl S.co S.gen rfl ⟨c,oc,vs,tq,rfl,p2,hoc,hq⟩ ?_
  rw [hbind]
  refine Yi ?_
  refine Ybk S.kind hkind fun env he s1 xx=>?_
  subst he
  refine ⟨lim.keeps xx.toInCall.keep,kla_codeExpr ?_⟩
  have J:Inv (cxOf CX0 X.prog X.w X.K X.mg X.base N qual scope fl (.ref c) B X.stack s H E0) [] (start N [v]) H s1:=ZcH S hr.hd e1 rfl rv xx
  refine YR (hpe.nox [] s1 (start N [v]) H (fun y H'=>∃ z,y=.ref z/\Kp X.K H H'/\A1 z=none/\HR X.K H' (updA A1 z (.lst (kl u)))) J (hab (aStart N [u]) A1 _ _ _ _ (RSt.start N (.cons r .nil)) g (hkey u hu A1 hE) fun y A' z H' kp g' r' q=>?_)) (fun y s2 hs=>?_) fun e s2 hs=>hs
  ·obtain ⟨z',rfl,hz',e⟩:=q
   cases r'
   exact ⟨z',rfl,kp,hz',HR.ext e g'⟩
  ·obtain ⟨z,H',J',rz,q⟩:=hs
   exact ⟨z,H',J'.os,J'.bare,J'.base,J'.hok,rz,q⟩
 ·cases res with
  | error e=>exact hq.elim
  | ok fl =>
   cases fl with
   | ret y =>
    obtain ⟨w,H',I',rz,z,rfl,k1,hz1,g1⟩:=I.after hq
    cases rz
    exact ⟨H',z,rfl,I',k1,hz1,g1⟩
   | next=>exact False.elim hq
   | brk=>exact False.elim hq
   | cont=>exact False.elim hq
end
noncomputable def rMinL (K:YFr) (P:Addr) (lpos:Pos) (qual:Str) (N:List Str) (ae:AE):V->Hp->VK->Prop:=fun x H Q=>∃ (l:Addr) (A:AHp) (Q':AVK) (us:List U) (kl:U->List U) (dl:U->List PyData),x=.ref l/\HR K H A/\A P=some (tblO lpos qual)/\A l=some (.lst us)/\0 < us.length/\(∀ u∈us,∀ A',DUs A' (kl u) (dl u))/\OkD (us.map fun u=>.list (dl u)) /\
 (∀ u∈us,∀ A1,Ext A A1->ae (aStart N [u]) A1 (fun y A'=>∃ z,y=.ref z/\A1 z=none/\Ext (updA A1 z (.lst (kl u))) A'))/\(∀ u,us[argBest (ltL dl us) (us.length - 1)]? = some u->Q' u A)/\Aft K H Q' Q
noncomputable def tMinL (K:YFr) (P:Addr) (lpos:Pos) (qual:Str) (N:List Str) (ae:AE) (te:TE):TE:=fun σ H Q=>te σ H fun x H1=>rMinL K P lpos qual N ae x H1 Q
noncomputable def xMinL (P:Addr) (lpos:Pos) (qual:Str) (N:List Str) (ae:AE):U->AHp->AVK->Prop:=fun x A Q=>∃ (l:Addr) (us:List U) (kl:U->List U) (dl:U->List PyData),x=.ref l/\A P=some (tblO lpos qual)/\A l=some (.lst us)/\0 < us.length/\(∀ u∈us,∀ A',DUs A' (kl u) (dl u))/\OkD (us.map fun u=>.list (dl u)) /\
 (∀ u∈us,∀ A1,Ext A A1->ae (aStart N [u]) A1 (fun y A'=>∃ z,y=.ref z/\A1 z=none/\Ext (updA A1 z (.lst (kl u))) A'))/\∀ u,us[argBest (ltL dl us) (us.length - 1)]? = some u->Q u A
noncomputable def aMinL (P:Addr) (lpos:Pos) (qual:Str) (N:List Str) (ae:AE) (aa:AE):AE:=fun ρ A Q=>aa ρ A fun x A1=>xMinL P lpos qual N ae x A1 Q
theorem ab_minL {K:YFr} {P:Addr} {lpos:Pos} {qual:Str} {N:List Str} {ae:AE} {te:TE} {aa:AE} (h:AbE K te aa):AbE K (tMinL K P lpos qual N ae te) (aMinL P lpos qual N ae aa):=fun ρ A σ H Q' Q hs g w k =>
 h ρ A σ H _ _ hs g w fun x A1 v H1 k1 g1 r1 hq0=>by
  obtain ⟨l,us,kl,dl,e,h0,h1,h2,h3,h4,h5,q⟩:=hq0
  subst e
  cases r1
  exact ⟨l,A1,Q',us,kl,dl,rfl,g1,h0,h1,h2,h3,h4,h5,q,fun u A2 v2 H2 k2 g2 r2 q2=>k _ _ _ _ (k1.trans k2) g2 r2 q2⟩
section
variable {X:Cx} {k:Nat} {P c0:Addr} {y:Str} {e body:Expr} {te:TE} {p lpos p3 pos:Pos} {params:Arguments} {scope:Scope} {qual:Str} {N:List Str} {ae:AE}
theorem pe_minL (hc:X.calm=true) (hr:Room (k + 2) X.A) (hg:Gl X "min") (hm:X.mg "min"=none) (he:PE X e te) (hcode:X.env.code=.ref c0) (hcd:codeHdIn X.K c0 P=true) (hcl:closureFor scope X.env=pure []) (hBA:X.base.BuiltinsAt X.mg P) (hgP:mainGlobals≠P) (hqu:X.env.qual++"<lambda>"=qual)
  (S:ZB N [y] scope) (hd0:params.defaults=[]) (hk0:params.kw_defaults=[]) (hbind:∀ pm c ctv x,bindArgs (kla_fn "<lambda>" qual params body scope [] pm (.ref c) ctv) ⟨[x],[]⟩=pure [(y,x)])
  (hbody:∀ (fl c:Addr) (s:Shared) (H:Hp),Room k (X.A.in1.deeper (envOfC qual scope s.heap.objs.size fl (.ref c)))->∃ te,PE (cxOf CX0 X.prog X.w X.K X.mg X.base N qual scope fl (.ref c) X.A.in1 X.stack s H E0).nox body te/\AbE X.K te ae)
  (hst:starEach [e] X.env=[(false,eval e X.env)]:=by rfl) :
  PE X (.Call (.Name "min" p) [e] [⟨some "key",.Lambda params body scope lpos,p3⟩] pos) (tMinL X.K P lpos qual N ae te):=by
 intro pins s σ H Q I h
 refine Yah (Zbm I hg hm (show bootBuiltins "min"=some (.builtin "min") by decide +kernel) (show _ from ?_) (by decide) (by decide))
 have hpa:PA X [e] (Zcc te tNil):=Za he Ze hst
 have h':Zcc te tNil σ H (fun vs H1=>match vs with | [x]=>rMinL X.K P lpos qual N ae x H1 Q | _=>False):=h
 refine Ydz (thn (hpa pos pins s σ H _ I h') fun us s1 ⟨vs,H1,I1,r1,q1⟩=>?_) (by rw [hst];rfl) (by rw [hst];rfl) rfl rfl
 dsimp only at q1
 split at q1
 ·obtain ⟨u,rfl,ru⟩:=r1.one
  obtain ⟨l,A,Q',us,kl,dl,rfl,g,hA,hl,hne,hdu,hok,hkey,q,aft⟩:=q1
  cases ru
  have hun:=hr.un
  show wpAny _ _ (evalAll [(do let v <- eval (.Lambda params body scope lpos) X.env;standAt pos;pure v)]) _ _ s1
  refine Ybq (Yc ?_)
  refine Zgf hd0 hk0 ?_
  rw [hqu]
  refine Zgw I1 g hA hcode hcd hcl hBA hgP fun fl c ctv oc vs t H2 s2 I2 k2 g2 hz hoc hq=>?_
  refine Yc (Ya1 (Yi ?_))
  refine YbC ?_
  show wpAny _ _ (call (.builtin "min") [.ref l] [(Str.ofString "key",.ref fl)]) _ _ _
  exact min_run I2 g2 hz (show X.A.in1.handled=none from I.ok.hd hc) hl hne (Zem S (hbind _ _ _) (Yw _ (.head _)) hoc hq hr.in1 rfl (hbody fl c) hkey) (fun _ _ z kp=>kp.f _ _ _ z) hdu hok (by show X.A.units + 1 + 200 < cLine;lia)
   fun H' s' u v x I' kp g' hu rv rel=>⟨v,H',I'.unpinned,rel,aft _ _ _ _ (k2.trans kp) g' rv (q u hu)⟩
 ·exact q1.elim
end
section
variable {P:Program} {w:World} {K:YFr} {mg:Str->Option Value} {base:Heap}
theorem Fun.okL {x qual:Str} {st:Stmt} {f c0:Addr} {fd:FuncData} {N ps:List Str} {k:Nat} {asp:ASp} {sc:Scope} {body:List Stmt} {as:AS} (F:Fun K x qual st f fd) (hc:fd.code=.ref c0) (hs:defScope st=sc) (hb:defBody st=body) (S:ZB N ps (defScope st))
  (hB:ZB N ps sc->∀ (A:Around) (outer:List Env) (s:Shared) (H:Hp) (E:XK),Room k (A.deeper (envOfC qual sc s.heap.objs.size f (.ref c0)))->∃ t,PSs (cxOf CX0 P w K mg base N qual sc f (.ref c0) A outer s H E).nox body t/\AbS K t as)
  (hS:∀ us A Q,asp us A Q->us.length=ps.length/\as { nx:=fun _ A'=>Fg Q .non A',rt:=Fg Q } (aStart N us) A):FnOk P w K mg base CX0 (k + 1) f fd ps (spOf K asp):=by
 subst hs hb
 obtain ⟨oc,od,kV,doc,pm,an,cdv,ct,osl,rfl,lk,hcd⟩:=F.ex
 have hc':cdv=.ref c0:=hc
 subst hc'
 refine fn_of lk hcd S (fun vs H Q E h=>?_) fun A outer s H vs Q E hr h=>?_
 ·obtain ⟨us,A,Q',r,g,h,k⟩:=h
  rw [<- r.length];exact (hS us A Q' h).1
 ·obtain ⟨us,A',Q',r,g,h,k⟩:=h
  obtain ⟨t,ht,ha⟩:=hB S A outer s H E hr
  exact ⟨t,ht.nox,ha _ _ _ _ _ _ (RSt.start N r) g (hS us A' Q' h).2 ⟨fun ρ A σ H' k' g' s' ⟨A3,e,q'⟩=>k _ _ _ _ k' (g'.ext e) .non q',fun u A v H' k' g' r' ⟨A3,e,q'⟩=>k _ _ _ _ k' (g'.ext e) r' q',fun _ _ _ _ _ _ _ q=>q.elim,fun _ _ _ _ _ _ _ q=>q.elim⟩⟩
end
section
variable {asp:ASp} {b:Bool} {aa ae:AE} {ρ:ASt} {A:AHp} {Q:AVK} {P p:Addr} {lpos:Pos} {qual:Str} {N:List Str}
theorem q_sortF:(aSortF asp b aa ρ A Q)=(aa ρ A fun x A1=>xSortF asp b x A1 Q):=rfl
theorem q_sortL:(aSortL P lpos qual N ae b aa ρ A Q)=(aa ρ A fun x A1=>xSortL P lpos qual N ae b x A1 Q):=rfl
theorem q_minL:(aMinL P lpos qual N ae aa ρ A Q)=(aa ρ A fun x A1=>xMinL P lpos qual N ae x A1 Q):=rfl
end
open PySem
mutual
noncomputable def ZH:PyData->Bool
 | .int _=>true
 | .str _=>true
 | .tuple xs=>Zao xs
 | .list xs=>Zao xs
 | _=>false
noncomputable def Zao:List PyData->Bool
 | []=>true
 | x::xs=>ZH x && Zao xs
end
theorem Zjt : ∀ n:Nat,(∀ x y:PyData,sizeOf x<=n->ZH x=true->ZH y=true->(PyData.eqv x y=true ↔ x=y))/\∀ xs ys:List PyData,sizeOf xs<=n->Zao xs=true->Zao ys=true->(PyData.eqvAll xs ys=true ↔ xs=ys)
 | 0=>⟨fun x y h=>by cases x <;> simp at h,fun xs ys h=>by cases xs <;> simp at h⟩
 | n + 1 => by
  obtain ⟨i1,i2⟩:=Zjt n
  constructor
  ·intro x y h px py
   cases x with
   | int i=>cases y <;> simp [ZH] at py <;> simp [PyData.eqv]
   | str i=>cases y <;> simp [ZH] at py <;> simp [PyData.eqv]
   | tuple xs =>
    cases y with
    | tuple ys =>
     simp at h
     simp only [ZH] at px py
     simp only [PyData.eqv,Ya8]
     exact i2 xs ys (by lia) px py
    | _=>simp [PyData.eqv]
   | list xs =>
    cases y with
    | list ys =>
     simp at h
     simp only [ZH] at px py
     simp only [PyData.eqv,Ydv]
     exact i2 xs ys (by lia) px py
    | _=>simp [PyData.eqv]
   | _=>simp [ZH] at px
  ·intro xs ys h px py
   cases xs with
   | nil=>cases ys <;> simp [PyData.eqvAll]
   | cons x xs =>
    cases ys with
    | nil=>simp [PyData.eqvAll]
    | cons y ys =>
     simp only [Zao,Ye] at px py
     simp at h
     simp only [PyData.eqvAll,Ye,Yat]
     rw [i1 x y (by lia) px.1 py.1,i2 xs ys (by lia) px.2 py.2]
theorem Zc8 {x y:PyData} (px:ZH x=true) (py:ZH y=true):PyData.eqv x y=true ↔ x=y:=(Zjt (sizeOf x)).1 x y (Yh _) px py
theorem ZhJ : ∀ n:Nat,(∀ x y:PyData,sizeOf x<=n->ZH x=true->ZH y=true->(ltv x y=true->ltv y x=false)/\(okLt x y=true->ltv x y=true\/x=y\/ltv y x=true)) /\
  ∀ xs ys:List PyData,sizeOf xs<=n->Zao xs=true->Zao ys=true->(ltvA xs ys=true->ltvA ys xs=false)/\(ZaZ xs ys=true->ltvA xs ys=true\/xs=ys\/ltvA ys xs=true)
 | 0=>⟨fun x y h=>by cases x <;> simp at h,fun xs ys h=>by cases xs <;> simp at h⟩
 | n + 1 => by
  obtain ⟨i1,i2⟩:=ZhJ n
  constructor
  ·intro x y h px py
   cases x with
   | int i =>
    cases y with
    | int j=>simp only [ltv,okLt,Yy,Yco,Ycj];lia
    | _=>simp [ltv,okLt]
   | str i =>
    cases y with
    | str j =>
     simp only [ltv,okLt,Yy,Yco,PyData.str.injEq]
     refine ⟨fun h=>List.lt_asymm h,fun _=>?_⟩
     rcases Decidable.em (i.cps.toList < j.cps.toList) with a | a
     ·exact .inl a
     ·rcases Decidable.em (j.cps.toList < i.cps.toList) with b | b
      ·exact .inr (.inr b)
      ·refine .inr (.inl ?_)
       have e:i.cps.toList=j.cps.toList:=List.le_antisymm (List.not_lt.mp b) (List.not_lt.mp a)
       have e2:=Yav.mp e
       cases i;cases j;simp at e2;rw [e2]
    | _=>simp [ltv,okLt]
   | tuple xs =>
    cases y with
    | tuple ys =>
     simp at h
     simp only [ZH] at px py
     simp only [ltv,okLt,Ya8]
     exact i2 xs ys (by lia) px py
    | _=>simp [ltv,okLt]
   | list xs =>
    cases y with
    | list ys =>
     simp at h
     simp only [ZH] at px py
     simp only [ltv,okLt,Ydv]
     exact i2 xs ys (by lia) px py
    | _=>simp [ltv,okLt]
   | _=>simp [ZH] at px
  ·intro xs ys h px py
   cases xs with
   | nil=>cases ys <;> simp [ltvA,ZaZ]
   | cons x xs =>
    cases ys with
    | nil=>simp [ltvA,ZaZ]
    | cons y ys =>
     simp only [Zao,Ye] at px py
     simp at h
     have a1:=i1 x y (by lia) px.1 py.1
     have a2:=i2 xs ys (by lia) px.2 py.2
     simp only [ltvA,ZaZ]
     by_cases e:x=y
     ·have e1:PyData.eqv x y=true:=(Zc8 px.1 py.1).mpr e
      subst e
      simp only [e1,if_true,Yat,true_and]
      exact a2
     ·have e1:PyData.eqv x y=false:=by cases q:PyData.eqv x y with | false=>rfl | true=>exact absurd ((Zc8 px.1 py.1).mp q) e
      have e2:PyData.eqv y x=false:=by cases q:PyData.eqv y x with | false=>rfl | true=>exact absurd ((Zc8 py.1 px.1).mp q).symm e
      simp only [e1,e2,YZ,YaE,Yat]
      refine ⟨a1.1,fun o=>?_⟩
      rcases a1.2 o with z | z | z
      ·exact .inl z
      ·exact absurd z e
      ·exact .inr (.inr z)
theorem lt_asymm {x y:PyData} (px:ZH x=true) (py:ZH y=true) (h:ltv x y=true):ltv y x=false:=((ZhJ (sizeOf x)).1 x y (Yh _) px py).1 h
theorem lt_conn {x y:PyData} (px:ZH x=true) (py:ZH y=true) (h:okLt x y=true):ltv x y=true\/x=y\/ltv y x=true:=((ZhJ (sizeOf x)).1 x y (Yh _) px py).2 h
theorem ZeU {x y:PyData} (px:ZH x=true) (py:ZH y=true) (e:x≠y):PyData.eqv x y=false:=by
 cases q:PyData.eqv x y with
 | false=>rfl
 | true=>exact absurd ((Zc8 px py).mp q) e
theorem ZiV {x:PyData} (px:ZH x=true):PyData.eqv x x=true:=(Zc8 px px).mpr rfl
theorem tr_aux : ∀ n:Nat,(∀ x y z:PyData,sizeOf x<=n->ZH x=true->ZH y=true->ZH z=true->okLt x z=true->ltv x y=true->ltv y z=true->ltv x z=true) /\
  ∀ xs ys zs:List PyData,sizeOf xs<=n->Zao xs=true->Zao ys=true->Zao zs=true->ZaZ xs zs=true->ltvA xs ys=true->ltvA ys zs=true->ltvA xs zs=true
 | 0=>⟨fun x y z h=>by cases x <;> simp at h,fun xs ys zs h=>by cases xs <;> simp at h⟩
 | n + 1 => by
  obtain ⟨i1,i2⟩:=tr_aux n
  constructor
  ·intro x y z h px py pz o h1 h2
   cases x with
   | int i =>
    cases y with
    | int j =>
     cases z with
     | int k=>simp only [ltv,Yy] at h1 h2 ⊢;lia
     | _=>simp [ltv] at h2
    | _=>simp [ltv] at h1
   | str i =>
    cases y with
    | str j =>
     cases z with
     | str k=>simp only [ltv,Yy] at h1 h2 ⊢;exact List.lt_trans h1 h2
     | _=>simp [ltv] at h2
    | _=>simp [ltv] at h1
   | tuple xs =>
    cases y with
    | tuple ys =>
     cases z with
     | tuple zs =>
      simp at h
      simp only [ZH] at px py pz
      simp only [ltv,okLt] at h1 h2 o ⊢
      exact i2 xs ys zs (by lia) px py pz o h1 h2
     | _=>simp [ltv] at h2
    | _=>simp [ltv] at h1
   | list xs =>
    cases y with
    | list ys =>
     cases z with
     | list zs =>
      simp at h
      simp only [ZH] at px py pz
      simp only [ltv,okLt] at h1 h2 o ⊢
      exact i2 xs ys zs (by lia) px py pz o h1 h2
     | _=>simp [ltv] at h2
    | _=>simp [ltv] at h1
   | _=>simp [ZH] at px
  ·intro xs ys zs h px py pz o h1 h2
   cases xs with
   | nil =>
    cases ys with
    | nil=>simp [ltvA] at h1
    | cons y ys =>
     cases zs with
     | nil=>simp [ltvA] at h2
     | cons z zs=>simp [ltvA]
   | cons x xs =>
    cases ys with
    | nil=>simp [ltvA] at h1
    | cons y ys =>
     cases zs with
     | nil=>simp [ltvA] at h2
     | cons z zs =>
      simp only [Zao,Ye] at px py pz
      simp at h
      simp only [ltvA,ZaZ] at h1 h2 o ⊢
      by_cases e1:x=y
      ·subst e1
       rw [if_pos (ZiV px.1)] at h1
       by_cases e2:x=z
       ·subst e2
        rw [if_pos (ZiV px.1)] at h2 o ⊢
        exact i2 xs ys zs (by lia) px.2 py.2 pz.2 o h1 h2
       ·rw [if_neg (by rw [ZeU px.1 pz.1 e2];simp)] at h2 ⊢
        exact h2
      ·rw [if_neg (by rw [ZeU px.1 py.1 e1];simp)] at h1
       by_cases e2:y=z
       ·subst e2
        rw [if_neg (by rw [ZeU px.1 py.1 e1];simp)]
        exact h1
       ·rw [if_neg (by rw [ZeU py.1 pz.1 e2];simp)] at h2
        by_cases e3:x=z
        ·subst e3
         rw [lt_asymm px.1 py.1 h1] at h2;cases h2
        ·rw [if_neg (by rw [ZeU px.1 pz.1 e3];simp)] at o ⊢
         exact i1 x y z (by lia) px.1 py.1 pz.1 o h1 h2
theorem Zfc {x y z:PyData} (px:ZH x=true) (py:ZH y=true) (pz:ZH z=true) (o:okLt x z=true) (h1:ltv x y=true) (h2:ltv y z=true):ltv x z=true:=(tr_aux (sizeOf x)).1 x y z (Yh _) px py pz o h1 h2
theorem ordD {ds:List PyData} (hp:∀ d∈ds,ZH d=true) (ok:∀ d∈ds,∀ e∈ds,okLt d e=true):SortA.Ord ds.length (ltD ds):=by
 have mem:∀ i,i < ds.length->ds.getD i .none∈ds:=fun i hi=>by
  rw [Yn,Yg hi];exact YaY _
 refine ⟨fun i j hi hj h=>lt_asymm (hp _ (mem i hi)) (hp _ (mem j hj)) h,fun i j k hi hj hk h1 h2=>?_⟩
 unfold ltD at h1 h2 ⊢
 cases q:ltv (ds.getD k .none) (ds.getD i .none) with
 | false=>rfl
 | true =>
  rcases lt_conn (hp _ (mem i hi)) (hp _ (mem j hj)) (ok _ (mem i hi) _ (mem j hj)) with z | z | z
  ·rw [Zfc (hp _ (mem k hk)) (hp _ (mem i hi)) (hp _ (mem j hj)) (ok _ (mem k hk) _ (mem j hj)) q z] at h2;cases h2
  ·rw [z] at q;rw [q] at h2;cases h2
  ·rw [z] at h1;cases h1
open PySem PySem.W
theorem Zha {α β:Type} (b:Bool) (f:α->β) (l:List α):katRev b (l.map f)=(katRev b l).map f:=by
 unfold PySem.W.katRev;split
 ·rw [Ybj]
 ·rfl
theorem ZbP {α:Type} (l:List α) (d:α):(List.range l.length).map (fun i=>l.getD i d)=l:=by
 apply Ych
 ·simp
 ·intro i h1 h2;simp [h2]
noncomputable def srtI (b:Bool) (n:Nat) (ds:List PyData):List Nat:=if n < 2 then List.range n else katRev b ((SortA.runT (ltD (katRev b ds)) (kas_sort n)).toList.map fun i=>(katRev b (List.range n)).getD i 0)
theorem ZcY {α:Type} (b:Bool) (l:List α) (d:α) (i:Nat) (hi:i < l.length):(katRev b l).getD i d=l.getD ((katRev b (List.range l.length)).getD i 0) d:=by
 unfold PySem.W.katRev
 cases b with
 | false=>simp [hi]
 | true =>
  have h2:l.length - 1 - i < l.length:=by lia
  simp [hi,Ybe,h2]
theorem srt_eq (b:Bool) (us:List U) (ds:List PyData):srt b us ds=(srtI b us.length ds).map fun i=>us.getD i .non:=by
 unfold srt srtI
 by_cases h:us.length < 2
 ·rw [if_pos h,if_pos h];exact (ZbP us .non).symm
 ·rw [if_neg h,if_neg h,<- Zha,YT]
  congr 1
  apply YaB
  intro i hi
  exact ZcY b us .non i ((ZfH (by lia) _).2 i hi)
theorem Zio (b:Bool) (n:Nat) {L:List Nat} (h:L.Perm (List.range n)):(katRev b (L.map fun i=>(katRev b (List.range n)).getD i 0)).Perm (List.range n):=by
 have e:((List.range n).map fun i=>(katRev b (List.range n)).getD i 0)=katRev b (List.range n):=by
  have:=ZbP (katRev b (List.range n)) 0
  rw [kat_len,Yax] at this
  exact this
 have p1:(L.map fun i=>(katRev b (List.range n)).getD i 0).Perm (katRev b (List.range n)):=by
  have:=h.map fun i=>(katRev b (List.range n)).getD i 0
  rw [e] at this;exact this
 have p2:∀ l:List Nat,(katRev b l).Perm l:=fun l=>by
  unfold PySem.W.katRev;split
  ·exact Yca l
  ·exact .refl _
 exact (p2 _).trans (p1.trans (p2 _))
theorem Zc7 (b:Bool) (ds:List PyData) (hp:∀ d∈ds,ZH d=true) (ok:∀ d∈ds,∀ e∈ds,okLt d e=true):(srtI b ds.length ds).Perm (List.range ds.length):=by
 unfold srtI
 by_cases h:ds.length < 2
 ·rw [if_pos h]
 ·rw [if_neg h]
  have O:SortA.Ord (katRev b ds).length (ltD (katRev b ds)):=ordD (fun d hd=>hp d (Zay hd)) fun d hd e he=>ok d (Zay hd) e (Zay he)
  rw [kat_len] at O
  exact Zio b ds.length (SortA.sort_ok O (by lia)).1
theorem ltD_rev {ds:List PyData} {i j:Nat} (hi:i < ds.length) (hj:j < ds.length) (b:Bool):ltD (katRev b ds) i j=ltD ds ((katRev b (List.range ds.length)).getD i 0) ((katRev b (List.range ds.length)).getD j 0):=by
 unfold ltD
 rw [ZcY b ds .none i hi,ZcY b ds .none j hj]
theorem Zfx (b:Bool) (ds:List PyData) (hp:∀ d∈ds,ZH d=true) (ok:∀ d∈ds,∀ e∈ds,okLt d e=true):(srtI b ds.length ds).Pairwise fun i j=>if b=true then ltD ds i j=false else ltD ds j i=false:=by
 unfold srtI
 by_cases h:ds.length < 2
 ·rw [if_pos h]
  have:ds.length=0\/ds.length=1:=by lia
  rcases this with e | e <;> rw [e]
  ·exact List.Pairwise.nil
  ·exact List.pairwise_singleton _ _
 ·rw [if_neg h]
  have O:SortA.Ord (katRev b ds).length (ltD (katRev b ds)):=ordD (fun d hd=>hp d (Zay hd)) fun d hd e he=>ok d (Zay hd) e (Zay he)
  rw [kat_len] at O
  obtain ⟨pm,up⟩:=SortA.sort_ok O (by lia:1<=ds.length)
  generalize SortA.runT (ltD (katRev b ds)) (kas_sort ds.length)=p at pm up
  have hs:p.toList.length=ds.length:=by rw [Array.length_toList];exact pm.size
  have base:(p.toList.map fun i=>(katRev b (List.range ds.length)).getD i 0).Pairwise fun i j=>ltD ds j i=false:=by
   rw [Ydw,List.pairwise_iff_getElem]
   intro i j hi hj hij
   have h1:=up i j hij (by rw [hs] at hj;exact hj)
   unfold SortA.Le at h1
   have gi:p.getD i 0=p.toList[i]:=by simp at hi;simp [Array.getD,hi]
   have gj:p.getD j 0=p.toList[j]:=by simp at hj;simp [Array.getD,hj]
   have bi:=pm.inb i (by rw [hs] at hi;exact hi)
   have bj:=pm.inb j (by rw [hs] at hj;exact hj)
   rw [ltD_rev bj bi b,gi,gj] at h1
   exact h1
  cases b with
  | false =>
   simp only [PySem.W.katRev,YZ,YaE] at base ⊢
   exact base
  | true =>
   simp only [PySem.W.katRev,if_true] at base ⊢
   rw [List.pairwise_reverse]
   exact base
theorem Zdd {α:Type} (k:α->PyData):∀ {l1 l2:List α},(∀ x∈l1,ZH (k x)=true)->(∀ x∈l1,∀ y∈l1,okLt (k x) (k y)=true)->(∀ x∈l1,∀ y∈l1,k x=k y->x=y)->l1.Perm l2 ->
  l1.Pairwise (fun x y=>ltv (k x) (k y)=false)->l2.Pairwise (fun x y=>ltv (k x) (k y)=false)->l1=l2
 | [],l2,_,_,_,p,_,_=>by rw [List.nil_perm.mp p]
 | x::l1,[],_,_,_,p,_,_=>by have:=p.length_eq;simp at this
 | x :: l1, y::l2,hp,ok,inj,p,s1,s2=>by
  have hy:y∈x::l1:=p.mem_iff.mpr (.head _)
  have hx:x∈y::l2:=p.mem_iff.mp (.head _)
  have e : x=y:=by
   rcases Yv.mp hx with z | z
   ·exact z
   ·rcases Yv.mp hy with w | w
    ·exact w.symm
    ·have a1:=(Ybv.mp s1).1 y w
     have a2:=(Ybv.mp s2).1 x z
     rcases lt_conn (hp x (.head _)) (hp y hy) (ok x (.head _) y hy) with q | q | q
     ·rw [q] at a1;cases a1
     ·exact inj x (.head _) y hy q
     ·rw [q] at a2;cases a2
  subst e
  have p':l1.Perm l2:=(List.perm_cons x).mp p
  rw [Zdd k (fun a ha=>hp a (.tail _ ha)) (fun a ha b hb=>ok a (.tail _ ha) b (.tail _ hb)) (fun a ha b hb=>inj a (.tail _ ha) b (.tail _ hb)) p' (Ybv.mp s1).2 (Ybv.mp s2).2]
noncomputable def srtK {α:Type} (k:α->PyData) (d:α) (b:Bool) (ws:List α):List α:=(srtI b ws.length (ws.map k)).map fun i=>ws.getD i d
theorem Zde {α:Type} {k:α->PyData} {d:α} {ws:List α} (b:Bool) (hp:∀ x∈ws,ZH (k x)=true) (ok:∀ x∈ws,∀ y∈ws,okLt (k x) (k y)=true):(srtK k d b ws).Perm ws:=by
 unfold srtK
 have h:=Zc7 b (ws.map k) (fun x hx=>by obtain ⟨w,hw,rfl⟩:=Yt.mp hx;exact hp w hw) (fun x hx y hy=>by
  obtain ⟨w,hw,rfl⟩:=Yt.mp hx
  obtain ⟨v,hv,rfl⟩:=Yt.mp hy
  exact ok w hw v hv)
 rw [Yb] at h
 have:=h.map fun i=>ws.getD i d
 rw [ZbP] at this
 exact this
theorem ZdC {α:Type} {k:α->PyData} {d:α} {ws:List α} (hp:∀ x∈ws,ZH (k x)=true) (ok:∀ x∈ws,∀ y∈ws,okLt (k x) (k y)=true):(srtK k d true ws).Pairwise fun x y=>ltv (k x) (k y)=false:=by
 unfold srtK
 have hp':∀ x∈ws.map k,ZH x=true:=fun x hx=>by obtain ⟨w,hw,rfl⟩:=Yt.mp hx;exact hp w hw
 have ok':∀ x∈ws.map k,∀ y∈ws.map k,okLt x y=true:=fun x hx y hy=>by
  obtain ⟨w,hw,rfl⟩:=Yt.mp hx
  obtain ⟨v,hv,rfl⟩:=Yt.mp hy
  exact ok w hw v hv
 have h:=Zfx true (ws.map k) hp' ok'
 have hm:=Zc7 true (ws.map k) hp' ok'
 rw [Yb] at h hm
 rw [Ydw]
 refine h.imp_of_mem fun {i j} hi hj q=>?_
 rw [if_pos rfl] at q
 have bi:i < ws.length:=Ybd.mp (hm.mem_iff.mp hi)
 have bj:j < ws.length:=Ybd.mp (hm.mem_iff.mp hj)
 unfold ltD at q
 rw [Yn,Yn,Yl,Yl,Yg bi,Yg bj] at q
 rw [Yn,Yn,Yg bi,Yg bj]
 exact q
theorem Zh1 {α:Type} {k:α->PyData} {d:α} {ws vs:List α} (hp:∀ x∈ws,ZH (k x)=true) (ok:∀ x∈ws,∀ y∈ws,okLt (k x) (k y)=true) (inj:∀ x∈ws,∀ y∈ws,k x=k y->x=y) (p:ws.Perm vs):srtK k d true ws=srtK k d true vs:=by
 have hp2:∀ x∈vs,ZH (k x)=true:=fun x hx=>hp x (p.mem_iff.mpr hx)
 have ok2:∀ x∈vs,∀ y∈vs,okLt (k x) (k y)=true:=fun x hx y hy=>ok x (p.mem_iff.mpr hx) y (p.mem_iff.mpr hy)
 have q1:=Zde (d:=d) true hp ok
 have q2:=Zde (d:=d) true hp2 ok2
 refine Zdd k (fun x hx=>hp x (q1.mem_iff.mp hx)) (fun x hx y hy=>ok x (q1.mem_iff.mp hx) y (q1.mem_iff.mp hy)) (fun x hx y hy=>inj x (q1.mem_iff.mp hx) y (q1.mem_iff.mp hy)) (q1.trans (p.trans q2.symm)) (ZdC hp ok) (ZdC hp2 ok2)
theorem srt_of {α:Type} {k:α->PyData} {d:α} {ws:List α} (b:Bool) (f:α->U):(srt b (ws.map f) (ws.map k)).length=ws.length/\((∀ x∈ws,ZH (k x)=true)->(∀ x∈ws,∀ y∈ws,okLt (k x) (k y)=true)->srt b (ws.map f) (ws.map k)=(srtK k d b ws).map f):=by
 refine ⟨by rw [Zi2,Yb],fun hp ok=>?_⟩
 have hm:=Zc7 b (ws.map k) (fun x hx=>by obtain ⟨w,hw,rfl⟩:=Yt.mp hx;exact hp w hw) (fun x hx y hy=>by
  obtain ⟨w,hw,rfl⟩:=Yt.mp hx
  obtain ⟨v,hv,rfl⟩:=Yt.mp hy
  exact ok w hw v hv)
 rw [Yb] at hm
 rw [srt_eq,Yb]
 unfold srtK
 rw [YT]
 apply YaB
 intro i hi
 have bi:i < ws.length:=Ybd.mp (hm.mem_iff.mp hi)
 show (ws.map f).getD i .non=f (ws.getD i d)
 rw [Yn,Yn,Yl,Yg bi];rfl
theorem ZbE {lt:Nat->Nat->Bool}:∀ m,argBest lt m<=m
 | 0=>Yh _
 | m + 1=>by
  show (if lt (m + 1) (argBest lt m)=true then m + 1 else argBest lt m)<=m + 1
  have:=ZbE (lt:=lt) m
  split <;> lia
theorem Zed {n:Nat} {lt:Nat->Nat->Bool} (O:SortA.Ord n lt):∀ m,m < n->∀ j,j<=m->lt j (argBest lt m)=false
 | 0, h,j,hj=>by
  obtain rfl:j=0:=by lia
  show lt 0 0=false
  cases q:lt 0 0 with
  | false=>rfl
  | true=>have:=O.tot 0 0 h h q;rw [q] at this;cases this
 | m + 1, h,j,hj=>by
  have ih:=Zed O m (by lia)
  have hb:=ZbE (lt:=lt) m
  show lt j (if lt (m + 1) (argBest lt m)=true then m + 1 else argBest lt m)=false
  by_cases c:lt (m + 1) (argBest lt m)=true
  ·rw [if_pos c]
   by_cases e:j=m + 1
   ·subst e
    cases q:lt (m + 1) (m + 1) with
    | false=>rfl
    | true=>have:=O.tot _ _ h h q;rw [q] at this;cases this
   ·exact O.tr (m + 1) (argBest lt m) j h (by lia) (by lia) (O.tot _ _ h (by lia) c) (ih j (by lia))
  ·rw [if_neg c]
   by_cases e:j=m + 1
   ·subst e;simpa using c
   ·exact ih j (by lia)
theorem Zge:∀ {xs ys:List PyData},(∀ x∈xs,∀ y∈ys,okLt x y=true)->ZaZ xs ys=true
 | [],_,_=>by simp [ZaZ]
 | _::_,[],_=>by simp [ZaZ]
 | x :: xs,y::ys,h=>by
  simp only [ZaZ]
  split
  ·exact Zge fun a ha b hb=>h a (.tail _ ha) b (.tail _ hb)
  ·exact h x (.head _) y (.head _)
theorem Zdl:∀ {xs:List PyData},(∀ x∈xs,ZH x=true)->Zao xs=true
 | [],_=>rfl
 | x::xs,h=>by simp only [Zao,Ye];exact ⟨h x (.head _),Zdl fun a ha=>h a (.tail _ ha)⟩
noncomputable def turnL {α:Type} (ps:List α) (i:Nat):List α:=ps.drop i++ps.take i
theorem Zaq {α:Type} (ps:List α) (i:Nat):(turnL ps i).length=ps.length:=by unfold turnL;simp;lia
theorem ZX {α:Type} (ps:List α) (i:Nat):(turnL ps i).Perm ps:=by
 unfold turnL
 have h:=YW i ps
 exact List.perm_append_comm.trans (by rw [h])
theorem ZcU {α:Type} (ps:List α) {r i:Nat} (hr:r < ps.length) (hi:i < ps.length):(turnL ps r)[i]? = ps[(r + i) % ps.length]?:=by
 unfold turnL
 by_cases h:r + i < ps.length
 ·rw [YaI (by rw [Yai];lia),Ydn,YbK h]
 ·rw [YaD (by rw [Yai];lia),Yai,Ybs (by lia)]
  have e:(r + i) % ps.length=r + i - ps.length:=by rw [Nat.mod_eq_sub_mod (by lia),YbK (by lia)]
  rw [e];congr 1;lia
theorem ZbF {α:Type} (ps:List α) {r i:Nat} (hr:r < ps.length) (hi:i < ps.length):turnL (turnL ps r) i=turnL ps ((r + i) % ps.length):=by
 have h0:0 < ps.length:=by lia
 have hm:(r + i) % ps.length < ps.length:=YbP _ h0
 apply Ydr
 intro j
 by_cases hj:j < ps.length
 ·rw [ZcU _ (by rw [Zaq];exact hi) (by rw [Zaq];exact hj),Zaq,ZcU _ hr (YbP _ h0),ZcU _ hm hj]
  congr 1
  rw [Nat.add_mod_mod,Nat.mod_add_mod,Nat.add_assoc]
 ·rw [YV (by rw [Zaq,Zaq];lia),YV (by rw [Zaq];lia)]
section
variable {α:Type} (k:α->PyData)
noncomputable def kdL (ps:List α):PyData:=.list (ps.map k)
noncomputable def bestT (ps:List α):Nat:=argBest (fun i j=>ltv (kdL k (turnL ps i)) (kdL k (turnL ps j))) (ps.length - 1)
noncomputable def Zbe (ps:List α):List α:=turnL ps (bestT k ps)
variable {k}
theorem ZeC {ps:List α} (hp:∀ x∈ps,ZH (k x)=true) (ok:∀ x∈ps,∀ y∈ps,okLt (k x) (k y)=true):SortA.Ord ps.length (fun i j=>ltv (kdL k (turnL ps i)) (kdL k (turnL ps j))) /\
  (∀ i,ZH (kdL k (turnL ps i))=true)/\∀ i j,okLt (kdL k (turnL ps i)) (kdL k (turnL ps j))=true:=by
 have pl:∀ i,ZH (kdL k (turnL ps i))=true:=fun i=>by
  unfold kdL;simp only [ZH]
  exact Zdl fun x hx=>by obtain ⟨w,hw,rfl⟩:=Yt.mp hx;exact hp w ((ZX ps i).mem_iff.mp hw)
 have okk:∀ i j,okLt (kdL k (turnL ps i)) (kdL k (turnL ps j))=true:=fun i j=>by
  unfold kdL;simp only [okLt]
  exact Zge fun x hx y hy=>by
   obtain ⟨w,hw,rfl⟩:=Yt.mp hx
   obtain ⟨v,hv,rfl⟩:=Yt.mp hy
   exact ok w ((ZX ps i).mem_iff.mp hw) v ((ZX ps j).mem_iff.mp hv)
 refine ⟨⟨fun i j hi hj h=>lt_asymm (pl i) (pl j) h,fun i j m hi hj hm h1 h2=>?_⟩,pl,okk⟩
 cases q:ltv (kdL k (turnL ps m)) (kdL k (turnL ps i)) with
 | false=>rfl
 | true =>
  rcases lt_conn (pl i) (pl j) (okk i j) with z | z | z
  ·rw [Zfc (pl m) (pl i) (pl j) (okk m j) q z] at h2;cases h2
  ·rw [z] at q;rw [q] at h2;cases h2
  ·rw [z] at h1;cases h1
theorem map_inj {ps qs:List α} (inj:∀ x∈ps,∀ y∈qs,k x=k y->x=y):ps.map k=qs.map k->ps=qs:=by
 induction ps generalizing qs with
 | nil=>intro h;cases qs with
  | nil=>rfl
  | cons _ _=>simp at h
 | cons x ps ih =>
  intro h
  cases qs with
  | nil=>simp at h
  | cons y qs =>
   simp only [YE,Yat] at h
   rw [inj x (.head _) y (.head _) h.1,ih (fun a ha b hb=>inj a (.tail _ ha) b (.tail _ hb)) h.2]
theorem Zfu {ps:List α} (hp:∀ x∈ps,ZH (k x)=true) (ok:∀ x∈ps,∀ y∈ps,okLt (k x) (k y)=true) (inj:∀ x∈ps,∀ y∈ps,k x=k y->x=y) {r:Nat} (hr:r < ps.length):Zbe k (turnL ps r)=Zbe k ps:=by
 have m:∀ i x,x∈turnL ps i ↔ x∈ps:=fun i x=>(ZX ps i).mem_iff
 have hp2:∀ x∈turnL ps r,ZH (k x)=true:=fun x hx=>hp x ((ZX ps r).mem_iff.mp hx)
 have ok2:∀ x∈turnL ps r,∀ y∈turnL ps r,okLt (k x) (k y)=true:=fun x hx y hy=>ok x ((ZX ps r).mem_iff.mp hx) y ((ZX ps r).mem_iff.mp hy)
 obtain ⟨O1,pl,okk⟩:=ZeC hp ok
 obtain ⟨O2,_,_⟩:=ZeC hp2 ok2
 have b1:=ZbE (lt:=fun i j=>ltv (kdL k (turnL ps i)) (kdL k (turnL ps j))) (ps.length - 1)
 have b2:=ZbE (lt:=fun i j=>ltv (kdL k (turnL (turnL ps r) i)) (kdL k (turnL (turnL ps r) j))) ((turnL ps r).length - 1)
 have m1:=Zed O1 (ps.length - 1) (by lia)
 have m2:=Zed O2 ((turnL ps r).length - 1) (by rw [Zaq];lia)
 have c1:bestT k ps<=ps.length - 1:=b1
 have c2:bestT k (turnL ps r)<=ps.length - 1:=by
  have q:bestT k (turnL ps r)<=(turnL ps r).length - 1:=b2
  have q2:=Zaq ps r
  lia
 have e2:Zbe k (turnL ps r)=turnL ps ((r + bestT k (turnL ps r)) % ps.length):=ZbF ps hr (by lia)
 have h0:0 < ps.length:=by lia
 have hmod:(r + bestT k (turnL ps r)) % ps.length < ps.length:=YbP _ h0
 have n1:ltv (kdL k (Zbe k (turnL ps r))) (kdL k (Zbe k ps))=false:=by
  rw [e2];exact m1 _ (by lia)
 have n2:ltv (kdL k (Zbe k ps)) (kdL k (Zbe k (turnL ps r)))=false:=by
  have hj:∃ j,j < ps.length/\(r + j) % ps.length=bestT k ps:=by
   by_cases c:r<=bestT k ps
   ·exact ⟨bestT k ps - r,by lia,by rw [show r + (bestT k ps - r)=bestT k ps by lia,YbK (by lia)]⟩
   ·exact ⟨bestT k ps + ps.length - r,by lia,by rw [show r + (bestT k ps + ps.length - r)=bestT k ps + ps.length by lia,Nat.add_mod_right,YbK (by lia)]⟩
  obtain ⟨j,hj1,hj2⟩:=hj
  have:=m2 j (by rw [Zaq];lia)
  have e3:turnL (turnL ps r) j=Zbe k ps:=by rw [ZbF ps hr hj1,hj2];rfl
  have this:ltv (kdL k (turnL (turnL ps r) j)) (kdL k (turnL (turnL ps r) (bestT k (turnL ps r))))=false:=this
  rw [e3] at this
  exact this
 rcases lt_conn (pl ((r + bestT k (turnL ps r)) % ps.length)) (pl (bestT k ps)) (okk _ _) with z | z | z
 ·rw [e2] at n1;rw [show kdL k (Zbe k ps)=kdL k (turnL ps (bestT k ps)) from rfl,z] at n1;cases n1
 ·rw [e2]
  unfold kdL at z
  refine map_inj (k:=k) (fun x hx y hy=>inj x ((m _ _).mp hx) y ((m _ _).mp hy)) ?_
  exact PyData.list.inj z
 ·rw [e2] at n2;rw [show kdL k (Zbe k ps)=kdL k (turnL ps (bestT k ps)) from rfl,z] at n2;cases n2
end
mutual
theorem Wr.plainK:∀ w:Wr,ZH w.keyD=true
 | .nothing=>by simp [Wr.keyD,ZH,Zao]
 | .bead c=>by simp [Wr.keyD,ZH,Zao]
 | .side b f=>by simp [Wr.keyD,ZH,Zao,f.plainK]
 | .pair f g=>by simp [Wr.keyD,ZH,Zao,f.plainK,g.plainK]
 | .many k ps=>by simp [Wr.keyD,ZH,Zao,Zjf ps]
theorem Zjf:∀ ws:List Wr,Zao (ZaO ws)=true
 | []=>rfl
 | w::ws=>by simp [ZaO,Zao,w.plainK,Zjf ws]
end
theorem Zau (a b a' b':Int) (xs ys:List PyData) (h:a=a'->b=b'->ZaZ xs ys=true):okLt (.tuple (.int a::.int b::xs)) (.tuple (.int a'::.int b'::ys))=true:=by
 simp only [okLt,ZaZ,PyData.eqv]
 by_cases e1:a=a'
 ·by_cases e2:b=b'
  ·simp [e1,e2,h e1 e2]
  ·simp [e1,e2]
 ·simp [e1]
theorem Zbl (b:Bool) (f:Wr):(Wr.side b f).kidx=2\/(Wr.side b f).kidx=3:=by cases b <;> simp [Wr.kidx]
theorem ZaK (k:Nat) (ps:List Wr):5<=(Wr.many k ps).kidx:=by
 match k with
 | 0=>exact Yh 5
 | 1=>exact (by decide:5<=6)
 | 2=>exact (by decide:5<=7)
 | _ + 3=>exact (by decide:5<=8)
mutual
theorem Wr.okK:∀ w v:Wr,okLt w.keyD v.keyD=true
 | .nothing,v=>by
  obtain ⟨r,e⟩:∃ r,v.keyD=.tuple (.int v.size::.int v.kidx::r):=by cases v <;> exact ⟨_,rfl⟩
  rw [e];exact Zau _ _ _ _ _ _ fun _ _=>by simp [ZaZ]
 | .bead c,v=>by
  cases v with
  | bead d=>exact Zau _ _ _ _ _ _ fun _ _=>by simp [ZaZ,okLt]
  | nothing=>exact Zau _ _ _ _ _ _ fun _ h=>by simp at h
  | side b f=>exact Zau _ _ _ _ _ _ fun _ h=>by have:=Zbl b f;lia
  | pair f g=>exact Zau _ _ _ _ _ _ fun _ h=>by simp at h
  | many k ps=>exact Zau _ _ _ _ _ _ fun _ h=>by have:=ZaK k ps;lia
 | .side b f,v=>by
  have hs:=Zbl b f
  cases v with
  | bead d=>exact Zau _ _ _ _ _ _ fun _ h=>by lia
  | nothing=>exact Zau _ _ _ _ _ _ fun _ h=>by lia
  | side b' f'=>exact Zau _ _ _ _ _ _ fun _ _=>by simp [ZaZ,f.okK f']
  | pair f' g=>exact Zau _ _ _ _ _ _ fun _ h=>by lia
  | many k ps=>exact Zau _ _ _ _ _ _ fun _ h=>by have:=ZaK k ps;lia
 | .pair f g,v=>by
  cases v with
  | bead d=>exact Zau _ _ _ _ _ _ fun _ h=>by simp at h
  | nothing=>exact Zau _ _ _ _ _ _ fun _ h=>by simp at h
  | side b' f'=>exact Zau _ _ _ _ _ _ fun _ h=>by have:=Zbl b' f';lia
  | pair f' g'=>exact Zau _ _ _ _ _ _ fun _ _=>by simp [ZaZ,f.okK f',g.okK g']
  | many k ps=>exact Zau _ _ _ _ _ _ fun _ h=>by have:=ZaK k ps;lia
 | .many k ps,v=>by
  have hs:=ZaK k ps
  cases v with
  | bead d=>exact Zau _ _ _ _ _ _ fun _ h=>by lia
  | nothing=>exact Zau _ _ _ _ _ _ fun _ h=>by lia
  | side b' f'=>exact Zau _ _ _ _ _ _ fun _ h=>by have:=Zbl b' f';lia
  | pair f' g'=>exact Zau _ _ _ _ _ _ fun _ h=>by lia
  | many k' ps'=>exact Zau _ _ _ _ _ _ fun _ _=>okKL ps ps'
theorem okKL:∀ ws vs:List Wr,ZaZ (ZaO ws) (ZaO vs)=true
 | [],_=>by simp [ZaO,ZaZ]
 | _::_,[]=>by simp [ZaO,ZaZ]
 | w :: ws,v::vs=>by
  simp only [ZaO,ZaZ]
  split
  ·exact okKL ws vs
  ·exact w.okK v
end
mutual
noncomputable def Wr.nrm:Wr->Bool
 | .nothing=>true
 | .bead _=>true
 | .side _ f=>f.nrm
 | .pair f g=>f.nrm && g.nrm
 | .many k ps=>decide (k<=3) && nrmL ps
noncomputable def nrmL:List Wr->Bool
 | []=>true
 | w::ws=>w.nrm && nrmL ws
end
theorem Zd8 {ws:List Wr}:nrmL ws=true ↔ ∀ w∈ws,w.nrm=true:=by
 induction ws with
 | nil=>simp [nrmL]
 | cons w ws ih=>simp [nrmL,ih]
theorem Zf4 {k k':Nat} {ps ps':List Wr} (h:k<=3) (h':k'<=3) (e:(Wr.many k ps).kidx=(Wr.many k' ps').kidx):k=k':=by
 have a:k=0\/k=1\/k=2\/k=3:=by lia
 have b:k'=0\/k'=1\/k'=2\/k'=3:=by lia
 rcases a with rfl | rfl | rfl | rfl <;> rcases b with rfl | rfl | rfl | rfl <;> first | rfl | (simp [Wr.kidx] at e)
mutual
theorem Wr.key_inj:∀ w v:Wr,w.nrm=true->v.nrm=true->w.keyD=v.keyD->w=v
 | .nothing,v,_,_,e=>by
  cases v with
  | nothing=>rfl
  | bead d=>simp [Wr.keyD] at e
  | side b f=>simp [Wr.keyD] at e
  | pair f g=>simp [Wr.keyD] at e
  | many k ps=>simp [Wr.keyD] at e;have:=ZaK k ps;lia
 | .bead c,v,_,_,e=>by
  cases v with
  | nothing=>simp [Wr.keyD] at e
  | bead d=>simp [Wr.keyD] at e;rw [e]
  | side b f=>simp [Wr.keyD] at e;have:=Zbl b f;lia
  | pair f g=>simp [Wr.keyD] at e
  | many k ps=>simp [Wr.keyD] at e;have:=ZaK k ps;lia
 | .side b f,v,hw,hv,e=>by
  have hs:=Zbl b f
  cases v with
  | nothing=>simp [Wr.keyD] at e
  | bead d=>simp [Wr.keyD] at e;lia
  | side b' f' =>
   simp only [Wr.keyD,Ya8,Yat,Ycj,YdH] at e
   simp only [Wr.nrm] at hw hv
   rw [f.key_inj f' hw hv e.2.2]
   have:b=b':=by cases b <;> cases b' <;> first | rfl | (simp [Wr.kidx] at e)
   rw [this]
  | pair f' g=>simp [Wr.keyD] at e
  | many k ps=>simp [Wr.keyD] at e;have:=ZaK k ps;lia
 | .pair f g,v,hw,hv,e=>by
  cases v with
  | nothing=>simp [Wr.keyD] at e
  | bead d=>simp [Wr.keyD] at e
  | side b' f'=>simp [Wr.keyD] at e
  | pair f' g' =>
   simp only [Wr.keyD,Ya8,Yat,YdH] at e
   simp only [Wr.nrm,Ye] at hw hv
   rw [f.key_inj f' hw.1 hv.1 e.2.2.1,g.key_inj g' hw.2 hv.2 e.2.2.2]
  | many k ps=>simp [Wr.keyD] at e;have:=ZaK k ps;lia
 | .many k ps,v,hw,hv,e=>by
  have hs:=ZaK k ps
  cases v with
  | nothing=>simp [Wr.keyD] at e;lia
  | bead d=>simp [Wr.keyD] at e;lia
  | side b' f'=>simp [Wr.keyD] at e;have:=Zbl b' f';lia
  | pair f' g'=>simp [Wr.keyD] at e;lia
  | many k' ps' =>
   simp only [Wr.keyD,Ya8,Yat,Ycj] at e
   simp only [Wr.nrm,Ye,Yy] at hw hv
   have e1:(Wr.many k ps).kidx=(Wr.many k' ps').kidx:=by have:=e.2.1;lia
   rw [Zf4 hw.1 hv.1 e1,ZfX ps ps' hw.2 hv.2 e.2.2]
theorem ZfX:∀ ws vs:List Wr,nrmL ws=true->nrmL vs=true->ZaO ws=ZaO vs->ws=vs
 | [],[],_,_,_=>rfl
 | [],_::_,_,_,e=>by simp [ZaO] at e
 | _::_,[],_,_,e=>by simp [ZaO] at e
 | w :: ws,v::vs,h1,h2,e=>by
  simp only [ZaO,Yat] at e
  simp only [nrmL,Ye] at h1 h2
  rw [w.key_inj v h1.1 h2.1 e.1,ZfX ws vs h1.2 h2.2 e.2]
end
noncomputable def arr (k:Nat) (ps:List Wr):List Wr:=if k=1\/k=2 then srtK Wr.keyD .nothing true ps else if k=0 then ps else Zbe Wr.keyD ps
mutual
noncomputable def Wr.pl:Wr->Wr
 | .nothing=>.nothing
 | .bead c=>.bead c
 | .side b f=>.side b f.pl
 | .pair f g=>.pair f.pl g.pl
 | .many k ps=>.many k (arr k (plnL ps))
noncomputable def plnL:List Wr->List Wr
 | []=>[]
 | w::ws=>w.pl::plnL ws
end
theorem Zai:∀ ws:List Wr,plnL ws=ws.map Wr.pl
 | []=>rfl
 | w::ws=>by rw [plnL,YE,Zai ws]
theorem ZaT (k:Nat) (ps:List Wr):(arr k ps).Perm ps:=by
 unfold arr
 split
 ·exact Zde true (fun x _=>x.plainK) fun x _ y _=>x.okK y
 ·split
  ·exact .refl _
  ·exact ZX _ _
noncomputable def Alk (k:Nat) (ps qs:List Wr):Prop:=if k=1\/k=2 then ps.Perm qs else if k=0 then ps=qs else ps=qs\/∃ r,r < ps.length/\qs=turnL ps r
theorem Zjs {k:Nat} {ps qs:List Wr} (h:nrmL ps=true) (a:Alk k ps qs):arr k qs=arr k ps:=by
 have hm:=Zd8.mp h
 have inj:∀ x∈ps,∀ y∈ps,Wr.keyD x=Wr.keyD y->x=y:=fun x hx y hy e=>x.key_inj y (hm x hx) (hm y hy) e
 unfold Alk at a
 unfold arr
 by_cases c:k=1\/k=2
 ·rw [if_pos c] at a
  rw [if_pos c,if_pos c]
  exact (Zh1 (fun x _=>x.plainK) (fun x _ y _=>x.okK y) inj a).symm
 ·rw [if_neg c] at a
  rw [if_neg c,if_neg c]
  by_cases c0:k=0
  ·rw [if_pos c0] at a
   rw [if_pos c0,if_pos c0,a]
  ·rw [if_neg c0] at a
   rw [if_neg c0,if_neg c0]
   rcases a with a | ⟨r,hr,a⟩
   ·rw [a]
   ·rw [a];exact Zfu (fun x _=>x.plainK) (fun x _ y _=>x.okK y) inj hr
theorem Ziz {ps qs:List Wr} (p:ps.Perm qs) (h:nrmL ps=true):nrmL qs=true:=Zd8.mpr fun w hw=>Zd8.mp h w (p.mem_iff.mpr hw)
mutual
theorem Wr.pl_nrm:∀ w:Wr,w.nrm=true->w.pl.nrm=true
 | .nothing,_=>rfl
 | .bead _,_=>rfl
 | .side _ f,h=>by simp only [Wr.nrm] at h;simp only [Wr.pl,Wr.nrm];exact f.pl_nrm h
 | .pair f g,h=>by simp only [Wr.nrm,Ye] at h;simp only [Wr.pl,Wr.nrm,Ye];exact ⟨f.pl_nrm h.1,g.pl_nrm h.2⟩
 | .many k ps,h=>by
  simp only [Wr.nrm,Ye] at h
  simp only [Wr.pl,Wr.nrm,Ye]
  exact ⟨h.1,Ziz (ZaT k _).symm (Zee ps h.2)⟩
theorem Zee:∀ ws:List Wr,nrmL ws=true->nrmL (plnL ws)=true
 | [],_=>rfl
 | w::ws,h=>by simp only [nrmL,Ye] at h;simp only [plnL,nrmL,Ye];exact ⟨w.pl_nrm h.1,Zee ws h.2⟩
end
theorem Zhf {ps qs:List Wr} (p:ps.Perm qs):Zbd ps=Zbd qs:=by
 induction p with
 | nil=>rfl
 | cons x _ ih=>simp only [Zbd,ih]
 | swap x y l=>simp only [Zbd];lia
 | trans _ _ i1 i2=>rw [i1,i2]
theorem okL_perm {ps qs:List Wr} (p:ps.Perm qs):okL ps=okL qs:=by
 induction p with
 | nil=>rfl
 | cons x _ ih=>simp only [okL,ih]
 | swap x y l=>simp only [okL];cases x.ok <;> cases y.ok <;> rfl
 | trans _ _ i1 i2=>rw [i1,i2]
theorem Zbx {ps qs:List Wr} (p:ps.Perm qs):tupsL ps=tupsL qs:=by
 induction p with
 | nil=>rfl
 | cons x _ ih=>simp only [tupsL,ih]
 | swap x y l=>simp only [tupsL];lia
 | trans _ _ i1 i2=>rw [i1,i2]
theorem ZcB {ps qs:List Wr} (p:ps.Perm qs):depL ps=depL qs:=by
 induction p with
 | nil=>rfl
 | cons x _ ih=>simp only [depL,ih]
 | swap x y l=>simp only [depL];exact Nat.max_left_comm _ _ _
 | trans _ _ i1 i2=>rw [i1,i2]
mutual
theorem Wr.pl_ok:∀ w:Wr,w.pl.ok=w.ok
 | .nothing=>rfl
 | .bead _=>rfl
 | .side _ f=>by simp only [Wr.pl,Wr.ok,f.pl_ok]
 | .pair f g=>by simp only [Wr.pl,Wr.ok,f.pl_ok,g.pl_ok]
 | .many k ps=>by simp only [Wr.pl,Wr.ok];rw [okL_perm (ZaT k _),ZdJ ps]
theorem ZdJ:∀ ws:List Wr,okL (plnL ws)=okL ws
 | []=>rfl
 | w::ws=>by simp only [plnL,okL,w.pl_ok,ZdJ ws]
end
mutual
theorem Wr.pl_tups:∀ w:Wr,w.pl.tups=w.tups
 | .nothing=>rfl
 | .bead _=>rfl
 | .side _ f=>by simp only [Wr.pl,Wr.tups,f.pl_tups]
 | .pair f g=>by simp only [Wr.pl,Wr.tups,f.pl_tups,g.pl_tups]
 | .many k ps=>by simp only [Wr.pl,Wr.tups];rw [Zbx (ZaT k _),ZcM ps]
theorem ZcM:∀ ws:List Wr,tupsL (plnL ws)=tupsL ws
 | []=>rfl
 | w::ws=>by simp only [plnL,tupsL,w.pl_tups,ZcM ws]
end
mutual
theorem Wr.pl_dep:∀ w:Wr,w.pl.dep=w.dep
 | .nothing=>rfl
 | .bead _=>rfl
 | .side _ f=>by simp only [Wr.pl,Wr.dep,f.pl_dep]
 | .pair f g=>by simp only [Wr.pl,Wr.dep,f.pl_dep,g.pl_dep]
 | .many k ps=>by simp only [Wr.pl,Wr.dep];rw [ZcB (ZaT k _),ZbB ps]
theorem ZbB:∀ ws:List Wr,depL (plnL ws)=depL ws
 | []=>rfl
 | w::ws=>by simp only [plnL,depL,w.pl_dep,ZbB ws]
end
theorem Wr.pl_few {w:Wr} (h:w.few):w.pl.few/\w.pl.name=w.name/\w.pl.parts=w.parts.map Wr.pl:=by
 cases w with
 | nothing=>exact ⟨h,rfl,rfl⟩
 | bead c=>exact absurd rfl (h.1 c)
 | side b f=>exact ⟨⟨(fun c z=>nomatch z),(fun k ps z=>nomatch z)⟩,rfl,rfl⟩
 | pair f g=>exact ⟨⟨(fun c z=>nomatch z),(fun k ps z=>nomatch z)⟩,rfl,rfl⟩
 | many k ps=>exact absurd rfl (h.2 k ps)
mutual
noncomputable def U.dat:U->PyData
 | .int i=>.int i
 | .str x=>.str x
 | .bl b=>.bool b
 | .tup us=>.tuple (datL us)
 | _=>.none
noncomputable def datL:List U->List PyData
 | []=>[]
 | u::us=>u.dat::datL us
end
mutual
theorem Wr.dat_key:∀ w:Wr,w.keyU.dat=w.keyD
 | .nothing=>by simp [Wr.keyU,Wr.keyD,U.dat,datL]
 | .bead c=>by simp [Wr.keyU,Wr.keyD,U.dat,datL]
 | .side b f=>by simp [Wr.keyU,Wr.keyD,U.dat,datL,f.dat_key]
 | .pair f g=>by simp [Wr.keyU,Wr.keyD,U.dat,datL,f.dat_key,g.dat_key]
 | .many k ps=>by simp [Wr.keyU,Wr.keyD,U.dat,datL,ZfW ps]
theorem ZfW:∀ ws:List Wr,datL (Zdg ws)=ZaO ws
 | []=>by simp [Zdg,ZaO,datL]
 | w::ws=>by simp [Zdg,ZaO,datL,w.dat_key,ZfW ws]
end
noncomputable def U.snd:U->U
 | .tup [_,b]=>b
 | _=>.non
section
variable {K:YFr}
noncomputable def mPop0:U->List U->AHp->AVK->Prop:=fun u us A Q=>match u,us with
 | .ref a,[.int i]=>i=0/\∃ y xs,A a=some (.lst (y::xs))/\Q y (updA A a (.lst xs))
 | _,_=>False
theorem ab_mpop0:AbMt K ZiZ mPop0:=fun x u xs us A H Q' Q r rs g h k=>by
 unfold mPop0 at h
 split at h
 ·cases r
  obtain ⟨v,rfl,rv⟩:=rs.inv1
  cases rv
  obtain ⟨rfl,y,zs,e,h⟩:=h
  obtain ⟨vs,h1,r1⟩:=g.list e
  cases r1 with
  | cons r2 r3 =>
   rename_i v2 vs2
   refine ⟨_,_,0,0,v2,rfl,rfl,h1,by decide,by decide,?_,rfl,k _ _ _ _ (Kp.lst h1) (g.setL h1 r3) (r2.same (Kp.lst h1)) h⟩
   unfold seqIndex?
   simp
 ·exact h.elim
theorem q_pop0 {p:Addr} {A:AHp} {Q:AVK}:(mPop0 (.ref p) [.int 0] A Q)=(∃ y xs,A p=some (.lst (y::xs))/\Q y (updA A p (.lst xs))):=propext ⟨fun h=>h.2,fun h=>⟨rfl,h⟩⟩
end
section
variable {prog:Program} {w:World} {A:Around} {E:Value->Shared->Prop} {s:Shared}
theorem ZgS {I l S:Addr} {items:Array Value} {c:Nat} {R:Result->Shared->Prop} (hh:A.handled=none) (hne:l≠I) (hSI:S≠I) (hSl:S≠l) (st:s.heap.IsRevIter I l ((items.size:Int) - 1)) (hl:s.heap.IsList l items) (hn:items.size<=sizeLine)
  (hS:s.heap.get? S=some { cls:=.type "list",data:=.seq #[] c })
  (hR:∀ s' c',Moved [S,I] (fun a b=>b=a) s s'->s'.heap.get? S=some { cls:=.type "list",dict:=none,data:=.seq items.reverse c',slots:=#[] }->R (.ok (.ret .none)) s') :
  wpAny (model prog w) A.in1 (Builtin.List.listExtendWith (.ref S) (.ref I) .none)
   (fun fin s'=>match fin with | .done f=>R (.ok f) s' | .again c'=>c'.quiet=true/\codeAny (model prog w) A c' R s') (fun e s'=>R (.error e) s') s:=by
 have W:=(Walks.listRev (prog:=prog) (w:=w) (A:=A.in1) hh I l hne items).toS
 have nf:S ∉ [I,l]:=fun z=>by
  simp only [Yv,YU,YaL] at z
  exact z.elim hSI hSl
 have st0:(0<=items.size/\s.heap.IsRevIter I l ((items.size:Int) - 1 - ((0:Nat):Int))/\s.heap.IsList l items):=⟨YY _,by rw [show ((0:Nat):Int)=0 from rfl,Int.sub_zero];exact st,hl⟩
 have apart:Builtin.List.listSameRef (.ref S) (.ref I)=false:=by simp [Builtin.List.listSameRef,hSI]
 have ty:s.TypeIs (.ref I) "list_reverseiterator":=st.typeIs
 unfold Builtin.List.listExtendWith
 refine Yc (YaX ty ?_)
 rw [if_neg (by rw [apart];decide)]
 refine Yc (W.self 0 _ _ _ st0 (Yc (YS ?_)))
 unfold Builtin.List.listLengthHint
 refine Yc (Ya5 ty ZeQ ?_)
 refine (show wpAny _ A.in1 (specialOf (Value.ref I) (Str.ofString "__length_hint__") >>= _) _ _ _ from Yc (Ya5 ty Zf5 ?_))
 generalize hid:("list_reverseiterator.__length_hint__":String)=id0
 (fail_if_success (clear hid id0));wp_delta
 rw [show splitId id0=some ("list_reverseiterator","__length_hint__") from by subst hid;decide +kernel]
 subst hid
 refine Yc (YbI (b:=true) ty (by rw [isSubtype_type];kernel_rfl) (Yi ?_))
 rw [if_neg (by decide)]
 refine Yi ⟨YaN YcZ _,YcQ W hn _ nf _ items.size 0 _ _ _ rfl (YY _) st0 hS (ItemsOf.nil _) fun s' acc c' mv here got=>?_⟩
 have e:=Zes got
 have e2:acc=items.reverse:=by apply Yav.mp;rw [e,YcR]
 subst e2
 exact hR s' c' mv here
theorem ZdX {I l:Addr} {items:Array Value} {Q:Value->Shared->Prop} (hh:A.handled=none) (hne:l≠I) (st:s.heap.IsRevIter I l ((items.size:Int) - 1)) (hl:s.heap.IsList l items) (hn:items.size<=sizeLine)
  (hQ:∀ s' c',Moved [s.heap.objs.size,I] (fun a b=>b=a) { s with heap:=s.heap.push { cls:=.type "list",data:=.seq #[] } } s'->s'.heap.get? s.heap.objs.size=some { cls:=.type "list",dict:=none,data:=.seq items.reverse c',slots:=#[] }->Q (.ref s.heap.objs.size) s') :
  wpAny (model prog w) A (call (.type "list") [.ref I]) Q E s:=by
 have lI:I < s.heap.objs.size:=by obtain ⟨o,e,_⟩:=st;exact Ym e
 have ll:l < s.heap.objs.size:=by obtain ⟨o,e,_⟩:=hl;exact Ym e
 refine callType_codes (Q₁:=fun obj s₁=>obj=.ref s.heap.objs.size/\s₁={ s with heap:=s.heap.push { cls:=.type "list",data:=.seq #[] } }) F.called_list (F.typeCall_list_1 _) F.entry_list_init
  (code_list_new _ ⟨rfl,rfl⟩) fun obj s₁ h₁=>?_
 obtain ⟨rfl,rfl⟩:=h₁
 have hS:(s.heap.push { cls:=.type "list",data:=.seq #[] }).get? s.heap.objs.size=some { cls:=.type "list",data:=.seq #[] }:=Yp _ rfl
 refine ⟨⟨_,hS,rfl⟩,F.args_list_init_2 _ _,?_⟩
 show wpAny _ A.in1.in1 (do let old <- Builtin.List.listItems (.ref s.heap.objs.size);Builtin.List.listUpdate (.ref s.heap.objs.size) (fun _=>#[]);letGo old.toList.reverse;Builtin.List.listExtendWith (.ref s.heap.objs.size) (.ref I) .none) _ _ _
 refine Yc ?_
 unfold Builtin.List.listItems
 refine Yc (Y9 hS rfl (Yi ?_))
 show wpAny _ A.in1.in1 (updateSeq s.heap.objs.size (fun _=>#[]) >>= fun _=>letGo (#[]:Array Value).toList.reverse >>= fun _=>Builtin.List.listExtendWith (.ref s.heap.objs.size) (.ref I) .none) _ _ _
 refine Yc (Ya6 hS rfl ?_)
 have hS₂:=YcH (Obj.mapSeq (fun _=>(#[]:Array Value))) hS rfl
 have oth:∀ b o,b≠s.heap.objs.size->(s.heap.push { cls:=.type "list",data:=.seq #[] }).get? b=some o->((s.heap.push { cls:=.type "list",data:=.seq #[] }).update s.heap.objs.size (Obj.mapSeq (fun _=>(#[]:Array Value)))).get? b=some o :=
  fun b o hb e=>(Ycz _ _ (Ne.symm hb)).trans e
 refine Yc (YaJ ?_)
 refine ZgS (A:=A.in1) (c:=_) (items:=items) hh hne (YaK lI) (YaK ll) (st.at fun o e=>oth _ _ (Yx lI) (Yd _ e)) (hl.at fun o e=>oth _ _ (Yx ll) (Yd _ e)) hn hS₂ fun s' c' mv here=>?_
 have m0:Moved [s.heap.objs.size,I] (fun a b:Array GenState=>b=a) { s with heap:=s.heap.push { cls:=.type "list",data:=.seq #[] } } { s with heap:=(s.heap.push { cls:=.type "list",data:=.seq #[] }).update s.heap.objs.size (Obj.mapSeq (fun _=>(#[]:Array Value))) } :=
  Moved.then_heap (wr:=[s.heap.objs.size,I]) (G:=fun a b=>b=a) (s:={ s with heap:=s.heap.push { cls:=.type "list",data:=.seq #[] } }) (s':={ s with heap:=s.heap.push { cls:=.type "list",data:=.seq #[] } }) (Moved.refl (G:=fun a b=>b=a) (fun _=>rfl)) (Yh _) fun b o hb e=>oth b o (fun h=>hb (by rw [h];exact YaF)) e
 exact ⟨rfl,hQ s' c' (Moved.trans (fun _ _ _ h1 h2=>h2.trans h1) m0 mv) here⟩
end
noncomputable def Zgy (K:YFr) (te:TE):TE:=fun σ H Q=>te σ H fun x H1=>∃ a xs,x=.ref a/\SqL K H1 a xs/\∀ p,H1 p=none->Q (.ref p) (upd H1 p (.lst xs.reverse))
section
variable {X:Cx} {e:Expr} {te:TE} {p1 p2 pos1 pos2:Pos}
theorem Zhb (hc:X.calm=true) (hg1:Gl X "list") (hm1:X.mg "list"=none) (hg2:Gl X "reversed") (hm2:X.mg "reversed"=none) (he:PE X e te) (hs2:starEach [e] X.env=[(false,eval e X.env)]:=by rfl)
  (hs1:starEach [.Call (.Name "reversed" p2) [e] [] pos2] X.env=[(false,eval (.Call (.Name "reversed" p2) [e] [] pos2) X.env)]:=by rfl):PE X (.Call (.Name "list" p1) [.Call (.Name "reversed" p2) [e] [] pos2] [] pos1) (Zgy X.K te):=by
 intro pins s σ H Q I h
 refine Yah (Zbm I hg1 hm1 (show bootBuiltins "list"=some (.type "list") by decide +kernel) ?_ (by decide) (by decide))
 refine YN (T:="list") ?_ hs1 rfl
 rw [hs1]
 refine (show wpAny _ _ (spliced ((false,eval (.Call (.Name "reversed" p2) [e] [] pos2) X.env)::[])) _ _ s from Ya2 (Zef hc hg2 hm2 he hs2 I h fun a xs H1 s1 its I1 hx rv pl hz q=>Ybb ?_))
 have la:a < s1.heap.objs.size:=by obtain ⟨o,e,_⟩:=pl;exact Ym e
 have hlen:=rv.length
 refine ZdX (I:=s1.heap.objs.size) (l:=a) (items:=its.toArray) (I1.ok.hd hc) (Yx la) ⟨_,Yp _ rfl,rfl,rfl⟩ (pl.at fun o z=>Yd _ z) (by rw [Yk,<- hlen];exact hz) fun s' c' mv here=>?_
 have e':=Zcn mv
 have sz:(s1.heap.push (revObj a ((its.toArray.size:Int) - 1))).objs.size=s1.heap.objs.size + 1:=Array.size_push ..
 have kp:∀ b o,s1.heap.get? b=some o->s'.heap.get? b=some o:=fun b o z=>mv.heap b o (by
  have:=Ym z
  simp only [Yv,YU,YaL,not_or]
  constructor
  ·show b≠(s1.heap.push (revObj a ((its.toArray.size:Int) - 1))).objs.size
   rw [sz];exact Yx (YaV this)
  ·exact Yx this) (Yd _ (Yd _ z))
 have e9:its.toArray.reverse=its.reverse.toArray:=by apply Yav.mp;simp
 have I3:Inv X pins σ (upd H1 (s1.heap.objs.size + 1) (.lst xs.reverse)) { s1 with heap:=s'.heap,toks:=s'.toks } :=
  I1.laid (t':=s'.toks) kp (Ycy _) (show Zbt X.prog X.w _ s'.heap _ (.lst xs.reverse) from ⟨by rw [Y5];exact hz,its.reverse,c',Vals.reverse rv,by rw [<- e9];rw [<- sz];exact here⟩)
 rw [show s'={ s1 with heap:=s'.heap,toks:=s'.toks } from e']
 exact ⟨.ref (s1.heap.objs.size + 1),_,I3,by show RelV _ _;rw [<- sz];rfl,q _ (I1.hok.fresh (Ycy _))⟩
end
section
variable {K:YFr}
noncomputable def ZgA (a:AE):AE:=fun ρ A Q=>a ρ A fun x A1=>∃ p us,x=.ref p/\A1 p=some (.lst us)/\∀ l,A1 l=none->Q (.ref l) (updA A1 l (.lst us.reverse))
theorem Zg5 {t:TE} {a:AE} (ha:AbE K t a):AbE K (Zgy K t) (ZgA a):=fun ρ A σ H Q' Q hs g w k =>
 ha ρ A σ H _ _ hs g w fun x A1 v H1 k1 g1 r1 hq0=>by
  obtain ⟨p,us,e,eA,q⟩:=hq0
  subst e;cases r1
  obtain ⟨vs,h1,r1⟩:=g1.list eA
  refine ⟨p,vs,rfl,SqL.of h1,fun q2 hp=>?_⟩
  have s:=Same.upd_new (o:=.lst vs.reverse) hp
  exact k _ _ _ _ (k1.trans s.kp) (g1.newL hp r1.rev) (.ref _) (q q2 (g1.none hp))
theorem ZhO {a:AE} {ρ:ASt} {A:AHp} {Q:AVK}:(ZgA a ρ A Q)=(a ρ A fun x A1=>∃ p us,x=.ref p/\A1 p=some (.lst us)/\∀ l,A1 l=none->Q (.ref l) (updA A1 l (.lst us.reverse))):=rfl
end
theorem Zi7 {J:AIt} {te:AE} {l:Addr} {Q:AVK} {x0:Option U} {fr:ASt} {A:AHp} (items:List U) (Pv:Nat->List U->AHp->Prop) (h0:Pv 0 [] A) (hn:items.length<=100000) (hl:∀ k ys A2,Pv k ys A2->ys.length=k) (hJ:∀ k ys A2,k<=items.length->Pv k ys A2->J k A2 items[k]?)
  (hs:∀ k u ys A2,items[k]? = some u->Pv k ys A2->∀ Cy:AVK,(∀ y A3,A3 l=some (.lst ys)->Pv (k + 1) (ys++[y]) (updA A3 l (.lst (ys++[y])))->Cy y A3)->te (some u::fr) A2 Cy)
  (hd:∀ ys A2,Pv items.length ys A2->Q (.ref l) A2):aCL J (Zb2 0) Zcr te l Q (x0::fr) A:=by
 refine ⟨fun i m τ A2=>m=items.length - i/\i<=items.length/\(∃ x,τ=x::fr)/\∃ ys,Pv i ys A2,⟨_,rfl,YY _,⟨_,rfl⟩,_,h0⟩,?_⟩
 rintro i m τ A2 ⟨rfl,hi,⟨x,rfl⟩,ys,hp⟩
 have j:=hJ i ys A2 hi hp
 by_cases hlt:i < items.length
 ·have hu:items[i]? = some items[i]:=Yg hlt
  rw [hu] at j
  refine .inr ⟨_,j,?_⟩
  rw [q_nm0,Zjy,if_pos rfl]
  exact hs i _ ys A2 hu hp _ fun y A3 h1 h2=>⟨ys,h1,Zat (by rw [hl i ys A2 hp];lia),items.length - (i + 1),by lia,rfl,hlt,⟨_,rfl⟩,_,h2⟩
 ·have e:i=items.length:=by lia
  subst e
  rw [YV (Yh _)] at j
  exact .inl ⟨j,hd ys A2 hp⟩
mutual
noncomputable def Wr.gd:Wr->Bool
 | .nothing=>true
 | .bead c=>PyData.strOk c
 | .side _ f=>f.gd
 | .pair f g=>f.gd && g.gd
 | .many k ps=>(decide (k<=3) && decide (ps.length < 64)) && gdL ps
noncomputable def gdL:List Wr->Bool
 | []=>true
 | w::ws=>w.gd && gdL ws
end
theorem ZbG:∀ (ws us:List Wr),gdL (ws++us)=(gdL ws && gdL us)
 | [],us=>by simp [gdL]
 | w::ws,us=>by simp only [List.cons_append,gdL,ZbG ws us,Bool.and_assoc]
theorem ZbX {ws:List Wr}:gdL ws=true ↔ ∀ w∈ws,w.gd=true:=by
 induction ws with
 | nil=>simp [gdL]
 | cons w ws ih=>simp [gdL,ih]
theorem Zbh {ws:List Wr} {w:Wr} (h:gdL ws=true) (m:w∈ws):w.gd=true:=ZbX.mp h w m
theorem Zcv {ps qs:List Wr} (p:ps.Perm qs) (h:gdL ps=true):gdL qs=true:=ZbX.mpr fun w hw=>ZbX.mp h w (p.mem_iff.mpr hw)
mutual
theorem Wr.gd_ok:∀ w:Wr,w.gd=true->w.ok=true
 | .nothing,_=>rfl
 | .bead _,h=>h
 | .side _ f,h=>f.gd_ok h
 | .pair f g,h=>by simp only [Wr.gd,Ye] at h;simp only [Wr.ok,Ye];exact ⟨f.gd_ok h.1,g.gd_ok h.2⟩
 | .many k ps,h=>by simp only [Wr.gd,Ye] at h;simp only [Wr.ok];exact Zeq ps h.2
theorem Zeq:∀ ws:List Wr,gdL ws=true->okL ws=true
 | [],_=>rfl
 | w::ws,h=>by simp only [gdL,Ye] at h;simp only [okL,Ye];exact ⟨w.gd_ok h.1,Zeq ws h.2⟩
end
mutual
theorem Wr.gd_nrm:∀ w:Wr,w.gd=true->w.nrm=true
 | .nothing,_=>rfl
 | .bead _,h=>rfl
 | .side _ f,h=>by simp only [Wr.nrm];exact f.gd_nrm h
 | .pair f g,h=>by simp only [Wr.gd,Ye] at h;simp only [Wr.nrm,Ye];exact ⟨f.gd_nrm h.1,g.gd_nrm h.2⟩
 | .many k ps,h=>by simp only [Wr.gd,Ye] at h;simp only [Wr.nrm,Ye];exact ⟨h.1.1,Zc4 ps h.2⟩
theorem Zc4:∀ ws:List Wr,gdL ws=true->nrmL ws=true
 | [],_=>rfl
 | w::ws,h=>by simp only [gdL,Ye] at h;simp only [nrmL,Ye];exact ⟨w.gd_nrm h.1,Zc4 ws h.2⟩
end
theorem Wr.gd_parts {w:Wr} (h:w.gd=true):gdL w.parts=true/\w.parts.length < 64:=by
 cases w with
 | nothing=>exact ⟨rfl,by simp [Wr.parts]⟩
 | bead c=>exact ⟨rfl,by simp [Wr.parts]⟩
 | side b f=>simp only [Wr.gd] at h;exact ⟨by simp [Wr.parts,gdL,h],by simp [Wr.parts]⟩
 | pair f g=>simp only [Wr.gd,Ye] at h;exact ⟨by simp [Wr.parts,gdL,h],by simp [Wr.parts]⟩
 | many k ps=>simp only [Wr.gd,Ye,Yy] at h;exact ⟨h.2,h.1.2⟩
mutual
theorem Wr.gd_post:∀ (w y:Wr),y∈w.post->w.gd=true->y.gd=true/\y.dep<=w.dep
 | .nothing,y,h,g=>by rw [Wr.post_eq] at h;simp [Wr.parts,Za7] at h;subst h;exact ⟨g,Yh _⟩
 | .bead c,y,h,g=>by rw [Wr.post_eq] at h;simp [Wr.parts,Za7] at h;subst h;exact ⟨g,Yh _⟩
 | .side b f,y,h,g=>by
  rw [Wr.post_eq] at h
  simp only [Wr.parts,Za7,Y4,Yaa,YJ] at h
  rcases h with h | h
  ·have:=f.gd_post y h g;exact ⟨this.1,by have:=this.2;simp only [Wr.dep];lia⟩
  ·subst h;exact ⟨g,Yh _⟩
 | .pair f f',y,h,g=>by
  rw [Wr.post_eq] at h
  have g2:=g
  simp only [Wr.gd,Ye] at g2
  simp only [Wr.parts,Za7,Y4,Yaa,YJ] at h
  rcases h with (h | h) | h
  ·have:=f.gd_post y h g2.1;exact ⟨this.1,by have:=this.2;simp only [Wr.dep];lia⟩
  ·have:=f'.gd_post y h g2.2;exact ⟨this.1,by have:=this.2;simp only [Wr.dep];lia⟩
  ·subst h;exact ⟨g,Yh _⟩
 | .many k ps,y,h,g=>by
  rw [Wr.post_eq] at h
  have g2:=g
  simp only [Wr.gd,Ye] at g2
  simp only [Wr.parts,Yaa,YJ] at h
  rcases h with h | h
  ·have:=Zgr ps y h g2.2;exact ⟨this.1,by have:=this.2;simp only [Wr.dep];lia⟩
  ·subst h;exact ⟨g,Yh _⟩
theorem Zgr:∀ (ws:List Wr) (y:Wr),y∈Za7 ws->gdL ws=true->y.gd=true/\y.dep<=depL ws
 | [],y,h,_=>by simp [Za7] at h
 | w :: ws,y,h,g=>by
  simp only [gdL,Ye] at g
  simp only [Za7,Yaa] at h
  rcases h with h | h
  ·have:=w.gd_post y h g.1;exact ⟨this.1,by have:=this.2;simp only [depL];lia⟩
  ·have:=Zgr ws y h g.2;exact ⟨this.1,by have:=this.2;simp only [depL];lia⟩
end
mutual
theorem Wr.pl_gd:∀ w:Wr,w.gd=true->w.pl.gd=true
 | .nothing,_=>rfl
 | .bead _,h=>h
 | .side _ f,h=>by simp only [Wr.pl,Wr.gd];exact f.pl_gd h
 | .pair f g,h=>by simp only [Wr.gd,Ye] at h;simp only [Wr.pl,Wr.gd,Ye];exact ⟨f.pl_gd h.1,g.pl_gd h.2⟩
 | .many k ps,h=>by
  simp only [Wr.gd,Ye,Yy] at h
  simp only [Wr.pl,Wr.gd,Ye,Yy]
  exact ⟨⟨h.1.1,by rw [(ZaT k _).length_eq,Zai,Yb];exact h.1.2⟩,Zcv (ZaT k _).symm (Zdb ps h.2)⟩
theorem Zdb:∀ ws:List Wr,gdL ws=true->gdL (plnL ws)=true
 | [],_=>rfl
 | w::ws,h=>by simp only [gdL,Ye] at h;simp only [plnL,gdL,Ye];exact ⟨w.pl_gd h.1,Zdb ws h.2⟩
end
theorem ZdO (j:Int):∃ k:Nat,k<=3/\atI [U.str "row",U.str "bag",U.str "choice",U.str "ring"] (j % 4)=some (.str (Za2 k)):=by
 have h:j % 4=0\/j % 4=1\/j % 4=2\/j % 4=3:=by lia
 rcases h with h | h | h | h <;> rw [h]
 ·exact ⟨0,by decide,Zam (j:=0) rfl⟩
 ·exact ⟨1,by decide,Zam (j:=1) rfl⟩
 ·exact ⟨2,by decide,Zam (j:=2) rfl⟩
 ·exact ⟨3,by decide,Zam (j:=3) rfl⟩
structure Lk (w v:Wr):Prop where
 gd:v.gd=true
 tups:v.tups=w.tups
 dep:v.dep=w.dep
 size:v.size=w.size
 pl:v.pl=w.pl
structure Lks (ws vs:List Wr):Prop where
 len:vs.length=ws.length
 gd:gdL vs=true
 tups:tupsL vs=tupsL ws
 dep:depL vs=depL ws
 size:Zbd vs=Zbd ws
 pl:plnL vs=plnL ws
theorem Lk.refl {w:Wr} (h:w.gd=true):Lk w w:=⟨h,rfl,rfl,rfl,rfl⟩
theorem ZcS:∀ (ws us:List Wr),Zbd (ws++us)=Zbd ws + Zbd us
 | [],us=>by simp [Zbd]
 | w::ws,us=>by simp only [List.cons_append,Zbd,ZcS ws us];lia
theorem Zgs (ws us:List Wr):plnL (ws++us)=plnL ws++plnL us:=by rw [Zai,Zai,Zai,Yo]
theorem Lks.nil:Lks [] []:=⟨rfl,rfl,rfl,rfl,rfl,rfl⟩
theorem Lks.snoc {ws vs:List Wr} {w v:Wr} (h:Lks ws vs) (k:Lk w v):Lks (ws++[w]) (vs++[v]):=by
 refine ⟨by rw [Yj,Yj,h.len];rfl,by rw [ZbG,h.gd];simp [gdL,k.gd],?_,?_,?_,?_⟩
 ·rw [Zas,Zas,h.tups];simp only [tupsL,k.tups]
 ·rw [ZdP,ZdP,h.dep];simp only [depL,k.dep]
 ·rw [ZcS,ZcS,h.size];simp only [Zbd,k.size]
 ·rw [Zgs,Zgs,h.pl];simp only [plnL,k.pl]
theorem Alk.perm {k:Nat} {qs rs:List Wr} (h:Alk k qs rs):qs.Perm rs:=by
 unfold Alk at h
 split at h
 ·exact h
 ·split at h
  ·rw [h]
  ·rcases h with h | ⟨r,_,h⟩
   ·rw [h]
   ·rw [h];exact (ZX qs r).symm
theorem Zh2 {α β:Type} (f:α->β) (ps:List α) (i:Nat):(turnL ps i).map f=turnL (ps.map f) i:=by
 unfold turnL;rw [Yo,Yag,Yaf]
theorem Alk.pln {k:Nat} {qs rs:List Wr} (h:Alk k qs rs):Alk k (plnL qs) (plnL rs):=by
 rw [Zai,Zai]
 unfold Alk at h ⊢
 by_cases c:k=1\/k=2
 ·rw [if_pos c] at h ⊢;exact h.map _
 ·rw [if_neg c] at h ⊢
  by_cases c0:k=0
  ·rw [if_pos c0] at h ⊢;rw [h]
  ·rw [if_neg c0] at h ⊢
   rcases h with h | ⟨r,hr,h⟩
   ·exact .inl (by rw [h])
   ·exact .inr ⟨r,by rw [Yb];exact hr,by rw [h,Zh2]⟩
theorem Alk.refl (k:Nat) (qs:List Wr):Alk k qs qs:=by
 unfold Alk
 split
 ·exact .refl _
 ·split
  ·rfl
  ·exact .inl rfl
theorem Lks.many {k:Nat} {ps qs rs:List Wr} (h:(Wr.many k ps).gd=true) (l:Lks ps qs) (a:Alk k qs rs):Lk (.many k ps) (.many k rs):=by
 simp only [Wr.gd,Ye,Yy] at h
 have p:=a.perm
 refine ⟨?_,?_,?_,?_,?_⟩
 ·simp only [Wr.gd,Ye,Yy]
  exact ⟨⟨h.1.1,by rw [<- p.length_eq,l.len];exact h.1.2⟩,Zcv p l.gd⟩
 ·simp only [Wr.tups];rw [<- Zbx p,l.tups]
 ·simp only [Wr.dep];rw [<- ZcB p,l.dep]
 ·simp only [Wr.size];rw [<- Zhf p,l.size]
 ·simp only [Wr.pl];rw [Zjs (Zee _ (Zc4 _ l.gd)) a.pln,l.pl]
theorem Lks.few {w:Wr} {vs:List Wr} (hf:w.few) (l:Lks w.parts vs):∃ v,Lk w v/\v.toU=.tup (.str w.name::vs.map Wr.toU):=by
 cases w with
 | nothing =>
  have:=l.len
  obtain rfl:vs=[]:=Ya0.mp this
  exact ⟨.nothing,⟨rfl,rfl,rfl,rfl,rfl⟩,rfl⟩
 | bead c=>exact absurd rfl (hf.1 c)
 | side b f =>
  have:=l.len
  match vs,this,l with
  | [v],_,l =>
   have h1:=l.gd;have h2:=l.tups;have h3:=l.dep;have h4:=l.size;have h5:=l.pl
   simp only [Wr.parts,gdL,tupsL,depL,Zbd,plnL,Ys,Nat.add_zero,Nat.max_zero,Yat,YdH] at h1 h2 h3 h4 h5
   exact ⟨.side b v,⟨h1,by simp only [Wr.tups,h2],by simp only [Wr.dep,h3],by simp only [Wr.size,h4],by simp only [Wr.pl,h5]⟩,rfl⟩
 | pair f g =>
  have:=l.len
  match vs,this,l with
  | [v,v'],_,l =>
   have h1:=l.gd;have h2:=l.tups;have h3:=l.dep;have h4:=l.size;have h5:=l.pl
   simp only [Wr.parts,gdL,tupsL,depL,Zbd,plnL,Ys,Nat.add_zero,Nat.max_zero,Yat,YdH] at h1 h2 h3 h4 h5
   exact ⟨.pair v v',⟨h1,by simp only [Wr.tups,Nat.add_zero,h2],by simp only [Wr.dep,h3],by simp only [Wr.size];lia,by simp only [Wr.pl,h5]⟩,rfl⟩
 | many k ps=>exact absurd rfl (hf.2 k ps)
theorem Zjr {α:Type} {xs:List α} {i:Nat} {x:α} (h:xs[i]? = some x):xs.Perm ([x]++(xs.take i).reverse++xs.drop (i + 1)):=by
 obtain ⟨hi,e⟩:=Yq.mp h
 have e1:xs=xs.take i++x::xs.drop (i + 1):=by
  conv=>lhs;rw [<- YW i xs,YX hi,e]
 conv=>lhs;rw [e1]
 refine YdI.trans ?_
 rw [YM,List.singleton_append]
 exact ((Yca _).symm.append_right _).cons x
theorem Wr.like_self (w:Wr) (h:w.ok=true):w.like w=true:=by
 rw [<- w.eqvD w];exact w.same_eqv h
theorem Zdt {lt lt':Nat->Nat->Bool}:∀ m,(∀ i j,i<=m->j<=m->lt i j=lt' i j)->argBest lt m=argBest lt' m
 | 0,_=>rfl
 | m + 1,h=>by
  have e:=Zdt m fun i j hi hj=>h i j (by lia) (by lia)
  have b:=ZbE (lt:=lt') m
  show (if lt (m + 1) (argBest lt m)=true then m + 1 else argBest lt m)=(if lt' (m + 1) (argBest lt' m)=true then m + 1 else argBest lt' m)
  rw [e,h (m + 1) (argBest lt' m) (Yh _) (by lia)]
mutual
theorem Wr.like_eq:∀ w v:Wr,w.nrm=true->v.nrm=true->w.like v=true->w=v
 | .nothing,v,_,_,e=>by cases v <;> simp [Wr.like] at e;rfl
 | .bead c,v,_,_,e=>by cases v <;> simp [Wr.like] at e;rw [e]
 | .side b f,v,h1,h2,e=>by
  cases v <;> simp [Wr.like] at e
  rename_i b' f'
  rw [e.1,f.like_eq f' h1 h2 e.2]
 | .pair f g,v,h1,h2,e=>by
  cases v <;> simp [Wr.like] at e
  rename_i f' g'
  simp only [Wr.nrm,Ye] at h1 h2
  rw [f.like_eq f' h1.1 h2.1 e.1,g.like_eq g' h1.2 h2.2 e.2]
 | .many k ps,v,h1,h2,e=>by
  have ki:=Zih e
  cases v <;> simp [Wr.like] at e
  rename_i k' ps'
  simp only [Wr.nrm,Ye,Yy] at h1 h2
  rw [Zf4 h1.1 h2.1 ki,Zd0 ps ps' h1.2 h2.2 e.2]
theorem Zd0:∀ ws vs:List Wr,nrmL ws=true->nrmL vs=true->Zbs ws vs=true->ws=vs
 | [],[],_,_,_=>rfl
 | [],_::_,_,_,e=>by simp [Zbs] at e
 | _::_,[],_,_,e=>by simp [Zbs] at e
 | w :: ws,v::vs,h1,h2,e=>by
  simp only [Zbs,Ye] at e
  simp only [nrmL,Ye] at h1 h2
  rw [w.like_eq v h1.1 h2.1 e.1,Zd0 ws vs h1.2 h2.2 e.2]
end
mutual
theorem Wr.dat_toU:∀ w:Wr,w.toU.dat=w.toD
 | .nothing=>by simp [Wr.toU,Wr.toD,U.dat,datL]
 | .bead c=>by simp [Wr.toU,Wr.toD,U.dat,datL]
 | .side b f=>by simp [Wr.toU,Wr.toD,U.dat,datL,f.dat_toU]
 | .pair f g=>by simp [Wr.toU,Wr.toD,U.dat,datL,f.dat_toU,g.dat_toU]
 | .many k ps=>by simp [Wr.toU,Wr.toD,U.dat,datL,Zf7 ps]
theorem Zf7:∀ ws:List Wr,datL (toUL ws)=toDL ws
 | []=>by simp [toUL,toDL,datL]
 | w::ws=>by simp [toUL,toDL,datL,w.dat_toU,Zf7 ws]
end
theorem Wr.toU_inj {w v:Wr} (h1:w.gd=true) (h2:v.gd=true) (e:w.toU=v.toU):w=v:=by
 refine w.like_eq v (w.gd_nrm h1) (v.gd_nrm h2) ?_
 rw [<- w.eqvD v,<- w.dat_toU,e,v.dat_toU,v.eqvD v]
 exact v.like_self (v.gd_ok h2)
open Classical in
noncomputable def byW {α:Type} (qs:List Wr) (f:Wr->α) (d:α) (u:U):α:=if h:∃ w,w∈qs/\w.toU=u then f h.choose else d
theorem Zh6 {α:Type} {qs:List Wr} {f:Wr->α} {d:α} {w:Wr} (hg:gdL qs=true) (hw:w∈qs):byW qs f d w.toU=f w:=by
 have h:∃ v,v∈qs/\v.toU=w.toU:=⟨w,hw,rfl⟩
 unfold byW
 rw [dif_pos h]
 have:=h.choose_spec
 rw [Wr.toU_inj (Zbh hg this.1) (Zbh hg hw) this.2]
theorem Zeb {α:Type} {qs:List Wr} {f:Wr->α} {d:α} (hg:gdL qs=true):(qs.map Wr.toU).map (byW qs f d)=qs.map f:=by
 rw [YT]
 exact YaB fun w hw=>Zh6 hg hw
theorem Zgc:∀ {ads:List Addr} {i:Nat} {a:Addr},ads.Nodup->ads[i]? = some a->ads.idxOf a=i
 | [],i,a,_,h=>by simp at h
 | b::ads,0,a,_,h=>by simp at h;subst h;simp [List.idxOf_cons]
 | b :: ads,i + 1,a,hn,h=>by
  simp only [List.getElem?_cons_succ] at h
  rw [Ya3] at hn
  have hm:=YG h
  have hne:b≠a:=fun e=>hn.1 (e ▸ hm)
  have hb:(b == a)=false:=by simpa using hne
  rw [List.idxOf_cons,hb,Zgc hn.2 h];rfl
theorem len0 {α:Type} {P:List α->Prop} (h:P []):∀ us:List α,us.length=0->P us:=fun us e=>by
 cases us with
 | nil=>exact h
 | cons a us=>simp at e
theorem len1 {α:Type} {P:List α->Prop} (h:∀ a,P [a]):∀ us:List α,us.length=1->P us:=fun us e=>by
 cases us with
 | nil=>simp at e
 | cons a us=>exact len0 (P:=fun us=>P (a::us)) (h a) us (by simpa using e)
theorem len2 {α:Type} {P:List α->Prop} (h:∀ a b,P [a,b]):∀ us:List α,us.length=2->P us:=fun us e=>by
 cases us with
 | nil=>simp at e
 | cons a us=>exact len1 (P:=fun us=>P (a::us)) (h a) us (by simpa using e)
theorem len3 {α:Type} {P:List α->Prop} (h:∀ a b c,P [a,b,c]):∀ us:List α,us.length=3->P us:=fun us e=>by
 cases us with
 | nil=>simp at e
 | cons a us=>exact len2 (P:=fun us=>P (a::us)) (h a) us (by simpa using e)
theorem len4 {α:Type} {P:List α->Prop} (h:∀ a b c d,P [a,b,c,d]):∀ us:List α,us.length=4->P us:=fun us e=>by
 cases us with
 | nil=>simp at e
 | cons a us=>exact len3 (P:=fun us=>P (a::us)) (h a) us (by simpa using e)
theorem Ze1 {ws vs:List Wr} (h1:gdL ws=true) (h2:gdL vs=true):Zbs ws vs=true ↔ ws=vs:=by
 constructor
 ·exact Zd0 ws vs (Zc4 ws h1) (Zc4 vs h2)
 ·rintro rfl
  clear h2
  induction ws with
  | nil=>rfl
  | cons w ws ih =>
   simp only [gdL,Ye] at h1
   simp only [Zbs,Ye]
   exact ⟨w.like_self (w.gd_ok h1.1),ih h1.2⟩
noncomputable def swAt {α:Type} (l:List α) (k:Nat):List α:=l.take k++(l.drop (k + 1)).take 1++(l.drop k).take 1++l.drop (k + 2)
theorem ZiE {α:Type} (p:List α) (a b:α) (s:List α):swAt (p++a::b::s) p.length=p++b::a::s:=by
 have e1:(p++a::b::s).drop (p.length + 1)=b::s:=by
  rw [YdJ,Yba (Ycy _)];simp
 have e2:(p++a::b::s).drop (p.length + 2)=s:=by
  rw [YdJ,Yba (by lia)];simp
 unfold swAt
 rw [e1,e2]
 simp
section
variable {α:Type} [DecidableEq α]
variable {r:α->α->Prop} {stp:α->List α} {w x o:α} {all d ini:List α} {s:List α × List α}
noncomputable def left (all:List α) (s:List α × List α):Nat:=2 * (all.length - s.2.length) + s.1.length
end
theorem Zcd {α:Type} (ps:List α):turnL ps 0=ps:=by simp [turnL]
section
variable {α:Type}
noncomputable def ins (x:α):List α->List (List α)
 | []=>[[x]]
 | y::l=>(x::y::l)::(ins x l).map (y::·)
end
noncomputable def Wr.wthU (w:Wr) (ps:List U):U:=match w with
 | .many k _=>.tup [.str (Za2 k),.tup ps]
 | w=>.tup (.str w.name::ps)
theorem wthU_few {w:Wr} (h:w.few) (ps:List U):w.wthU ps=.tup (.str w.name::ps):=by
 cases w with
 | many k qs=>exact absurd rfl (h.2 k qs)
 | _=>rfl
noncomputable section
noncomputable def Wr.wth:Wr->List Wr->Wr
 | .nothing,_=>.nothing
 | .bead c,_=>.bead c
 | .side b f,ps=>.side b (ps.getD 0 f)
 | .pair f g,ps=>.pair (ps.getD 0 f) (ps.getD 1 g)
 | .many k _,ps=>.many k ps
theorem Zb8 {w:Wr} {ps:List Wr} (h:ps.length=w.parts.length):(w.wth ps).parts=ps:=by
 cases w with
 | nothing=>simp [Wr.parts] at h;subst h;rfl
 | bead c=>simp [Wr.parts] at h;subst h;rfl
 | side b f =>
  match ps,h with
  | [x],_=>rfl
 | pair f g =>
  match ps,h with
  | [x,y],_=>rfl
 | many k qs=>rfl
theorem Zgq (w:Wr):w.wth w.parts=w:=by cases w <;> rfl
theorem ZhG {w:Wr} {ps qs:List Wr} (h:qs.length=w.parts.length):(w.wth ps).wth qs=w.wth qs:=by
 cases w with
 | nothing=>rfl
 | bead c=>rfl
 | side b f =>
  match qs,h with
  | [x],_=>rfl
 | pair f g =>
  match qs,h with
  | [x,y],_=>rfl
 | many k rs=>rfl
theorem wth_toU {w:Wr} {ps:List Wr} (hb:∀ c,w≠.bead c) (h:ps.length=w.parts.length):(w.wth ps).toU=w.wthU (ps.map Wr.toU):=by
 cases w with
 | nothing=>simp [Wr.parts] at h;subst h;rfl
 | bead c=>exact absurd rfl (hb c)
 | side b f =>
  match ps,h with
  | [x],_=>rfl
 | pair f g =>
  match ps,h with
  | [x,y],_=>rfl
 | many k qs=>exact Wr.toU_many k ps
noncomputable def Wr.prt (w:Wr) (k:Int):Option Wr:=if 0<=k/\k < w.parts.length then w.parts[k.toNat]? else none
noncomputable def Wr.setP (w:Wr) (k:Int) (x:Wr):Wr:=w.wth (w.parts.set k.toNat x)
noncomputable def Wr.at (w:Wr):List Int->Option Wr
 | []=>some w
 | k :: p=>match w.prt k with
  | some v=>v.at p
  | none=>none
noncomputable def Wr.put (w:Wr):List Int->Wr->Wr
 | [],x=>x
 | k :: p,x=>match w.prt k with
  | some v=>w.setP k (v.put p x)
  | none=>w
theorem Zd4 {w v:Wr} {k:Int} (h:w.prt k=some v):0<=k/\k < w.parts.length/\w.parts[k.toNat]? = some v:=by
 unfold Wr.prt at h
 by_cases c:0<=k/\k < w.parts.length
 ·rw [if_pos c] at h;exact ⟨c.1,c.2,h⟩
 ·rw [if_neg c] at h;cases h
theorem ZhV {w v:Wr} {k:Nat} (h:w.parts[k]? = some v):w.prt (k:Int)=some v:=by
 have:=(Yq.mp h).1
 unfold Wr.prt
 rw [if_pos ⟨by lia,by lia⟩];exact h
theorem Zg2 (w:Wr) (k:Int) (x:Wr):(w.setP k x).parts=w.parts.set k.toNat x:=Zb8 (by rw [Yaz])
theorem Zgl {w v:Wr} {k:Int} {x:Wr} (h:w.prt k=some v):(w.setP k x).prt k=some x:=by
 obtain ⟨h1,h2,h3⟩:=Zd4 h
 unfold Wr.prt
 rw [Zg2,Yaz,if_pos ⟨h1,h2⟩,YbE (by lia)]
theorem Zhs (w:Wr) (k:Int) (x y:Wr):(w.setP k x).setP k y=w.setP k y:=by
 unfold Wr.setP
 rw [Zb8 (by rw [Yaz]),List.set_set,ZhG (by rw [Yaz])]
theorem ZhZ {w v:Wr} {k:Int} (h:w.prt k=some v):w.setP k v=w:=by
 obtain ⟨_,h2,h3⟩:=Zd4 h
 unfold Wr.setP
 obtain ⟨h4,h5⟩:=Yq.mp h3
 rw [<- h5,List.set_getElem_self,Zgq]
theorem Zfi {w v:Wr} {k:Int} (p:List Int) (e:w.prt k=some v):w.at (k::p)=v.at p:=by
 show (match w.prt k with | some v=>v.at p | none=>none)=_
 rw [e]
theorem ZbJ {w v:Wr} {k:Int} (p:List Int) (x:Wr) (e:w.prt k=some v):w.put (k::p) x=w.setP k (v.put p x):=by
 show (match w.prt k with | some v=>w.setP k (v.put p x) | none=>w)=_
 rw [e]
theorem Zfg {w v:Wr} {k:Int} {p:List Int} (h:w.at (k::p)=some v):∃ u,w.prt k=some u/\u.at p=some v:=by
 cases e:w.prt k with
 | none =>
  have:w.at (k::p)=none:=by show (match w.prt k with | some v=>v.at p | none=>none)=_;rw [e]
  rw [this] at h;cases h
 | some u=>exact ⟨u,rfl,by rw [<- Zfi p e];exact h⟩
theorem Zh5:∀ {p:List Int} {w v x:Wr} (q:List Int),w.at p=some v->(w.put p x).at (p++q)=x.at q
 | [],_,_,_,_,_=>rfl
 | k :: p,w,v,x,q,h=>by
  obtain ⟨u,e,h⟩:=Zfg h
  rw [ZbJ p x e,List.cons_append,Zfi _ (Zgl e)]
  exact Zh5 q h
theorem Zfe:∀ {p:List Int} {w v x y:Wr} (q:List Int),w.at p=some v->(w.put p x).put (p++q) y=w.put p (x.put q y)
 | [],_,_,_,_,_,_=>rfl
 | k :: p,w,v,x,y,q,h=>by
  obtain ⟨u,e,h⟩:=Zfg h
  rw [ZbJ p x e,ZbJ p _ e,List.cons_append,ZbJ _ _ (Zgl e),Zfe q h,Zhs]
theorem Zga:∀ {p:List Int} {w v:Wr},w.at p=some v->w.put p v=w
 | [],_,_,h=>by cases h;rfl
 | k :: p,w,v,h=>by
  obtain ⟨u,e,h⟩:=Zfg h
  rw [ZbJ p v e,Zga h,ZhZ e]
noncomputable def topAct (w:Wr) (wd:Str) (i:Int):Option Wr:=match w with
 | .many k ps=>if wd="turn"/\k=3/\0<=i/\i < ps.length then some (.many k (turnL ps i.toNat))
  else if wd="swap"/\(k=1\/k=2)/\0<=i/\i < (ps.length:Int) - 1 then some (.many k (swAt ps i.toNat)) else none
 | _=>none
theorem top_none {k:Nat} {ps:List Wr} {wd:Str} {i:Int} (h1:¬ (wd="turn"/\k=3/\0<=i/\i < ps.length)) (h2:¬ (wd="swap"/\(k=1\/k=2)/\0<=i/\i < (ps.length:Int) - 1)):topAct (.many k ps) wd i=none:=(if_neg h1).trans (if_neg h2)
theorem Zgk {k:Nat} {ps:List Wr} {wd:Str} {i:Int} (h1:¬ (wd="turn"/\k=3/\0<=i/\i < ps.length)) (h2:wd="swap"/\(k=1\/k=2)/\0<=i/\i < (ps.length:Int) - 1):topAct (.many k ps) wd i=some (.many k (swAt ps i.toNat)):=(if_neg h1).trans (if_pos h2)
noncomputable def Wr.act (w:Wr) (wd:Str) (i:Int):List Int->Option Wr
 | []=>topAct w wd i
 | k :: p=>match w.prt k with
  | some v=>(v.act wd i p).map (w.setP k)
  | none=>none
theorem act_at {wd:Str} {i:Int}:∀ (p:List Int) (w:Wr),w.act wd i p=match w.at p with
  | some x=>(topAct x wd i).map (w.put p)
  | none=>none
 | [],w=>by
  show topAct w wd i=(topAct w wd i).map fun x=>x
  cases topAct w wd i <;> rfl
 | k :: p,w=>by
  show (match w.prt k with | some v=>(v.act wd i p).map (w.setP k) | none=>none)=_
  cases e:w.prt k with
  | none =>
   have:w.at (k::p)=none:=by show (match w.prt k with | some v=>v.at p | none=>none)=_;rw [e]
   rw [this]
  | some v =>
   rw [Zfi p e]
   simp only
   rw [act_at p v]
   cases v.at p with
   | none=>rfl
   | some x =>
    simp only [Option.map_map]
    congr 1
    funext z
    exact (ZbJ p z e).symm
end
noncomputable section
structure Stq where
 wd:Str
 p : List Int
 i : Int
noncomputable def Stq.toU (s:Stq):U:=.tup [.str s.wd,.tup (s.p.map U.int),.int s.i]
noncomputable def Zbb:Wr->List Stq->Option Wr
 | w,[]=>some w
 | w, s::ss=>match w.act s.wd s.i s.p with
  | some v=>Zbb v ss
  | none=>none
theorem Zje {α:Type} {l:List α} {k:Nat} (h:k + 1 < l.length):(swAt l k).Perm l:=by
 have e1:l=l.take k++l.drop k:=(YW k l).symm
 have e2:l.drop k=l[k]::l[k + 1]::l.drop (k + 2):=by rw [YX (by lia),YX h]
 have hl:(l.take k).length=k:=by rw [YL];lia
 have e3:l=l.take k++l[k]::l[k + 1]::l.drop (k + 2):=by rw [<- e2];exact e1
 have:=ZiE (l.take k) l[k] l[k + 1] (l.drop (k + 2))
 rw [hl,<- e3] at this
 rw [this]
 exact ((List.Perm.swap _ _ _).append_left _).trans (.of_eq e3.symm)
theorem ZhE {w v:Wr} {wd:Str} {i:Int} (h:topAct w wd i=some v):∃ k ps ps',w=.many k ps/\v=.many k ps'/\ps'.Perm ps:=by
 cases w with
 | many k ps =>
  unfold topAct at h
  simp only at h
  split at h
  ·cases h;exact ⟨k,ps,_,rfl,rfl,ZX _ _⟩
  ·split at h
   ·rename_i _ c
    cases h;exact ⟨k,ps,_,rfl,rfl,Zje (by lia)⟩
   ·cases h
 | _=>cases h
theorem gdL_set {ws:List Wr} {x:Wr} (n:Nat) (h:gdL ws=true) (hx:x.gd=true):gdL (ws.set n x)=true:=ZbX.mpr fun w hw=>by
 rcases List.mem_or_eq_of_mem_set hw with h1 | h1
 ·exact ZbX.mp h w h1
 ·rw [h1];exact hx
theorem ZeH:∀ {ws:List Wr} {v x:Wr} {n:Nat},ws[n]? = some v->x.tups=v.tups->tupsL (ws.set n x)=tupsL ws
 | [],_,_,_,h,_=>by cases h
 | w :: ws,v,x,0,h,e=>by
  cases h
  simp only [List.set,tupsL,e]
 | w :: ws,v,x,n + 1,h,e=>by
  have:=ZeH (ws:=ws) (n:=n) (x:=x) (by simpa using h) e
  simp only [List.set,tupsL,this]
theorem wth_gd {w:Wr} {ps:List Wr} (h:ps.length=w.parts.length) (g:gdL ps=true) (hw:w.gd=true):(w.wth ps).gd=true:=by
 cases w with
 | nothing=>rfl
 | bead c=>exact hw
 | side b f =>
  match ps,h with
  | [x],_=>simpa [gdL,Wr.gd,Wr.wth] using g
 | pair f g' =>
  match ps,h with
  | [x,y],_=>simpa [gdL,Wr.gd,Wr.wth] using g
 | many k qs =>
  simp only [Wr.parts] at h
  simp only [Wr.gd,Ye,Yy] at hw
  simp only [Wr.wth,Wr.gd,Ye,Yy]
  exact ⟨⟨hw.1.1,by lia⟩,g⟩
theorem wth_tups {w:Wr} {ps:List Wr} (h:ps.length=w.parts.length) (e:tupsL ps=tupsL w.parts):(w.wth ps).tups=w.tups:=by
 cases w with
 | nothing=>rfl
 | bead c=>rfl
 | side b f =>
  match ps,h with
  | [x],_=>simpa [tupsL,Wr.parts,Wr.wth,Wr.tups] using e
 | pair f g' =>
  match ps,h with
  | [x,y],_=>simpa [tupsL,Wr.parts,Wr.wth,Wr.tups] using e
 | many k qs=>simpa [Wr.parts,Wr.wth,Wr.tups] using e
theorem Ze2 {wd:Str} {i:Int}:∀ {p:List Int} {w v:Wr},w.act wd i p=some v->w.gd=true->v.gd=true/\v.tups=w.tups/\∀ k ps,w=.many k ps->∃ ps',v=.many k ps'/\ps'.length=ps.length
 | [], w,v,h,g=>by
  obtain ⟨k,ps,ps',rfl,rfl,pm⟩:=ZhE h
  simp only [Wr.gd,Ye,Yy] at g
  refine ⟨?_,?_,fun k1 q e=>⟨ps',by cases e;exact ⟨rfl,pm.length_eq⟩⟩⟩
  ·simp only [Wr.gd,Ye,Yy]
   exact ⟨⟨g.1.1,by rw [pm.length_eq];exact g.1.2⟩,Zcv pm.symm g.2⟩
  ·simp only [Wr.tups,Zbx pm]
 | k :: p,w,v,h,g=>by
  have h':(match w.prt k with | some v=>(v.act wd i p).map (w.setP k) | none=>none)=some v:=h
  cases e:w.prt k with
  | none=>rw [e] at h';cases h'
  | some u =>
   rw [e] at h'
   simp only at h'
   cases e2:u.act wd i p with
   | none=>rw [e2] at h';cases h'
   | some x =>
    rw [e2] at h'
    cases h'
    obtain ⟨_,_,hu⟩:=Zd4 e
    have gp:=(w.gd_parts g).1
    obtain ⟨i1,i2,_⟩:=Ze2 e2 (Zbh gp (YG hu))
    refine ⟨wth_gd (by rw [Yaz]) (gdL_set _ gp i1) g,wth_tups (by rw [Yaz]) (ZeH hu i2),fun k1 ps e=>?_⟩
    subst e
    exact ⟨_,rfl,by rw [Yaz];rfl⟩
theorem ZdM:∀ {ss:List Stq} {w v:Wr} {s:Stq},Zbb w ss=some v->Zbb w (ss++[s])=v.act s.wd s.i s.p
 | [],w,v,s,h=>by
  cases h
  show (match w.act s.wd s.i s.p with | some v=>some v | none=>none)=_
  cases w.act s.wd s.i s.p <;> rfl
 | t :: ss,w,v,s,h=>by
  have h':(match w.act t.wd t.i t.p with | some v=>Zbb v ss | none=>none)=some v:=h
  show (match w.act t.wd t.i t.p with | some v=>Zbb v (ss++[s]) | none=>none)=_
  cases e:w.act t.wd t.i t.p with
  | none=>rw [e] at h';cases h'
  | some u=>rw [e] at h';exact ZdM h'
theorem walk_cut {w:Wr} {ss:List Stq} {k:Nat} {s:Stq} {v:Wr} (h:Zbb w (ss.take k)=some v) (hs:ss[k]? = some s):(∀ u,v.act s.wd s.i s.p=some u->Zbb w (ss.take (k + 1))=some u)/\(v.act s.wd s.i s.p=none->Zbb w ss=none):=by
 have e:ss.take (k + 1)=ss.take k++[s]:=by rw [YbZ,hs];rfl
 refine ⟨fun u hu=>by rw [e,ZdM h,hu],fun hn=>?_⟩
 have:Zbb w (ss.take (k + 1))=none:=by rw [e,ZdM h,hn]
 have aux:∀ (as bs:List Stq) (w:Wr),Zbb w as=none->Zbb w (as++bs)=none:=fun as=>by
  induction as with
  | nil=>intro bs w h;cases h
  | cons a as ih =>
   intro bs w h
   have h':(match w.act a.wd a.i a.p with | some v=>Zbb v as | none=>none)=none:=h
   show (match w.act a.wd a.i a.p with | some v=>Zbb v (as++bs) | none=>none)=none
   cases e:w.act a.wd a.i a.p with
   | none=>rfl
   | some u=>rw [e] at h';exact ih bs u h'
 rw [<- YW (k + 1) ss]
 exact aux _ _ _ this
theorem at_one {w:Wr} {k:Int}:w.at [k]=w.prt k:=by
 show (match w.prt k with | some v=>some v | none=>none)=_
 cases w.prt k <;> rfl
theorem Wr.toU_hd (w:Wr):∃ rest,w.toU=.tup (.str w.name::rest):=by
 rcases w.kinds with ⟨c,rfl⟩ | ⟨k,ps,rfl⟩ | hf
 ·exact ⟨_,rfl⟩
 ·exact ⟨_,Wr.toU_many k ps⟩
 ·exact ⟨_,Wr.toU_few hf⟩
theorem er_map {α β:Type} (f:α->β):∀ (xs:List α) (k:Nat),(xs.map f).eraseIdx k=(xs.eraseIdx k).map f
 | [],k=>by cases k <;> rfl
 | x::xs,0=>rfl
 | x::xs,k + 1=>by simp only [YE,List.eraseIdx_cons_succ,er_map f xs k]
theorem ZiG (ms:List Int) (i j:Nat):∃ zs:List Int,cutU (ms.map U.int) (some (i:Int)) (some (j:Int))=zs.map U.int/\zs.length<=j - i:=by
 unfold cutU
 rw [HT.sIx_nat,HT.sIx_nat]
 refine ⟨(ms.drop (min i (ms.map U.int).length)).take (min j (ms.map U.int).length - min i (ms.map U.int).length),by rw [Yaf,Yag],?_⟩
 rw [YL]
 exact YH (Ybm _ _) (by rcases Nat.le_total i (ms.map U.int).length with h | h;(rw [YaQ h];exact Nat.sub_le_sub_right (Ybm _ _) _);(rw [Nat.min_eq_right h,Nat.sub_eq_zero_of_le (Nat.min_le_right _ _)];exact YY _))
end
noncomputable section
theorem ZiW {α:Type} {qs:List α} {b:Nat} (h:b < qs.length):turnL (turnL qs b) ((qs.length - b) % qs.length)=qs:=by
 rw [ZbF qs h (YbP _ (by lia))]
 have:(b + (qs.length - b) % qs.length) % qs.length=0:=by
  rw [Nat.add_mod_mod,show b + (qs.length - b)=qs.length by lia,Nat.mod_self]
 rw [this,Zcd]
theorem turn_of {α:Type} {ps qs:List α} {a b:Nat} (h:turnL ps a=turnL qs b) (ha:a<=ps.length - 1) (hb:b<=qs.length - 1):∃ t,(t < ps.length\/t=0)/\turnL ps t=qs:=by
 have hl:ps.length=qs.length:=by rw [<- Zaq ps a,h,Zaq]
 by_cases c:ps.length=0
 ·refine ⟨0,.inr rfl,?_⟩
  rw [Zcd,Ya0.mp c]
  rw [hl] at c
  exact (Ya0.mp c).symm
 ·have e:=ZiW (qs:=qs) (b:=b) (by lia)
  rw [<- h,ZbF ps (by lia) (by rw [hl];exact YbP _ (by lia))] at e
  exact ⟨_,.inl (YbP _ (by lia)),e⟩
noncomputable def Alt {α:Type} (k:Nat) (ps qs:List α):Prop:=if k=1\/k=2 then ps.Perm qs else if k=0 then ps=qs else ∃ t,(t < ps.length\/t=0)/\turnL ps t=qs
theorem arr_alt {k:Nat} {ps qs:List Wr} (h:arr k ps=arr k qs):Alt k ps qs:=by
 unfold Alt
 by_cases c:k=1\/k=2
 ·rw [if_pos c];exact (ZaT k ps).symm.trans ((List.Perm.of_eq h).trans (ZaT k qs))
 ·rw [if_neg c]
  unfold arr at h
  rw [if_neg c,if_neg c] at h
  by_cases c0:k=0
  ·rw [if_pos c0] at h ⊢
   rw [if_pos c0] at h;exact h
  ·rw [if_neg c0,if_neg c0] at h
   rw [if_neg c0]
   exact turn_of h (ZbE _) (ZbE _)
noncomputable def Wr.kd:Wr->Nat
 | .many k _=>k
 | _=>0
theorem Wr.alt_of {w v:Wr} (h:w.pl=v.pl):v=w.wth v.parts/\v.parts.length=w.parts.length/\Alt w.kd (w.parts.map Wr.pl) (v.parts.map Wr.pl):=by
 have z:∀ (ps qs:List Wr),ps=qs->Alt 0 ps qs:=fun ps qs h=>by unfold Alt;rw [if_neg (by decide),if_pos rfl];exact h
 cases w with
 | many k ps =>
  cases v with
  | many k' qs =>
   simp only [Wr.pl,Wr.many.injEq] at h
   obtain ⟨rfl,h⟩:=h
   have a:=arr_alt h
   rw [Zai,Zai] at a
   refine ⟨rfl,?_,a⟩
   have:=(ZaT k (plnL ps)).length_eq
   have h2:=(ZaT k (plnL qs)).length_eq
   rw [h] at this
   have e1:(plnL ps).length=ps.length:=by rw [Zai,Yb]
   have e2:(plnL qs).length=qs.length:=by rw [Zai,Yb]
   show qs.length=ps.length
   lia
  | _=>simp [Wr.pl] at h
 | nothing=>cases v with
  | nothing=>exact ⟨rfl,rfl,z _ _ rfl⟩
  | _=>simp [Wr.pl] at h
 | bead c=>cases v with
  | bead d=>simp only [Wr.pl,Wr.bead.injEq] at h;subst h;exact ⟨rfl,rfl,z _ _ rfl⟩
  | _=>simp [Wr.pl] at h
 | side b f=>cases v with
  | side b' g =>
   simp only [Wr.pl,Wr.side.injEq] at h
   obtain ⟨rfl,h⟩:=h
   exact ⟨rfl,rfl,z _ _ (by simp [Wr.parts,h])⟩
  | _=>simp [Wr.pl] at h
 | pair f g=>cases v with
  | pair f' g' =>
   simp only [Wr.pl,Wr.pair.injEq] at h
   exact ⟨rfl,rfl,z _ _ (by simp [Wr.parts,h])⟩
  | _=>simp [Wr.pl] at h
noncomputable def topW:Wr->List (Str × Int)->Option Wr
 | w,[]=>some w
 | w, m::ms=>match topAct w m.1 m.2 with
  | some x=>topW x ms
  | none=>none
theorem ZcP {w x:Wr} {m:Str × Int} {ms:List (Str × Int)} (h:topAct w m.1 m.2=some x):topW w (m::ms)=topW x ms:=by
 show (match topAct w m.1 m.2 with | some x=>topW x ms | none=>none)=_
 rw [h]
theorem Zgi:∀ {ms ns:List (Str × Int)} {w x:Wr},topW w ms=some x->topW w (ms++ns)=topW x ns
 | [],ns,w,x,h=>by cases h;rfl
 | m :: ms,ns,w,x,h=>by
  have h':(match topAct w m.1 m.2 with | some x=>topW x ms | none=>none)=some x:=h
  cases e:topAct w m.1 m.2 with
  | none=>rw [e] at h';cases h'
  | some u=>rw [e] at h';rw [List.cons_append,ZcP e];exact Zgi h'
noncomputable def mvS (p:List Int) (m:Str × Int):Stq:=⟨m.1,p,m.2⟩
theorem Zgo:∀ {ms:List (Str × Int)} {c a b:Wr} {p:List Int},c.at p=some a->topW a ms=some b->Zbb c (ms.map (mvS p))=some (c.put p b)
 | [],c,a,b,p,h,k=>by
  cases k
  rw [Zga h];rfl
 | m :: ms,c,a,b,p,h,k=>by
  have h':(match topAct a m.1 m.2 with | some x=>topW x ms | none=>none)=some b:=k
  cases e:topAct a m.1 m.2 with
  | none=>rw [e] at h';cases h'
  | some u =>
   rw [e] at h'
   have ea:c.act m.1 m.2 p=some (c.put p u):=by rw [act_at,h];simp only;rw [e];rfl
   have e2:Zbb c ((m::ms).map (mvS p))=Zbb (c.put p u) (ms.map (mvS p)):=by
    show (match c.act m.1 m.2 p with | some v=>Zbb v (ms.map (mvS p)) | none=>none)=_
    rw [ea]
   have ha:(c.put p u).at p=some u:=by have:=Zh5 (x:=u) [] h;rw [Y4] at this;exact this
   have hp:(c.put p u).put p b=c.put p b:=by have:=Zfe (x:=u) (y:=b) [] h;rw [Y4] at this;exact this
   rw [e2,Zgo ha h',hp]
theorem ZeF:∀ {ss tt:List Stq} {w v:Wr},Zbb w ss=some v->Zbb w (ss++tt)=Zbb v tt
 | [],tt,w,v,h=>by cases h;rfl
 | s :: ss,tt,w,v,h=>by
  have h':(match w.act s.wd s.i s.p with | some v=>Zbb v ss | none=>none)=some v:=h
  show (match w.act s.wd s.i s.p with | some v=>Zbb v (ss++tt) | none=>none)=_
  cases e:w.act s.wd s.i s.p with
  | none=>rw [e] at h';cases h'
  | some u=>rw [e] at h';exact ZeF h'
noncomputable def Zea (n f:Nat):List (Str × Int):=(List.range n).map fun (i:Nat)=>(("swap":Str),(f:Int) - 1 - (i:Int))
theorem ZiR {k:Nat} (hk:k=1\/k=2) (p:List Wr) (x:Wr):∀ (n:Nat) (m s:List Wr),m.length=n->topW (.many k (p++m++x::s)) (Zea n (p.length + n))=some (.many k (p++x::m++s))
 | 0, m,s,h=>by
  rw [Ya0.mp h]
  show some _=_
  simp
 | n + 1, m,s,h=>by
  obtain ⟨m',y,rfl⟩:∃ m' y,m=m'++[y]:=⟨m.dropLast,m.getLast (by intro e;rw [e] at h;cases h),(List.dropLast_concat_getLast _).symm⟩
  have hm:m'.length=n:=by rw [Yj] at h;simpa using h
  have e1:Zea (n + 1) (p.length + (n + 1))=(("swap":Str),((p.length + n:Nat):Int))::Zea n (p.length + n):=by
   unfold Zea
   rw [YcA,YE,YT]
   congr 1
   ·congr 1;simp only [Int.natCast_zero];lia
   ·refine YaB fun i _=>?_
    show (_,_)=_
    congr 1
    skip
    lia
  have e2:p++(m'++[y])++x::s=(p++m')++y::x::s:=by simp
  have e3:topAct (.many k ((p++m')++y::x::s)) "swap" ((p.length + n:Nat):Int)=some (.many k (p++m'++x::y::s)):=by
   rw [Zgk (fun h=>by have:=h.2.1;lia) ⟨rfl,hk,by lia,by simp only [Yj,List.length_cons];lia⟩]
   have:=ZiE (p++m') y x s
   rw [Yj,hm] at this
   rw [Int.toNat_natCast,this]
  rw [e1,e2,ZcP e3,ZiR hk p x n m' (y::s) hm]
  simp
theorem next_in {α:Type} {zs gs:List α} {n:Nat} {g:α} (h:zs.Perm gs) (ht:zs.take n=gs.take n) (hg:gs[n]? = some g):∃ j,n<=j/\zs[j]? = some g:=by
 have h1:(zs.drop n).Perm (gs.drop n):=by
  have:=h
  rw [<- YW n zs,<- YW n gs,ht] at this
  exact (List.perm_append_left_iff _).mp this
 have h2:g∈zs.drop n:=h1.mem_iff.mpr (by
  obtain ⟨h3,h4⟩:=Yq.mp hg
  rw [YX h3,h4]
  exact YaF)
 obtain ⟨j,hj⟩:=YaP.mp h2
 rw [Ydn] at hj
 exact ⟨n + j,by lia,hj⟩
theorem cut_at {α:Type} {zs:List α} {n f:Nat} {x:α} (h:n<=f) (hf:zs[f]? = some x):∃ p m s,zs=p++m++x::s/\p.length=n/\m.length=f - n/\p=zs.take n:=by
 obtain ⟨h1,h2⟩:=Yq.mp hf
 refine ⟨zs.take n,(zs.drop n).take (f - n),zs.drop (f + 1),?_,by rw [YL];lia,by rw [YL,Yai];lia,rfl⟩
 have e1:zs.take f=zs.take n++(zs.drop n).take (f - n):=by
  rw [<- YW n (zs.take f),List.take_take,List.drop_take,YaQ h]
 rw [<- e1,<- h2,<- YX h1,YW]
structure Tk where
 p : List Int
 a : Wr
 b : Wr
noncomputable def Tk.toU (t:Tk):U:=.tup [.tup (t.p.map U.int),t.a.toU,t.b.toU]
inductive Vd:List Tk->Wr->Wr->Prop
 | nil (c:Wr):Vd [] c c
 | cons {t:Tk} {st:List Tk} {c e:Wr}:c.at t.p=some t.a->Vd st (c.put t.p t.b) e->Vd (t::st) c e
noncomputable def kids (p:List Int) (rs bs:List Wr):List Tk:=(List.range rs.length).map fun (n:Nat)=>⟨p++[(n:Int)],rs.getD n .nothing,bs.getD n .nothing⟩
theorem kids_get {p:List Int} {rs bs:List Wr} {n:Nat} {t:Tk} (h:(kids p rs bs)[n]? = some t):n < rs.length/\t=⟨p++[(n:Int)],rs.getD n .nothing,bs.getD n .nothing⟩:=by
 unfold kids at h
 rw [Yl] at h
 obtain ⟨m,hm,rfl⟩:=Y8.mp h
 obtain ⟨h1,h2⟩:=Yq.mp hm
 rw [Yax] at h1
 rw [List.getElem_range] at h2
 subst h2
 exact ⟨h1,rfl⟩
theorem ZdL (p:List Int) (rs bs:List Wr):(kids p rs bs).length=rs.length:=by unfold kids;rw [Yb,Yax]
theorem ZeK {p:List Int} {rs bs:List Wr} {n:Nat} {r b:Wr} (hr:rs[n]? = some r) (hb:bs[n]? = some b):(kids p rs bs).take (n + 1)=(kids p rs bs).take n++[⟨p++[(n:Int)],r,b⟩]:=by
 have h1:=(Yq.mp hr).1
 have:(kids p rs bs)[n]? = some ⟨p++[(n:Int)],r,b⟩:=by
  unfold kids
  rw [Yl,YbV h1]
  show some (Tk.mk _ _ _)=_
  rw [Yn,hr,Yn,hb]
  rfl
 rw [YbZ,this]
 rfl
theorem Zjx {st:List Tk} {c e a:Wr} {p:List Int} {rs bs:List Wr} (h:c.at p=some a) (hr:rs.length=a.parts.length) (hb:bs.length=a.parts.length) (v:Vd st (c.put p (a.wth bs)) e) :
  ∀ n,n<=rs.length->Vd (((kids p rs bs).take n).reverse++st) (c.put p (a.wth (rs.take n++bs.drop n))) e
 | 0,_=>by simpa using v
 | n + 1, hn=>by
  have ih:=Zjx h hr hb v n (by lia)
  have er:rs[n]? = some rs[n]:=Yg (by lia)
  have eb:bs[n]? = some bs[n]:=Yg (by lia)
  rw [ZeK er eb,Yc4,List.reverse_singleton,List.singleton_append,List.cons_append]
  have hl:(rs.take (n + 1)++bs.drop (n + 1)).length=a.parts.length:=by rw [Yj,YL,Yai];lia
  have hp:(a.wth (rs.take (n + 1)++bs.drop (n + 1))).prt (n:Int)=some rs[n]:=ZhV (by
   rw [Zb8 hl,YaI (by rw [YL];lia),Ybs (by lia),er])
  refine .cons ?_ ?_
  ·show (c.put p _).at (p++[(n:Int)])=_
   rw [Zh5 [(n:Int)] h,at_one,hp]
  ·show Vd _ ((c.put p _).put (p++[(n:Int)]) bs[n]) _
   rw [Zfe [(n:Int)] h,ZbJ [] _ hp]
   have e2:(a.wth (rs.take (n + 1)++bs.drop (n + 1))).setP (n:Int) bs[n]=a.wth (rs.take n++bs.drop n):=by
    unfold Wr.setP
    rw [Zb8 hl,ZhG (by rw [Yaz,hl]),Int.toNat_natCast]
    congr 1
    rw [List.set_append_left _ _ (by rw [YL];lia),YbZ,er]
    show (List.set (rs.take n++[rs[n]]) n bs[n])++_=_
    rw [List.set_append_right _ _ (by rw [YL];lia),YL,YaQ (by lia),Yci,YM]
    show rs.take n++(bs[n]::bs.drop (n + 1))=_
    rw [<- YX]
   show Vd _ (c.put p ((a.wth _).setP (n:Int) bs[n])) _
   rw [e2]
   exact ih
theorem vd_step {st:List Tk} {c e:Wr} {t:Tk} {rs:List Wr} (v:Vd (t::st) c e) (hb:t.b=t.a.wth t.b.parts) (hl:t.b.parts.length=t.a.parts.length) (hr:rs.length=t.a.parts.length) :
  c.at t.p=some t.a/\Vd ((kids t.p rs t.b.parts).reverse++st) (c.put t.p (t.a.wth rs)) e:=by
 cases v with
 | cons h v =>
  rw [hb] at v
  have:=Zjx h hr hl v rs.length (Yh _)
  rw [Yaj,Yba (by lia),Y4,<- ZdL t.p rs t.b.parts,Yaj] at this
  exact ⟨h,this⟩
noncomputable def sqL:List Wr->Nat
 | []=>0
 | w::ws=>w.tups * w.tups + sqL ws
theorem Zfr:∀ ws us:List Wr,sqL (ws++us)=sqL ws + sqL us
 | [],us=>by simp [sqL]
 | w::ws,us=>by simp only [List.cons_append,sqL,Zfr ws us];lia
theorem sqL_rev (ws:List Wr):sqL ws.reverse=sqL ws:=by
 induction ws with
 | nil=>rfl
 | cons w ws ih=>rw [Yad,Zfr,ih];simp only [sqL];lia
theorem sq_le:∀ ws:List Wr,sqL ws + ws.length * ws.length<=tupsL ws * tupsL ws + ws.length
 | []=>by simp [sqL,tupsL]
 | w :: ws=>by
  have ih:=sq_le ws
  have h1:ws.length<=tupsL ws:=ZaE ws
  have h2:1<=w.tups:=by cases w <;> simp [Wr.tups] <;> lia
  have h3:ws.length * 1<=tupsL ws * w.tups:=YbA h1 h2
  simp only [sqL,tupsL,List.length_cons]
  have e1:(w.tups + tupsL ws) * (w.tups + tupsL ws)=w.tups * w.tups + 2 * (tupsL ws * w.tups) + tupsL ws * tupsL ws:=by
   rw [Nat.add_mul,YdA,YdA,Nat.mul_comm w.tups (tupsL ws)];lia
  have e2:(ws.length + 1) * (ws.length + 1)=ws.length * ws.length + 2 * ws.length + 1:=by rw [Nat.add_mul,YdA];lia
  lia
end
end L2
set_option maxHeartbeats 4000000
namespace L2
open PySem PySem.Spec PyProof.Rows
open PySem PySem.Spec PyProof.Rows Builtin Builtin.ObjectAttr
noncomputable abbrev TX:=St->Hp->VK->XK->Prop
noncomputable def insL {α:Type} (xs:List α) (k:Nat) (y:α):List α:=xs.take k++y::xs.drop k
noncomputable def Zib:V->List V->Hp->VK->Prop:=fun x vs H Q=>∃ l xs i y,x=.ref l/\vs=[.int i,y]/\H l=some (.lst xs)/\0<=i/\i < 2 ^ 63/\i<=xs.length/\xs.length < sizeLine/\Q .non (upd H l (.lst (insL xs i.toNat y)))
theorem ins_map {α β:Type} (f:α->β) (xs:List α) (k:Nat) (y:α):insL (xs.map f) k (f y)=(insL xs k y).map f:=by unfold insL;rw [Yo,YE,Yaf,Yag]
section
variable {X:Cx}
theorem Vals.ins {xs:List V} {us:List Value} {y:V} {u:Value} (r:Vals xs us) (q:RelV y u) (k:Nat):Vals (insL xs k y) (insL us k u):=by
 induction r generalizing k with
 | nil=>cases k <;> exact .cons q .nil
 | cons a b ih =>
  cases k with
  | zero=>exact .cons q (.cons a b)
  | succ k=>exact .cons a (ih k)
theorem ZiT:MtM X "list.insert" Zib:=by
 intro pins s σ H x vs v us Q I rx rv h
 obtain ⟨l,xs,i,y,rfl,rfl,hH,h1,h2,h3,h4,q⟩:=h
 cases rx
 cases rv with
 | cons ri rv =>
 cases rv with
 | @cons _ uy _ _ ry rv =>
 cases rv
 obtain ⟨t,rfl⟩:=ri
 obtain ⟨z,its,n,r,hl,e⟩:=I.lstM hH
 refine YaW F.slot_list_insert ⟨_,e,rfl⟩ F.entry_list_insert (F.args_list_insert_3 _ _ _) (PySem.AutoSeq1.list_insert_list_int_val_1 l its.toArray n i t uy (by simp [YcG (show -(2 ^ 63)<=i by lia) h2]) (by rw [Yk];lia)) ⟨e,?_⟩
 refine ⟨.non,_,I.lset (its':=insL its i.toNat uy) hH e ?_ (r.ins ry i.toNat) ?_,rfl,q⟩
 ·have hk:(if i < 0 then (i + ((its.toArray.size:Nat):Int)).toNat else min i.toNat its.toArray.size)=i.toNat:=by
   rw [if_neg (by lia),Yk,YaQ (by lia)]
  show (its.toArray.extract 0 (if i < 0 then (i + ((its.toArray.size:Nat):Int)).toNat else min i.toNat its.toArray.size)).push uy++its.toArray.extract (if i < 0 then (i + ((its.toArray.size:Nat):Int)).toNat else min i.toNat its.toArray.size)=_
  rw [hk]
  apply Yav.mp
  simp [insL]
  exact Yao (by simp)
 ·unfold insL
  rw [Yj,List.length_cons,YL,Yai]
  lia
end
section
variable {K:YFr}
noncomputable def mIns:U->List U->AHp->AVK->Prop:=fun u us A Q=>match u,us with
 | .ref a,[.int i,w]=>∃ xs,A a=some (.lst xs)/\0<=i/\i<=xs.length/\xs.length < 1000/\Q .non (updA A a (.lst (insL xs i.toNat w)))
 | _,_=>False
theorem RUs.ins {H:Hp} {us:List U} {vs:List V} {y:V} {u:U} (r:RUs K H us vs) (q:RU K H u y) (k:Nat):RUs K H (insL us k u) (insL vs k y):=by
 induction us generalizing k vs with
 | nil=>cases r;cases k <;> exact .cons q .nil
 | cons a us ih =>
  cases r with
  | cons a b =>
  cases k with
  | zero=>exact .cons q (.cons a b)
  | succ k=>exact .cons a (ih b k)
theorem ab_mins:AbMt K Zib mIns:=fun x u xs us A H Q' Q r rs g h k=>by
 unfold mIns at h
 split at h
 ·cases r
  cases rs with
  | cons ri rs =>
  cases rs with
  | cons rw_ rs =>
  cases rs
  cases ri
  obtain ⟨zs,e,h1,h2,h3,h⟩:=h
  obtain ⟨vs,q1,r1⟩:=g.list e
  have hl:=r1.length
  exact ⟨_,vs,_,_,rfl,rfl,q1,h1,by lia,by lia,by rw [<- hl,YaC];lia,k _ _ _ _ (Kp.lst q1) (g.setL q1 (r1.ins rw_ _)) .non h⟩
 ·exact h.elim
theorem q_ins {p:Addr} {i:Int} {u:U} {A:AHp} {Q:AVK}:(mIns (.ref p) [.int i,u] A Q)=(∃ xs,A p=some (.lst xs)/\0<=i/\i<=xs.length/\xs.length < 1000/\Q .non (updA A p (.lst (insL xs i.toNat u)))):=rfl
noncomputable def ZiC:U->List U->AHp->AVK->Prop:=fun u us A Q=>match u,us with
 | .ref a,[.int i]=>∃ xs y,A a=some (.lst xs)/\0<=i/\i < xs.length/\xs.length < 1000/\xs[i.toNat]? = some y/\Q y (updA A a (.lst (xs.eraseIdx i.toNat)))
 | _,_=>False
theorem RUs.erase {H:Hp} {us:List U} {vs:List V} (r:RUs K H us vs) (k:Nat):RUs K H (us.eraseIdx k) (vs.eraseIdx k):=by
 induction us generalizing k vs with
 | nil=>cases r;exact .nil
 | cons a us ih =>
  cases r with
  | cons a b =>
  cases k with
  | zero=>exact b
  | succ k=>exact .cons a (ih b k)
theorem Zi0:AbMt K ZiZ ZiC:=fun x u xs us A H Q' Q r rs g h k=>by
 unfold ZiC at h
 split at h
 ·cases r
  obtain ⟨v,rfl,rv⟩:=rs.inv1
  cases rv
  obtain ⟨zs,y,e,h1,h2,h3,h4,h⟩:=h
  obtain ⟨vs,q1,r1⟩:=g.list e
  have hl:=r1.length
  obtain ⟨v,hv,rv⟩:=r1.get' h4
  refine ⟨_,vs,_,_,v,rfl,rfl,q1,by lia,by lia,?_,hv,k _ _ _ _ (Kp.lst q1) (g.setL q1 (r1.erase _)) (rv.same (Kp.lst q1)) h⟩
  unfold seqIndex?
  simp only [if_neg (show ¬ _ < (0:Int) from Int.not_lt.mpr h1)]
  rw [if_pos (by rw [Ye,Yy,Yy];lia)]
 ·exact h.elim
theorem q_popAt {p:Addr} {i:Int} {A:AHp} {Q:AVK}:(ZiC (.ref p) [.int i] A Q)=(∃ xs y,A p=some (.lst xs)/\0<=i/\i < xs.length/\xs.length < 1000/\xs[i.toNat]? = some y/\Q y (updA A p (.lst (xs.eraseIdx i.toNat)))):=rfl
end
noncomputable abbrev IsZq (h:Heap) (z TI TO:Addr) (f0 f1:Value):Prop :=
 h.get? z=some { cls:=.type "zip",dict:=none,data:=.fields #[f0,f1,.bool false,.ref TI,.ref TO],slots:=#[] }
noncomputable def OwF (f0:Value):Prop:=f0=.none\/∃ n:Int,f0=rawInt n
section
variable {prog:Program} {w:World} {A:Around} {E:Value->Shared->Prop} {s:Shared} {z TI TO i1 i2 l1 l2:Addr} {k1 k2:Nat} {ps qs:Array Value} {a b:Value} {t1 t2:Bool}
theorem Zfo {M:Model} {c:Addr} {Q:Option Obj->Shared->Prop} (h:Q (s.heap.get? c) s):wpAny M A (loadIfAlive c) Q E s:=fun Γ p _=>by
 unfold loadIfAlive
 rw [Sem.wp_loadIfAlive]
 exact h
theorem Zf2 {f0:Value} {b1:Bool} {Q:Bool->Shared->Prop} (zz:IsZq s.heap z TI TO f0 (.bool b1)) (ho:OwF f0) (h1:Q true s)
  (h2:∀ h',IsZq h' z TI TO f0 (.bool true)->Heap.SameBut z s.heap h'->Q false { s with heap:=h' }):wpAny (model prog w) A (Builtin.SmallTypes.ownedTupleIsFree (.ref z)) Q E s:=by
 unfold Builtin.SmallTypes.ownedTupleIsFree
 refine Yc (YO zz rfl (x:=f0) rfl ?_)
 rcases ho with rfl | ⟨n,rfl⟩
 ·exact Yi h1
 ·show wpAny _ _ (loadIfAlive n.toNat >>= _) _ _ _
  refine Yc (Zfo ?_)
  cases e:s.heap.get? n.toNat with
  | none=>exact Yi h1
  | some o =>
   show wpAny _ _ (field (.ref z) 1 >>= _) _ _ _
   refine Yc (YO zz rfl (x:=.bool b1) rfl ?_)
   cases b1 with
   | true =>
    show wpAny _ _ (pure false) _ _ _
    exact Yi (h2 s.heap zz (Heap.SameBut.refl ..))
   | false =>
    show wpAny _ _ (setField (.ref z) 1 (.bool true) >>= _) _ _ _
    exact Yc (Y0 zz (by simp) fun g y b=>Yi (h2 g y b))
theorem Zjp {x y f0:Value} {b1:Bool} {Q:Value->Shared->Prop} (D:ZipApart z TI TO i1 i2 l1 l2) (zz:IsZq s.heap z TI TO f0 (.bool b1)) (ho:OwF f0) (zi:IsPair s.heap TI (.ref i1) (.ref i2)) (zo:IsPair s.heap TO a b)
  (j1:SIt s.heap t1 i1 l1 k1 ps) (j2:SIt s.heap t2 i2 l2 k2 qs) (hx:ps[k1]? = some x) (hy:qs[k2]? = some y)
  (hQ : ∀ h' f1 b2,OwF f1->IsZq h' z TI TO f1 (.bool b2)->(∃ c d,IsPair h' TO c d)->SIt h' t1 i1 l1 (k1 + 1) ps->SIt h' t2 i2 l2 (k2 + 1) qs->IsPair h' s.heap.objs.size x y->h'.objs.size=s.heap.objs.size + 1 ->
   (∀ c o,c≠z->c≠TO->c≠i1->c≠i2->s.heap.get? c=some o->h'.get? c=some o)->Q (.ref s.heap.objs.size) { s with heap:=h' }) :
  wpAny (model prog w) A (Builtin.«zip.__next__» ⟨[.ref z],[]⟩) (fun fin s'=>∃ v,fin=.done (.ret v)/\Q v s') E s:=by
 refine (show wpAny _ _ (field (.ref z) 2 >>= _) _ _ _ from Yc (YO zz rfl (x:=.bool false) rfl ?_))
 refine (show wpAny _ _ (field (.ref z) 3 >>= _) _ _ _ from Yc (YO zz rfl (x:=.ref TI) rfl (Yc (Y9 zi rfl ?_))))
 refine (show wpAny _ _ (Builtin.SmallTypes.ownedTupleIsFree (.ref z) >>= _) _ _ _ from Yc (Zf2 zz ho ?_ fun g0 y0 b0=>?_))
 ·simp only [if_true]
  refine Yc (Ybi (Yc (YO zz rfl (x:=.ref TO) rfl (Yc (Y0 zz (by simp) fun g1 y1 b1=>Yc ?_)))))
  have y1:IsZq g1 z TI TO .ellipsis _:=y1
  simp only [List.zipIdx_cons,List.zipIdx_nil,YbQ,List.forIn_nil]
  refine Yc (Yc (Yb6 (show wpAny _ _ (Builtin.SmallTypes.nextOf (.ref i1) >>= _) _ _ _ from ?_)))
  refine Yc (ZbQ (j1.but b1.extBut D.i1z D.l1z) D.l1i1 hx fun g2 w1 b2=>Yi ?_)
  have o2:IsPair g2 TO a b:=b2.extBut _ _ D.TOi1 (b1.extBut _ _ D.TOz zo)
  refine Yc (Y9 o2 rfl (Yc (YbR o2 fun g3 o3 b3=>Yc (YaJ (Yi ?_)))))
  have o3:IsPair g3 TO x b:=o3
  refine Yc (Yc (Yb6 (show wpAny _ _ (Builtin.SmallTypes.nextOf (.ref i2) >>= _) _ _ _ from ?_)))
  refine Yc (ZbQ (((j2.but b1.extBut D.i2z D.l2z).but b2.extBut D.i12.symm D.l2i1).but b3.extBut D.TOi2.symm D.l2TO) D.l2i2 hy fun g4 w2 b4=>Yi ?_)
  have o4:IsPair g4 TO x b:=b4.extBut _ _ D.TOi2 o3
  refine Yc (Y9 o4 rfl (Yc (YbR o4 fun g5 o5 b5=>Yc (YaJ (Yi (Yi ?_))))))
  have o5:IsPair g5 TO x y:=o5
  refine Yc (Y9 o5 rfl (Yc (YbY ?_)))
  have sz:g5.objs.size=s.heap.objs.size:=by rw [b5.1,b4.1,b3.1,b2.1,b1.1]
  have y5:IsZq g5 z TI TO .ellipsis _:=b5.extBut _ _ D.TOz.symm (b4.extBut _ _ D.i2z.symm (b3.extBut _ _ D.TOz.symm (b2.extBut _ _ D.i1z.symm y1)))
  have all5:∀ c o,c≠z->c≠TO->c≠i1->c≠i2->s.heap.get? c=some o->g5.get? c=some o:=fun c o c1 c2 c3 c4 e =>
   b5.extBut _ _ c2 (b4.extBut _ _ c4 (b3.extBut _ _ c2 (b2.extBut _ _ c3 (b1.extBut _ _ c1 e))))
  have w15:SIt g5 t1 i1 l1 (k1 + 1) ps:=((w1.but b3.extBut D.TOi1.symm D.l1TO).but b4.extBut D.i12 D.l1i2).but b5.extBut D.TOi1.symm D.l1TO
  have w25:SIt g5 t2 i2 l2 (k2 + 1) qs:=w2.but b5.extBut D.TOi2.symm D.l2TO
  have zlt:z < g5.objs.size:=Ym y5
  refine (show wpAny _ _ (Builtin.SmallTypes.ownedTupleHandOut (.ref z) (.ref g5.objs.size) >>= _) _ _ _ from Yc ?_)
  unfold Builtin.SmallTypes.ownedTupleHandOut
  have y6:IsZq (g5.push { cls:=.type "tuple",data:=.seq #[x,y] }) z TI TO .ellipsis _:=Yd _ y5
  refine Yc (Y0 y6 (by simp) fun g7 y7 b7=>?_)
  have y7:IsZq g7 z TI TO (rawInt g5.objs.size) _:=y7
  refine Y0 y7 (by simp) fun g8 y8 b8=>?_
  have y8:IsZq g8 z TI TO (rawInt g5.objs.size) (.bool false):=y8
  have up:∀ c o,c≠z->g5.get? c=some o->g8.get? c=some o:=fun c o c1 e=>b8.extBut _ _ c1 (b7.extBut _ _ c1 (Yd _ e))
  have t8:IsPair g8 g5.objs.size x y:=b8.extBut _ _ (YaK zlt) (b7.extBut _ _ (YaK zlt) (Yp _ rfl))
  have s8:g8.objs.size=s.heap.objs.size + 1:=by rw [b8.1,b7.1,YaH,sz]
  rw [sz] at y8 t8
  refine Yi ⟨_,rfl,show Q (.ref g5.objs.size) _ from ?_⟩
  rw [sz]
  exact hQ g8 _ _ (.inr ⟨_,rfl⟩) y8 ⟨_,_,up _ _ D.TOz o5⟩ (w15.at (fun o e=>up _ o D.i1z e) fun o e=>up _ o D.l1z e) (w25.at (fun o e=>up _ o D.i2z e) fun o e=>up _ o D.l2z e) t8 s8 fun c o c1 c2 c3 c4 e=>up c o c1 (all5 c o c1 c2 c3 c4 e)
 ·simp only [YZ,YaE]
  rw [<- Ybu]
  simp only [YbQ,List.forIn_nil]
  refine Yc (Yc (Yc (YS (show wpAny _ _ (Builtin.SmallTypes.nextOf (.ref i1) >>= _) _ _ _ from ?_))))
  refine Yc (ZbQ (j1.but b0.extBut D.i1z D.l1z) D.l1i1 hx fun g2 w1 b2=>Yi (Yi ?_))
  refine Yc (Yc (YS (show wpAny _ _ (Builtin.SmallTypes.nextOf (.ref i2) >>= _) _ _ _ from ?_)))
  refine Yc (ZbQ ((j2.but b0.extBut D.i2z D.l2z).but b2.extBut D.i12.symm D.l2i1) D.l2i2 hy fun g4 w2 b4=>Yi (Yi (Yi ?_)))
  have sz:g4.objs.size=s.heap.objs.size:=by rw [b4.1,b2.1,b0.1]
  refine Yc (YbY (hsz:=show (2:Nat)<=sizeLine by decide) ?_)
  refine Yi ⟨_,rfl,show Q (.ref g4.objs.size) _ from ?_⟩
  have y4:IsZq g4 z TI TO f0 (.bool true):=b4.extBut _ _ D.i2z.symm (b2.extBut _ _ D.i1z.symm y0)
  have up:∀ c o,c≠z->c≠i1->c≠i2->s.heap.get? c=some o->g4.get? c=some o:=fun c o c1 c3 c4 e=>b4.extBut _ _ c4 (b2.extBut _ _ c3 (b0.extBut _ _ c1 e))
  have t4:IsPair (g4.push { cls:=.type "tuple",data:=.seq #[x,y] }) g4.objs.size x y:=Yp _ rfl
  rw [sz] at t4 ⊢
  exact hQ _ f0 true ho (Yd _ y4) ⟨_,_,Yd _ (up _ _ D.TOz D.TOi1 D.TOi2 zo)⟩ ((w1.but b4.extBut D.i12 D.l1i2).at (fun o e=>Yd _ e) fun o e=>Yd _ e) (w2.at (fun o e=>Yd _ e) fun o e=>Yd _ e) t4 (by rw [YaH,sz]) fun c o c1 c2 c3 c4 e=>Yd _ (up c o c1 c3 c4 e)
theorem zipQ_end {f0:Value} {b1:Bool} {Q:Fin->Shared->Prop} (hh:A.handled=none) (D:ZipApart z TI TO i1 i2 l1 l2) (zz:IsZq s.heap z TI TO f0 (.bool b1)) (ho:OwF f0) (zi:IsPair s.heap TI (.ref i1) (.ref i2)) (zo:IsPair s.heap TO a b)
  (j1:SIt s.heap t1 i1 l1 k1 ps) (j2:SIt s.heap t2 i2 l2 k2 qs) (hend:ps[k1]? = none\/qs[k2]? = none)
  (hE:∀ h' e,(∀ c o,c≠z->c≠TO->c≠i1->c≠i2->s.heap.get? c=some o->h'.get? c=some o)->(∃ o,h'.get? e=some o/\o.cls=.type "StopIteration")->E (.ref e) { s with heap:=h' }) :
  wpAny (model prog w) A (Builtin.«zip.__next__» ⟨[.ref z],[]⟩) Q E s:=by
 refine (show wpAny _ _ (field (.ref z) 2 >>= _) _ _ _ from Yc (YO zz rfl (x:=.bool false) rfl ?_))
 refine (show wpAny _ _ (field (.ref z) 3 >>= _) _ _ _ from Yc (YO zz rfl (x:=.ref TI) rfl (Yc (Y9 zi rfl ?_))))
 refine (show wpAny _ _ (Builtin.SmallTypes.ownedTupleIsFree (.ref z) >>= _) _ _ _ from Yc (Zf2 zz ho ?_ fun g0 y0 b0=>?_))
 ·simp only [if_true]
  refine Yc (Ybi (Yc (YO zz rfl (x:=.ref TO) rfl (Yc (Y0 zz (by simp) fun g1 y1 b1=>Yc ?_)))))
  have y1:IsZq g1 z TI TO .ellipsis _:=y1
  simp only [List.zipIdx_cons,List.zipIdx_nil,YbQ,List.forIn_nil]
  refine Yc (Yc (Yb6 (show wpAny _ _ (Builtin.SmallTypes.nextOf (.ref i1) >>= _) _ _ _ from ?_)))
  cases hx:ps[k1]? with
  | none =>
   refine Yc (ZdW hh (j1.but b1.extBut D.i1z D.l1z) hx fun g2 e b2 he=>?_)
   obtain ⟨oe,ho,hc⟩:=he
   have y2:IsZq g2 z TI TO .ellipsis _:=b2 _ _ D.i1z.symm y1
   have ne:e≠z:=fun q=>by subst q;rw [y2] at ho;cases ho;simp at hc
   exact Y0 y2 (by simp) fun g3 _ b3=>hE g3 e (fun c o c1 _ c3 _ q=>b3.extBut _ _ c1 (b2 _ _ c3 (b1.extBut _ _ c1 q))) ⟨oe,b3.extBut _ _ ne ho,hc⟩
  | some x =>
   have hy:qs[k2]? = none:=by
    rcases hend with h | h
    ·rw [hx] at h;cases h
    ·exact h
   refine Yc (ZbQ (j1.but b1.extBut D.i1z D.l1z) D.l1i1 hx fun g2 w1 b2=>Yi ?_)
   have o2:IsPair g2 TO a b:=b2.extBut _ _ D.TOi1 (b1.extBut _ _ D.TOz zo)
   refine Yc (Y9 o2 rfl (Yc (YbR o2 fun g3 o3 b3=>Yc (YaJ (Yi ?_)))))
   refine Yc (Yc (Yb6 (show wpAny _ _ (Builtin.SmallTypes.nextOf (.ref i2) >>= _) _ _ _ from ?_)))
   refine Yc (ZdW hh (((j2.but b1.extBut D.i2z D.l2z).but b2.extBut D.i12.symm D.l2i1).but b3.extBut D.TOi2.symm D.l2TO) hy fun g4 e b4 he=>?_)
   obtain ⟨oe,ho,hc⟩:=he
   have y4:IsZq g4 z TI TO .ellipsis _:=b4 _ _ D.i2z.symm (b3.extBut _ _ D.TOz.symm (b2.extBut _ _ D.i1z.symm y1))
   have ne:e≠z:=fun q=>by subst q;rw [y4] at ho;cases ho;simp at hc
   exact Y0 y4 (by simp) fun g5 _ b5=>hE g5 e (fun c o c1 c2 c3 c4 q=>b5.extBut _ _ c1 (b4 _ _ c4 (b3.extBut _ _ c2 (b2.extBut _ _ c3 (b1.extBut _ _ c1 q))))) ⟨oe,b5.extBut _ _ ne ho,hc⟩
 ·simp only [YZ,YaE]
  rw [<- Ybu]
  simp only [YbQ,List.forIn_nil]
  refine Yc (Yc (Yc (YS (show wpAny _ _ (Builtin.SmallTypes.nextOf (.ref i1) >>= _) _ _ _ from ?_))))
  cases hx:ps[k1]? with
  | none=>exact Yc (ZdW hh (j1.but b0.extBut D.i1z D.l1z) hx fun g2 e b2 he=>hE g2 e (fun c o c1 _ c3 _ q=>b2 _ _ c3 (b0.extBut _ _ c1 q)) he)
  | some x =>
   have hy:qs[k2]? = none:=by
    rcases hend with h | h
    ·rw [hx] at h;cases h
    ·exact h
   refine Yc (ZbQ (j1.but b0.extBut D.i1z D.l1z) D.l1i1 hx fun g2 w1 b2=>Yi (Yi ?_))
   refine Yc (Yc (YS (show wpAny _ _ (Builtin.SmallTypes.nextOf (.ref i2) >>= _) _ _ _ from ?_)))
   exact Yc (ZdW hh ((j2.but b0.extBut D.i2z D.l2z).but b2.extBut D.i12.symm D.l2i1) hy fun g4 e b4 he=>hE g4 e (fun c o c1 c2 c3 c4 q=>b4 _ _ c4 (b2.extBut _ _ c3 (b0.extBut _ _ c1 q))) he)
theorem ZgE {e it:Addr} {i:Nat} {old:Value} {Q:Option Value->Shared->Prop} (he:IsEnum s.heap e it i old)
  (hin:∀ (A':Around) (E':Value->Shared->Prop),wpAny (model prog w) A' (Builtin.SmallTypes.nextOf (.ref it)) (fun x s1=>IsEnum s1.heap e it i old/\∀ h',IsEnumOut h' e it ((i:Int) + 1) x s1.heap.objs.size ->
   h'.get? s1.heap.objs.size=some { cls:=.type "tuple",data:=.seq #[.int i s1.toks,x] }->(∀ b o,b≠e->s1.heap.get? b=some o->h'.get? b=some o)->Q (some (.ref s1.heap.objs.size)) { s1 with heap:=h',toks:=s1.toks + 1 }) E' s) :
  wpAny (model prog w) A (pyNext (.ref e)) Q E s:=by
 have hT:s.TypeIs (.ref e) "enumerate":=⟨_,he,rfl⟩
 unfold pyNext
 refine Yc (YcV (Y6 (name:=Str.ofString "__next__") hT Ybf
  (Yau Ybf hT YcD ?_ (Ycp _))))
 show wpAny _ _ (field (.ref e) 2 >>= _) _ _ _
 refine Yc (YO he rfl (x:=.ref it) rfl ?_)
 refine Yc (YR (hin _ _) ?_ fun _ _ h=>h)
 rintro x ⟨hp,g,d,tk,os⟩ ⟨he₁,hQ⟩
 have he₁:IsEnum hp e it i old:=he₁
 show wpAny _ _ (field (.ref e) 3 >>= _) _ _ ⟨hp,g,d,tk,os⟩
 refine Yc (YO he₁ rfl (x:=rawInt i) rfl ?_)
 show wpAny _ _ (field (.ref e) 4 >>= _) _ _ ⟨hp,g,d,tk,os⟩
 refine Yc (YO he₁ rfl (x:=.none) rfl ?_)
 show wpAny _ _ (mkInt i >>= _) _ _ ⟨hp,g,d,tk,os⟩
 refine Yc (wpAny_mkInt ?_)
 show wpAny _ _ (setField (.ref e) 3 (rawInt ((i:Int) + 1)) >>= _) _ _ ⟨hp,g,d,tk + 1,os⟩
 refine Yc (Y0 he₁ (by simp) fun h₂ he₂ hs₂=>?_)
 replace hs₂:Heap.SameBut e hp h₂:=hs₂
 replace he₂:IsEnum h₂ e it ((i:Int) + 1) old:=he₂
 show wpAny _ _ (setField (.ref e) 4 .none >>= _) _ _ ⟨h₂,g,d,tk + 1,os⟩
 refine Yc (Y0 he₂ (by simp) fun h₃ he₃ hs₃=>?_)
 replace hs₃:Heap.SameBut e h₂ h₃:=hs₃
 replace he₃:IsEnum h₃ e it ((i:Int) + 1) old:=he₃
 show wpAny _ _ (newTuple [.int i tk,x] >>= _) _ _ ⟨h₃,g,d,tk + 1,os⟩
 refine Yc (YbY ?_)
 have he₄:IsEnum (h₃.push { cls:=.type "tuple",data:=.seq #[.int i tk,x] }) e it ((i:Int) + 1) old:=Yd _ he₃
 generalize hh₄:h₃.push { cls:=.type "tuple",data:=.seq #[.int i tk,x] }=h₄ at he₄
 have hsz:h₃.objs.size=hp.objs.size:=by rw [hs₃.1,hs₂.1]
 have hel:e < hp.objs.size:=Ym he₁
 have ht₄:h₄.get? hp.objs.size=some { cls:=.type "tuple",data:=.seq #[.int i tk,x] }:=by rw [<- hh₄,<- hsz];exact Yp _ rfl
 have hk₄:∀ b o,b≠e->hp.get? b=some o->h₄.get? b=some o:=fun b o hbe hb=>by
  rw [<- hh₄];exact Yd _ (hs₃.extBut b o hbe (hs₂.extBut b o hbe hb))
 show wpAny _ _ (Builtin.SmallTypes.ownedTupleIsFree (.ref e) >>= _) _ _ ⟨h₄,g,d,tk + 1,os⟩
 rw [hsz]
 clear hh₄ he₃ hs₃ he₂ hs₂ hsz h₃ h₂
 refine Yc ?_
 unfold Builtin.SmallTypes.ownedTupleIsFree
 refine Yc (YO he₄ rfl (x:=.none) rfl (Yi ?_))
 simp only [if_true]
 refine Yc (Ybi ?_)
 refine Yc (YO he₄ rfl (x:=old) rfl ?_)
 refine Yc (Y0 he₄ (by simp) fun h₅ he₅ hs₅=>?_)
 replace hs₅:Heap.SameBut e h₄ h₅:=hs₅
 replace he₅:IsEnum h₅ e it ((i:Int) + 1) x:=he₅
 show wpAny _ _ (Builtin.SmallTypes.ownedTupleHandOut (.ref e) (.ref hp.objs.size) >>= _) _ _ ⟨h₅,g,d,tk + 1,os⟩
 refine Yc ?_
 unfold Builtin.SmallTypes.ownedTupleHandOut
 refine Yc (Y0 he₅ (by simp) fun h₆ he₆ hs₆=>?_)
 replace hs₆:Heap.SameBut e h₅ h₆:=hs₆
 replace he₆:IsEnumOut h₆ e it ((i:Int) + 1) x hp.objs.size:=he₆
 refine Y0 he₆ (by simp) fun h₇ he₇ hs₇=>?_
 replace hs₇:Heap.SameBut e h₆ h₇:=hs₇
 replace he₇:IsEnumOut h₇ e it ((i:Int) + 1) x hp.objs.size:=he₇
 refine Yc (YaJ (Yi ⟨_,rfl,Yi (hQ h₇ he₇ ?_ ?_)⟩))
 ·exact hs₇.extBut _ _ (YaK hel) (hs₆.extBut _ _ (YaK hel) (hs₅.extBut _ _ (YaK hel) ht₄))
 ·exact fun b o hbe hb=>hs₇.extBut b o hbe (hs₆.extBut b o hbe (hs₅.extBut b o hbe (hk₄ b o hbe hb)))
theorem Zhu {e it:Addr} {i:Nat} {old:Value} {Q:Option Value->Shared->Prop} (hh:A.handled=none) (he:IsEnum s.heap e it i old)
  (hin:∀ (A':Around) (E':Value->Shared->Prop),A'.handled=none->(∀ h' x,(∃ o,h'.get? x=some o/\o.cls=.type "StopIteration")->Q none { s with heap:=h' }->E' (.ref x) { s with heap:=h' })->wpAny (model prog w) A' (Builtin.SmallTypes.nextOf (.ref it)) (fun _ _=>False) E' s) :
  wpAny (model prog w) A (pyNext (.ref e)) Q E s:=by
 have hT:s.TypeIs (.ref e) "enumerate":=⟨_,he,rfl⟩
 unfold pyNext
 refine Yc (YcV (Y6 (name:=Str.ofString "__next__") hT Ybf
  (Yau Ybf hT YcD ?_ (Ycp _))))
 show wpAny _ _ (field (.ref e) 2 >>= _) _ _ _
 refine Yc (YO he rfl (x:=.ref it) rfl ?_)
 refine Yc (YR (hin _ _ hh fun h' x hx q=>?_) (fun _ _ h=>h.elim) fun _ _ h=>h)
 obtain ⟨o,ho,hc⟩:=hx
 exact Yc (YbI (T:="StopIteration") (b:=true) ⟨o,ho,hc⟩ isSubtype_stop (Yi q))
theorem ZgF {x y f0:Value} {b1:Bool} {Q:Value->Shared->Prop} (D:ZipApart z TI TO i1 i2 l1 l2) (zz:IsZq s.heap z TI TO f0 (.bool b1)) (ho:OwF f0) (zi:IsPair s.heap TI (.ref i1) (.ref i2)) (zo:IsPair s.heap TO a b)
  (j1:SIt s.heap t1 i1 l1 k1 ps) (j2:SIt s.heap t2 i2 l2 k2 qs) (hx:ps[k1]? = some x) (hy:qs[k2]? = some y)
  (hQ : ∀ h' f1 b2,OwF f1->IsZq h' z TI TO f1 (.bool b2)->(∃ c d,IsPair h' TO c d)->SIt h' t1 i1 l1 (k1 + 1) ps->SIt h' t2 i2 l2 (k2 + 1) qs->IsPair h' s.heap.objs.size x y->h'.objs.size=s.heap.objs.size + 1 ->
   (∀ c o,c≠z->c≠TO->c≠i1->c≠i2->s.heap.get? c=some o->h'.get? c=some o)->Q (.ref s.heap.objs.size) { s with heap:=h' }) :
  wpAny (model prog w) A (Builtin.SmallTypes.nextOf (.ref z)) Q E s:=by
 have ty:s.TypeIs (.ref z) "zip":=⟨_,zz,rfl⟩
 unfold Builtin.SmallTypes.nextOf
 exact Yc (Y6 (name:=Str.ofString "__next__") ty YbS (Yau YbS ty YdK (Zjp D zz ho zi zo j1 j2 hx hy fun h' f1 b2 a0 a1 a2 a3 a4 a5 a6 a7=>Yi (hQ h' f1 b2 a0 a1 a2 a3 a4 a5 a6 a7)) (Ydx _)))
theorem Zhg {f0:Value} {b1:Bool} {Q:Value->Shared->Prop} (hh:A.handled=none) (D:ZipApart z TI TO i1 i2 l1 l2) (zz:IsZq s.heap z TI TO f0 (.bool b1)) (ho:OwF f0) (zi:IsPair s.heap TI (.ref i1) (.ref i2)) (zo:IsPair s.heap TO a b)
  (j1:SIt s.heap t1 i1 l1 k1 ps) (j2:SIt s.heap t2 i2 l2 k2 qs) (hend:ps[k1]? = none\/qs[k2]? = none)
  (hE:∀ h' e,(∀ c o,c≠z->c≠TO->c≠i1->c≠i2->s.heap.get? c=some o->h'.get? c=some o)->(∃ o,h'.get? e=some o/\o.cls=.type "StopIteration")->E (.ref e) { s with heap:=h' }) :
  wpAny (model prog w) A (Builtin.SmallTypes.nextOf (.ref z)) Q E s:=by
 have ty:s.TypeIs (.ref z) "zip":=⟨_,zz,rfl⟩
 unfold Builtin.SmallTypes.nextOf
 exact Yc (Y6 (name:=Str.ofString "__next__") ty YbS (Yau YbS ty YdK (zipQ_end hh D zz ho zi zo j1 j2 hend hE) (Ydx _)))
end
noncomputable def ItEz (K:YFr) (t1 t2:Bool) (a b:Addr):It :=
 ⟨fun i H=>∃ xs ys x y,sqB K H t1 a xs/\sqB K H t2 b ys/\xs[i]? = some x/\ys[i]? = some y,
  fun i H v H'=>∃ T U x y,v=.ref U/\H T=none/\H U=none/\T≠U/\H'=upd (upd H T (.tup [x,y])) U (.tup [.int i,.ref T])/\(∀ xs,sqB K H t1 a xs->xs[i]? = some x)/\(∀ ys,sqB K H t2 b ys->ys[i]? = some y),
  fun i H=>∃ xs ys,sqB K H t1 a xs/\sqB K H t2 b ys/\(xs.length<=i\/ys.length<=i)⟩
theorem turn_ez {P:Program} {w:World} {K:YFr} {elts:List Expr} {k0} {pos:Pos} {e z TI TO i1 i2 l1 l2:Addr} {t1 t2:Bool} (D:ZipApart z TI TO i1 i2 l1 l2) (ne:∀ b∈[z,TI,TO,i1,i2],b≠e):Turn P w K (.Tuple elts k0 pos) (ItEz K t1 t2 l1 l2) [e,z,TI,TO,i1,i2] e
  (fun i h=>(∃ old,IsEnum h e z i old)/\(∃ f0 b,OwF f0/\IsZq h z TI TO f0 (.bool b))/\IsPair h TI (.ref i1) (.ref i2)/\(∃ a b,IsPair h TO a b)/\itB h t1 i1 l1 i/\itB h t2 i2 l2 i):=by
 have nz:z≠e:=ne z (by simp)
 have nTI:TI≠e:=ne TI (by simp)
 have nTO:TO≠e:=ne TO (by simp)
 have n1:i1≠e:=ne i1 (by simp)
 have n2:i2≠e:=ne i2 (by simp)
 refine ⟨by simp,fun i h st b hb=>?_,fun i h h' st k=>?_,?_,?_,fun _ _ _ _ _ st h=>YbD st.1.choose_spec h⟩
 ·obtain ⟨⟨old,he⟩,⟨f0,b1,ho,zz⟩,zi,⟨a,c,zo⟩,j1,j2⟩:=st
  simp only [Yv,YU,YaL] at hb
  rcases hb with e | e | e | e | e | e <;> subst e
  ·exact ⟨_,he,fun v q=>nomatch q⟩
  ·exact ⟨_,zz,fun v q=>nomatch q⟩
  ·exact ⟨_,zi,fun v q=>nomatch q⟩
  ·exact ⟨_,zo,fun v q=>nomatch q⟩
  ·exact j1.obj
  ·exact j2.obj
 ·obtain ⟨⟨old,he⟩,⟨f0,b1,ho,zz⟩,zi,⟨a,c,zo⟩,j1,j2⟩:=st
  exact ⟨⟨old,k e (by simp) _ he⟩,⟨f0,b1,ho,k z (by simp) _ zz⟩,k TI (by simp) _ zi,⟨a,c,k TO (by simp) _ zo⟩,j1.at fun o e=>k i1 (by simp) o e,j2.at fun o e=>k i2 (by simp) o e⟩
 ·intro X e1 e2 e3 hc i pins s σ H E I hf st hg
  subst e1 e2 e3
  obtain ⟨⟨old,he⟩,⟨f0,b1,ho,zz⟩,zi,⟨a,c,zo⟩,j1,j2⟩:=st
  obtain ⟨xs,ys,x,y,hx,hy,hxi,hyi⟩:=hg
  obtain ⟨its,rv,p⟩:=j1.sit I hx
  obtain ⟨its2,rv2,p2⟩:=j2.sit I hy
  obtain ⟨u,hu,ru⟩:=rv.get hxi
  obtain ⟨u2,hu2,ru2⟩:=rv2.get hyi
  refine ZgE he fun A' E'=>ZgF D zz ho zi zo p p2 (x:=u) (y:=u2) (by simpa using hu) (by simpa using hu2) fun h' f1 b2 o1 z1 to1 w1 w2 pr sz hk=>⟨hk e _ nz.symm nTO.symm n1.symm n2.symm he,fun h2 he2 ht2 hk2=>?_⟩
  refine ⟨_,rfl,Yb4 he2 fun h3 he3 sb=>?_⟩
  have hel:e < s.heap.objs.size:=Ym he
  have hT1:IsTup h' s.heap.objs.size [u,u2].toArray:=⟨_,pr,rfl,_,rfl⟩
  have hf':∀ b∈[z,TI,TO,i1,i2],FpOk X pins H b:=fun b hb=>hf b (Yaw _ hb)
  have I1:Inv X pins σ (upd H s.heap.objs.size (.tup [x,y])) { s with heap:=h',toks:=s.toks }:=I.turnedL (ch:=[z,TI,TO,i1,i2]) hf' (fun b o hb e=>by
   simp only [Yv,YU,YaL,not_or] at hb
   exact hk b o hb.1 hb.2.2.1 hb.2.2.2.1 hb.2.2.2.2 e) (Yh _) ⟨by show 2<=sizeLine;decide,[u,u2],.cons ru (.cons ru2 .nil),hT1⟩
  have hn:H s.heap.objs.size=none:=I.hok.fresh (Yh _)
  have hnU:upd H s.heap.objs.size (.tup [x,y]) h'.objs.size=none:=I1.hok.fresh (Yh _)
  have nTU:s.heap.objs.size≠h'.objs.size:=by rw [sz];exact Yx (Yce _)
  have fe:FpOk X pins (upd H s.heap.objs.size (.tup [x,y])) e:=by
   obtain ⟨q0,q⟩:=hf e (by simp)
   exact ⟨by rw [Zs (Yx hel)];exact q0,q⟩
  have nU:h'.objs.size≠e:=by rw [sz];exact YaK (YaV hel)
  have hT2:IsTup h3 h'.objs.size [Value.int i s.toks,.ref s.heap.objs.size].toArray:=⟨_,sb.extBut _ _ nU ht2,rfl,_,rfl⟩
  have I2:Inv X pins σ (upd (upd H s.heap.objs.size (.tup [x,y])) h'.objs.size (.tup [.int i,.ref s.heap.objs.size])) { s with heap:=h3,toks:=s.toks + 1 }:=I1.turnedL (ch:=[e]) (fun b hb=>by rw [YJ.mp hb];exact fe) (fun b o hb q=>by
   have hb:b≠e:=fun z=>hb (by rw [z];exact YJ.mpr rfl)
   exact sb.extBut _ _ hb (hk2 b o hb q)) (Yh _) ⟨by show 2<=sizeLine;decide,[Value.int i s.toks,.ref s.heap.objs.size],.cons ⟨_,rfl⟩ (.cons rfl .nil),hT2⟩
  have hnU0:H h'.objs.size=none:=by rw [Zs nTU.symm] at hnU;exact hnU
  have up:∀ b o,b≠e->h'.get? b=some o->h3.get? b=some o:=fun b o hb q=>sb.extBut _ _ hb (hk2 b o hb q)
  obtain ⟨c1,d1,to1⟩:=to1
  refine ⟨.ref h'.objs.size,_,I2,rfl,⟨_,_,x,y,rfl,hn,hnU0,nTU,rfl,fun zs q=>by rw [I.sqB_inj q hx];exact hxi,fun zs q=>by rw [I.sqB_inj q hy];exact hyi⟩,
   ⟨⟨_,by push_cast;exact he3⟩,⟨f1,b2,o1,up _ _ nz z1⟩,up _ _ nTI (hk _ _ D.TIz D.TITO D.TIi1 D.TIi2 zi),⟨_,_,up _ _ nTO to1⟩,w1.it.at fun o q=>up _ o n1 q,w2.it.at fun o q=>up _ o n2 q⟩,fun b hb=>?_⟩
  have hfb:=(hf b hb).1
  have hlt:b < s.heap.objs.size:=by
   obtain ⟨o,e⟩:∃ o,s.heap.get? b=some o:=by
    simp only [Yv,YU,YaL] at hb
    rcases hb with e | e | e | e | e | e <;> subst e
    ·exact ⟨_,he⟩
    ·exact ⟨_,zz⟩
    ·exact ⟨_,zi⟩
    ·exact ⟨_,zo⟩
    ·obtain ⟨o,e,_⟩:=j1.obj;exact ⟨o,e⟩
    ·obtain ⟨o,e,_⟩:=j2.obj;exact ⟨o,e⟩
   exact Ym e
  rw [Zs (by rw [sz];exact Yx (YaV hlt)),Zs (Yx hlt)];exact hfb
 ·intro X e1 e2 e3 hc i pins s σ H E I hf st hg
  subst e1 e2 e3
  obtain ⟨⟨old,he⟩,⟨f0,b1,ho,zz⟩,zi,⟨a,c,zo⟩,j1,j2⟩:=st
  obtain ⟨xs,ys,hx,hy,hend⟩:=hg
  obtain ⟨its,rv,p⟩:=j1.sit I hx
  obtain ⟨its2,rv2,p2⟩:=j2.sit I hy
  have hl:=rv.length
  have hl2:=rv2.length
  refine Zhu (I.ok.hd hc) he fun A' E' hA hE=>Zhg hA D zz ho zi zo p p2 ?_ fun h' x hk hx=>hE h' x hx ⟨rfl,I.turnedM (t':=s.toks) (ch:=[e,z,TI,TO,i1,i2]) hf (fun b o hb e=>by
   simp only [Yv,YU,YaL,not_or] at hb
   exact hk b o hb.2.1 hb.2.2.2.1 hb.2.2.2.2.1 hb.2.2.2.2.2 e)⟩
  rcases hend with h | h
  ·exact .inl (by simp;lia)
  ·exact .inr (by simp;lia)
section
variable {prog:Program} {w:World} {A:Around} {E:Value->Shared->Prop} {s:Shared}
open PySem.AutoSeq1 (wpAny_loadPart')
theorem Zep (z TI TO:Addr) :
  Meets (Builtin.«enumerate.__new__» ⟨[.type "enumerate",.ref z],[]⟩) (fun _ R s=>IsZip s.heap z TI TO .none /\
   R (.ok (.ret (.ref s.heap.objs.size))) { s with heap:=s.heap.push { cls:=.type "enumerate",data:=.fields #[.none,.bool false,.ref z,rawInt 0,.none,.none] } }) :=
 .of_wp fun prog w A R s hq0=>by
  obtain ⟨g1,g2⟩:=hq0
  obtain ⟨hp,ge,dr,tk,os⟩:=s
  have es:=sub_enumerate
  have g1:IsZip (Shared.heap ⟨hp,ge,dr,tk,os⟩) z TI TO .none:=g1
  wp_walk using YF g1
  refine wpAny_stack_any fun st=>Yi ?_
  split
  ·rename_i cc _ _ _ _ _
   cases (cc == Value.type "enumerate") <;> (wp_walk using YF g1,YdL g1;exact ⟨_,rfl,g2⟩)
  ·wp_walk using YF g1,YdL g1
   exact ⟨_,rfl,g2⟩
theorem ZdG {z TI TO:Addr} {Q:Value->Shared->Prop} (hz:IsZip s.heap z TI TO .none)
  (h:∀ h',IsEnum h' s.heap.objs.size z 0 .none->(∀ b o,s.heap.get? b=some o->h'.get? b=some o)->Q (.ref s.heap.objs.size) { s with heap:=h' }) :
  wpAny (model prog w) A (call (.type "enumerate") [.ref z]) Q E s:=by
 have e2:IsEnum (s.heap.push { cls:=.type "enumerate",data:=.fields #[.none,.bool false,.ref z,rawInt 0,.none,.none] }) s.heap.objs.size z 0 .none:=Yp _ rfl
 refine Ydh F.called_enumerate (by decide) (F.typeCall_enumerate_1 _) (F.newCall_enumerate_1 _) (fun ob=>YcS ob _) F.entry_enumerate_new (Zep z TI TO) ⟨hz,?_⟩
 exact ⟨⟨_,e2,rfl⟩,h _ e2 fun b o q=>Yd _ q⟩
end
noncomputable def uEz (K:YFr):List V->Hp->(It->Hp->Prop)->Prop:=fun vs H R=>match vs with
 | [.ref a,.ref b]=>∃ t1 t2 xs ys,sqB K H t1 a xs/\sqB K H t2 b ys/\R (ItEz K t1 t2 a b) H
 | _=>False
theorem pj_ez {X:Cx} {elts:List Expr} {k0:Nat} {a b:Expr} {p p2 pos pos2 tp:Pos} {ta:TA} (hg:Gl X "enumerate") (hm:X.mg "enumerate"=none) (hg2:Gl X "zip") (hm2:X.mg "zip"=none) (ha:PA X [a,b] ta)
  (hs:starEach [a,b] X.env=[(false,eval a X.env),(false,eval b X.env)]:=by rfl) (hs2:starEach [b] X.env=[(false,eval b X.env)]:=by rfl)
  (hs3:starEach [Expr.Call (.Name "zip" p2) [a,b] [] pos2] X.env=[(false,eval (Expr.Call (.Name "zip" p2) [a,b] [] pos2) X.env)]:=by rfl) :
  PI X (.Tuple elts k0 tp) (.Call (.Name "enumerate" p) [.Call (.Name "zip" p2) [a,b] [] pos2] [] pos) (Zim (uEz X.K) ta):=by
 intro pins s σ H R I h
 refine Call_ (Zbm I hg hm ZbV (YN ?_ hs3 rfl))
 rw [hs3]
 show wpAny _ _ (spliced ((false,eval (Expr.Call (.Name "zip" p2) [a,b] [] pos2) X.env)::[])) _ _ s
 refine Ya2 ?_
 refine Call_ (Zbm I hg2 hm2 boot_zip (YN (thn (ha pos2 pins s σ H _ I h) fun us s1 ⟨vs,H1,I1,r1,q1⟩=>?_) (by rw [hs,hs2]) (by rw [hs2];rfl)))
 unfold uEz at q1
 dsimp only at q1
 split at q1
 ·rename_i l1 l2
  obtain ⟨t1,t2,xs,ys,hx,hy,q⟩:=q1
  cases r1 with
  | cons r rr =>
   cases rr with
   | cons r' rr =>
    cases rr
    cases r
    cases r'
    obtain ⟨its,rv,p1⟩:=I1.sqh hx
    obtain ⟨its2,rv2,p2⟩:=I1.sqh hy
    refine ZhR p1 p2 fun h' a1 a2 a3 a4 a5 hk=>Ybb (ZdG a1 fun h2 b1 k2=>YbD b1 ?_)
    have I2:Inv X pins σ H1 { s1 with heap:=h2 }:=I1.kept (t':=s1.toks) fun b o e=>k2 b o (hk b o e)
    have up:=k2
    have lt:s1.heap.objs.size + 4 < h'.objs.size:=Ym a1
    have gtE:∀ b:Nat,b<=s1.heap.objs.size + 4->b≠h'.objs.size:=fun b hb=>Yx (Yb0 hb lt)
    refine ⟨h'.objs.size,_,_,_,H1,rfl,I2,turn_ez (Ziv s1.heap.objs.size l1 l2 p1.lt p2.lt) (fun b hb=>?_),⟨⟨_,b1⟩,⟨_,_,.inl rfl,up _ _ a1⟩,up _ _ a2,⟨_,_,up _ _ a3⟩,a4.it.at fun o e=>up _ o e,a5.it.at fun o e=>up _ o e⟩,fun b hb=>?_,q⟩
    ·simp only [Yv,YU,YaL] at hb
     rcases hb with e | e | e | e | e <;> subst e <;> exact gtE _ (by lia)
    have hb':s1.heap.objs.size<=b:=by
     simp only [Yv,YU,YaL] at hb
     rcases hb with e | e | e | e | e | e <;> subst e <;> lia
    exact I1.fpOk hb' (I1.hok.fresh hb')
 ·exact q1.elim
noncomputable def ezU (us ws:List U):List U:=enU (zpU us ws)
noncomputable def jEz (x y:U):AIt:=fun i A r=>∃ us ws,seqU A x us/\seqU A y ws/\r=(ezU us ws)[i]?
noncomputable def yEz:List U->AHp->(AIt->AHp->Prop)->Prop:=fun us A R=>match us with
 | [x,y]=>(∃ us ws,seqU A x us/\seqU A y ws)/\R (jEz x y) A
 | _=>False
theorem ab_yez {K:YFr}:AbYs K (uEz K) yEz:=fun x v A H R' R r g w k=>by
 unfold yEz at w
 split at w
 ·rename_i x y
  obtain ⟨⟨us,ws,h1,h2⟩,w⟩:=w
  obtain ⟨v1,v2,rfl,r1,r2⟩:=r.inv2
  obtain ⟨a,t1,rfl,f1⟩:=Zf1 r1 g h1
  obtain ⟨b,t2,rfl,f2⟩:=Zf1 r2 g h2
  obtain ⟨vs,q1,_⟩:=f1 H A us (.refl H) g h1
  obtain ⟨zs,q2,_⟩:=f2 H A ws (.refl H) g h2
  refine ⟨t1,t2,vs,zs,q1,q2,k _ _ _ _ (.refl H) g (fun i A1 H1 r k1 g1 ⟨us,ws,h1,h2,e⟩=>?_) w⟩
  obtain ⟨vs,p1,r1⟩:=f1 H1 A1 us k1 g1 h1
  obtain ⟨zs,p2,r2⟩:=f2 H1 A1 ws k1 g1 h2
  unfold ezU at e
  rw [Zc1,ZfN] at e
  subst e
  cases hu:us[i]? with
  | none=>exact ⟨vs,zs,p1,p2,.inl (by rw [<- r1.length];exact Y7.mp hu)⟩
  | some u =>
   cases hw:ws[i]? with
   | none=>exact ⟨vs,zs,p1,p2,.inr (by rw [<- r2.length];exact Y7.mp hw)⟩
   | some w =>
    obtain ⟨v,hv,rv⟩:=r1.get' hu
    obtain ⟨z,hz,rz⟩:=r2.get' hw
    refine ⟨⟨vs,zs,v,z,p1,p2,hv,hz⟩,?_⟩
    rintro x H' ⟨T,U,x0,y0,rfl,hT,hU,nTU,rfl,hx,hy⟩
    have e1:=hx vs p1
    have e2:=hy zs p2
    rw [hv] at e1;cases e1
    rw [hz] at e2;cases e2
    have s1:=Same.upd_new (o:=.tup [v,z]) hT
    have s2:=Same.upd_new (o:=.tup [.int i,.ref T]) (show upd H1 T (.tup [v,z]) U=none by rw [Zs nTU.symm];exact hU)
    have s:=s1.trans s2
    refine ⟨s.kp,g1.grow s,.tup (SqT.of Z3) (.cons (.int _) (.one (.tup (SqT.of (by rw [Zs nTU,Z3])) (.cons (rv.same s.kp) (.one (rz.same s.kp))))))⟩
 ·exact w.elim
theorem q_yez {x y:U} {A:AHp} {R:AIt->AHp->Prop}:(yEz [x,y] A R)=((∃ us ws,seqU A x us/\seqU A y ws)/\R (jEz x y) A):=rfl
noncomputable def Itd (hi:Int) (n:Nat):It:=⟨fun i _=>i < n,fun i H x H'=>H'=H/\x=.int (hi - i),fun i _=>n<=i⟩
theorem Zi1 {P:Program} {w:World} {K:YFr} {tg:Expr} (it:Addr) (hi:Int) (n:Nat):Turn P w K tg (Itd hi n) [it] it (fun i h=>IsRangeIter h it (hi + (i:Nat) * (-1)) ((n:Int) - (i:Nat)) (-1)) where
 mem:=by simp
 obj := fun i h st b hb=>by
  have e:b=it:=by simpa using hb
  subst e
  exact ⟨_,st,fun v z=>by
   have z':Data.fields _=Data.cell v:=z
   cases z'⟩
 keep:=fun i h h' st k=>k it (by simp) _ st
 item:=by
  intro X hP hw hK hc i pins s σ H E I hf st hg
  subst hP hw hK
  obtain ⟨f0,f1,f2,f3,f4,f5⟩:=hf it (by simp)
  have W:=Walks.range (prog:=X.prog) (w:=X.w) (I.ok.hd hc) it hi (-1) n
  refine W.item i s _ _ hg st fun v h' tk hv st' kk=>?_
  obtain ⟨t,rfl⟩:=hv
  have I1:Inv X pins σ H { s with heap:=h',toks:=tk }:=I.turned (fun b o hb e=>kk b o (by simpa using hb) e) f0 f1 f3 f4 f5
  refine ⟨_,rfl,ZhS (s:={ s with heap:=h',toks:=tk }) (n:="range_iterator") st' rfl rfl (by decide) ⟨.int (hi - i),H,I1,⟨t,?_⟩,⟨rfl,rfl⟩,st',fun b hb=>(hf b hb).1⟩⟩
  congr 1
  lia
 done:=by
  intro X hP hw hK hc i pins s σ H E I hf st hg
  subst hP hw hK
  obtain ⟨f0,f1,f2,f3,f4,f5⟩:=hf it (by simp)
  exact Yct (I.ok.hd hc) st (by have:n<=i:=hg;lia) fun h' eb=>⟨rfl,I.turned (t':=s.toks) (fun b o hb e=>eb b o hb e) f0 f1 f3 f4 f5⟩
 self:=fun _ _ _ _ _ st h=>Ycu st h
theorem ZbU (a b:Int):Builtin.Range.rangeSize a b (-1)=if b < a then a - b else 0:=by
 unfold Builtin.Range.rangeSize
 rw [if_neg (by decide)]
 simp only [show (-(-1:Int))=1 by decide,Ydc]
 by_cases c:b < a
 ·rw [if_pos c,if_pos (show a > b from c)];lia
 ·rw [if_neg c,if_neg (show ¬ a > b from c)]
theorem ZgN {a b:Int} (ha:-(2 ^ 60)<=a) (ha':a < 2 ^ 60) (hb:-(2 ^ 60)<=b) (hb':b < 2 ^ 60):Builtin.Range.small a b (-1)=true:=by
 unfold Builtin.Range.small
 rw [ZbU]
 simp only [Builtin.Range.rangeFitsLong,Ye,Bool.or_eq_true,Yy,beq_iff_eq,show ¬ ((-1:Int) > 0) by decide,YaE]
 split <;> lia
section
variable {X:Cx} {tg:Expr} {a b c:Expr} {p pos:Pos} {ta:TA}
noncomputable def Zh3:List V->Hp->(It->Hp->Prop)->Prop:=fun vs H R=>match vs with
 | [.int i,.int j,.int k]=>k=-1/\(-(2 ^ 60)<=i/\i < 2 ^ 60/\-(2 ^ 60)<=j/\j < 2 ^ 60)/\R (Itd i (i - j).toNat) H
 | _=>False
theorem ZhC (hg:Gl X "range") (hm:X.mg "range"=none) (ha:PA X [a,b,c] ta) (hs:starEach [a,b,c] X.env=[(false,eval a X.env),(false,eval b X.env),(false,eval c X.env)]:=by rfl) (hs2:starEach [b,c] X.env=[(false,eval b X.env),(false,eval c X.env)]:=by rfl) :
  PI X tg (.Call (.Name "range" p) [a,b,c] [] pos) (Zim Zh3 ta):=by
 intro pins s σ H R I h
 refine Call_ (Zbm I hg hm YdO (YN (thn (ha pos pins s σ H _ I h) fun us s1 ⟨vs,H1,I1,r1,q1⟩=>?_) (by rw [hs,hs2]) (by rw [hs2];rfl)))
 unfold Zh3 at q1
 dsimp only at q1
 split at q1
 ·rename_i lo hi k
  obtain ⟨rfl,⟨q1,q2,q3,q4⟩,q⟩:=q1
  cases r1 with
  | cons r rr =>
  cases rr with
  | cons r' rr =>
  cases rr with
  | cons r2 rr =>
   cases rr
   obtain ⟨t,rfl⟩:=r
   obtain ⟨u,rfl⟩:=r'
   obtain ⟨v,rfl⟩:=r2
   refine call_range_3 (by decide) ?_ (.inl (Ycv (by decide)))
   refine Yc8 (IsRange.new ..) (ZgN q1 q2 q3 q4) ?_
   have I2:Inv X pins σ H1 { s1 with heap:=s1.heap.push { cls:=.type "range",data:=.fields #[.int lo t,.int hi u,.int (-1) v] },toks:=s1.toks }:=I1.kept fun b o e=>Yd _ e
   refine ⟨(s1.heap.push { cls:=.type "range",data:=.fields #[.int lo t,.int hi u,.int (-1) v] }).objs.size,[(s1.heap.push { cls:=.type "range",data:=.fields #[.int lo t,.int hi u,.int (-1) v] }).objs.size],_,_,H1,rfl,
    I2.kept (t':=s1.toks) fun b o e=>Yd _ e,Zi1 _ lo (lo - hi).toNat,?_,fun b hb=>?_,q⟩
   ·have e1:lo + ((0:Nat):Int) * (-1)=lo:=by simp
    have e2:(((lo - hi).toNat:Nat):Int) - ((0:Nat):Int)=Builtin.Range.rangeSize lo hi (-1):=by rw [ZbU];split <;> lia
    show IsRangeIter _ _ (lo + ((0:Nat):Int) * (-1)) ((((lo - hi).toNat:Nat):Int) - ((0:Nat):Int)) (-1)
    rw [e1,e2]
    exact Yp _ rfl
   ·have e:b=(s1.heap.push { cls:=.type "range",data:=.fields #[.int lo t,.int hi u,.int (-1) v] }).objs.size:=by simpa using hb
    subst e
    exact I2.fpOk (Yh _) (I2.hok.fresh (Yh _))
 ·exact q1.elim
end
section
variable {K:YFr}
noncomputable def rngD (hi:Int) (n:Nat):List U:=(List.range n).map fun (i:Nat)=>.int (hi - (i:Int))
theorem rngD_get (hi:Int) (n i:Nat):(rngD hi n)[i]? = if i < n then some (.int (hi - (i:Int))) else none:=by
 unfold rngD
 rw [Yl]
 by_cases h:i < n
 ·rw [if_pos h,YbV h];rfl
 ·rw [if_neg h,YV (by rw [Yax];lia)];rfl
theorem itd_fix {H:Hp} {hi:Int} {n:Nat}:AbJ K H (Itd hi n) (jFix (rngD hi n)):=fun i A H1 x k g e=>by
 have e:x=(rngD hi n)[i]?:=e
 rw [rngD_get] at e
 by_cases h:i < n
 ·rw [if_pos h] at e
  subst e
  exact ⟨h,fun x H' q=>by
   obtain ⟨rfl,rfl⟩:=q
   exact ⟨.refl _,g,.int _⟩⟩
 ·rw [if_neg h] at e
  subst e
  exact Ycd h
noncomputable def yRng3:List U->AHp->(AIt->AHp->Prop)->Prop:=fun us A R=>match us with
 | [.int i,.int j,.int k]=>k=-1/\(-(2 ^ 60)<=i/\i < 2 ^ 60/\-(2 ^ 60)<=j/\j < 2 ^ 60)/\R (jFix (rngD i (i - j).toNat)) A
 | _=>False
theorem ab_yrng3:AbYs K Zh3 yRng3:=fun x v A H R' R r g w k=>by
 unfold yRng3 at w
 split at w
 ·cases r with
  | cons r rr =>
  cases rr with
  | cons r2 rr =>
  cases rr with
  | cons r3 rr =>
   cases rr;cases r;cases r2;cases r3
   exact ⟨w.1,w.2.1,k _ _ _ _ (.refl H) g itd_fix w.2.2⟩
 ·exact w.elim
theorem ab_jrng3 {t:TA} {l:AA} (hl:AbA K t l):AbI K (Zim Zh3 t) (Zeo yRng3 l):=ZbH (u:=Zh3) ab_yrng3 hl
theorem q_yr3 {i j k:Int} {A:AHp} {R:AIt->AHp->Prop}:(yRng3 [.int i,.int j,.int k] A R)=(k=-1/\(-(2 ^ 60)<=i/\i < 2 ^ 60/\-(2 ^ 60)<=j/\j < 2 ^ 60)/\R (jFix (rngD i (i - j).toNat)) A):=rfl
end
noncomputable def rIsLi:List V->Hp->VK->Prop:=fun xs H Q=>∃ a ys,xs=[.ref a,.ty "list"]/\H a=some (.lst ys)/\Q (.bl true) H
theorem c_isLi {X:Cx}:Zbf X (.builtin "isinstance") rIsLi:=by
 intro pins s σ H xs us Q I r h
 obtain ⟨a,ys,rfl,hH,q⟩:=h
 obtain ⟨u,v,rfl,ru,rv⟩:=r.two
 cases ru
 cases (show v=Value.type "list" from rv)
 obtain ⟨z,its,n,rr,hl,e⟩:=I.lstM hH
 exact Yab Yb8 I.kIn ⟨_,e,rfl⟩ (b:=true) (by unfold PySem.W.kitOne;rw [if_pos (by decide)]) (fun z=>nomatch z) fun tk=>⟨.bl true,H,I.tok _,rfl,q⟩
section
variable {K:YFr}
noncomputable def xIsLi:List U->AHp->AVK->Prop:=fun us A Q=>∃ a ys,us=[.ref a,.ty "list"]/\A a=some (.lst ys)/\Q (.bl true) A
theorem ab_isLi:AbL K rIsLi xIsLi:=fun xs us A H Q' Q r g h k=>by
 obtain ⟨a,ys,rfl,e,q⟩:=h
 cases r with
 | cons r1 r=>cases r with
  | cons r2 r =>
   cases r;cases r1;cases r2
   obtain ⟨vs,h1,_⟩:=g.list e
   exact ⟨a,vs,rfl,h1,k _ _ _ _ (.refl H) g (.bl true) q⟩
variable {A:AHp} {Q:AVK}
theorem q_isLi {a:Addr}:xIsLi [.ref a,.ty "list"] A Q=∃ ys,A a=some (.lst ys)/\Q (.bl true) A:=propext ⟨fun hq0=>by obtain ⟨_,ys,e,h⟩:=hq0;cases e;exact ⟨ys,h⟩,fun ⟨ys,h⟩=>⟨a,ys,rfl,h⟩⟩
end
end L2
namespace My
open PySem L2
local macro_rules | `(tactic| walk_at "qd") => do
 let ls <- ("q_var0 q_nm0 q_get0 q_varS q_nmS q_getS q_c q_op q_un q_tb q_bl q_int q_and q_or q_not q_andv q_notv q_if q_chain Zjy q_nil Zjw q_const q_tup q_lst q_cb q_call q_callV q_nopart q_part q_sl q_bm0 q_bm q_next q_seq q_drop q_ret q_ifs q_asg q_par q_two q_aug q_for q_jof q_jargs q_ylr q_ylo q_yt q_yr1 q_yr2 q_yer q_yeo q_yet q_yz q_jrev q_comp q_gtup q_gcons q_gnil q_addi q_adds q_addt q_addr q_xi q_xi2 q_mul q_rep q_lti q_lts q_eqi q_eqs q_eqb q_eqt q_eqr q_eqtn q_eqnt q_eqnn q_eqns q_eqsn q_nei q_nes q_neb q_net q_ner q_netn q_nent q_nenn q_nens q_nesn q_isn q_int_ q_nint_ q_inr_ q_ninr_ q_ins_ q_nins_ q_ixs q_ix0 q_ix1 q_ix2 q_ixo q_ixr q_sls q_slt1 q_slo q_slr q_lens q_lent q_leno q_lenr q_min2 q_minl q_sum q_all q_lot q_loo q_lor q_tot q_tor q_isl q_ist q_app q_pop q_extT q_ext q_tail q_tuprev q_neg q_tru q_trul q_trut q_trub q_isi q_idxC q_idxL q_yzg q_ysr q_yso q_yst q_yesr q_yeso q_yest q_exSt q_exSr q_ltDi q_ltDs q_ltDt q_ltDr q_sortF q_sortL q_minL q_pop0 ZhO q_yez q_yr3 q_isLi q_ins q_popAt".splitOn " ").toArray.mapM fun s => `(Lean.Parser.Tactic.simpLemma| ↓$(Lean.mkIdent (.mkSimple s)):ident)
 `(tactic| (try simp only [$ls,*,List.set_cons_zero,List.set_cons_succ,List.cons_append,List.nil_append]))
local macro_rules | `(tactic| walk_at "qg") => `(tactic| (walk_at "qd"; (try simp only [↓q_ixt, ↓q_slt]); walk_at "qd"))
local macro_rules | `(tactic| walk_at "qs") => `(tactic| (simp only [L2.aStart, YE, YbN, List.length_cons, List.length_nil, List.replicate, List.cons_append, List.nil_append, Nat.reduceAdd, Nat.reduceSub]))
local macro_rules | `(tactic| walk_at "qc") => `(tactic| (try simp only [L2.aCompStart, List.replicate, YE, YbN, List.getElem?_cons_zero, List.getElem?_cons_succ, Option.join_some, List.cons_append, List.nil_append]))
noncomputable def top (i:Nat):Stmt:=PySem.Challenge.pw_figurebook_k40_whole_ways_lead.main.body.getD i (.Pass ⟨0,0,0,0⟩)
noncomputable abbrev s_q7:Stmt:=top 3
noncomputable abbrev s_qd:Stmt:=top 4
noncomputable abbrev s_qj:Stmt:=top 5
noncomputable abbrev s_q2:Stmt:=top 6
noncomputable abbrev s_ql:Stmt:=top 7
noncomputable abbrev s_q6:Stmt:=top 8
noncomputable abbrev s_q0:Stmt:=top 9
noncomputable abbrev s_qb:Stmt:=top 10
noncomputable abbrev s_q5:Stmt:=top 11
noncomputable abbrev s_qu:Stmt:=top 13
noncomputable abbrev s_q3:Stmt:=top 14
noncomputable abbrev s_q1:Stmt:=top 15
noncomputable abbrev s_q4:Stmt:=top 16
noncomputable abbrev s_qq:Stmt:=top 18
noncomputable abbrev s_qi:Stmt:=top 19
noncomputable abbrev s_qn:Stmt:=top 20
noncomputable abbrev s_q8:Stmt:=top 21
noncomputable abbrev s_qs:Stmt:=top 22
noncomputable abbrev s_qr:Stmt:=top 23
noncomputable abbrev s_qg:Stmt:=top 24
noncomputable abbrev s_qp:Stmt:=top 25
noncomputable abbrev s_q9:Stmt:=top 26
noncomputable abbrev s_qm:Stmt:=top 27
noncomputable abbrev s_qk:Stmt:=top 28
noncomputable abbrev s_qt:Stmt:=top 29
noncomputable abbrev s_qe:Stmt:=top 30
noncomputable abbrev s_qa:Stmt:=top 31
noncomputable abbrev s_qo:Stmt:=top 32
noncomputable abbrev s_qf:Stmt:=top 33
noncomputable abbrev s_qh:Stmt:=top 34
noncomputable abbrev s_qc:Stmt:=top 35
noncomputable abbrev s_qv:Stmt:=top 36
theorem Zfj:ZB ["writing","kind"] ["writing"] (defScope s_q7):=⟨rfl,rfl,rfl,by decide +kernel,rfl,by decide +kernel,by decide +kernel⟩
theorem Zg1:ZB ["kind","parts"] ["kind","parts"] (defScope s_qd):=⟨rfl,rfl,rfl,by decide +kernel,rfl,by decide +kernel,by decide +kernel⟩
theorem Zix:ZB ["writing","deed"] ["writing","deed"] (defScope s_qj):=⟨rfl,rfl,rfl,by decide +kernel,rfl,by decide +kernel,by decide +kernel⟩
theorem Zdj:ZB ["whole","parts","deed","order","waiting","one","inner","told","many","first"] ["whole","parts","deed"] (defScope s_q2):=⟨rfl,rfl,rfl,by decide +kernel,rfl,by decide +kernel,by decide +kernel⟩
theorem Zjn:ZB ["figure","keys","size"] ["figure","keys"] (defScope s_ql):=⟨rfl,rfl,rfl,by decide +kernel,rfl,by decide +kernel,by decide +kernel⟩
theorem ZeJ:ZB ["writing"] ["writing"] (defScope s_q6):=⟨rfl,rfl,rfl,by decide +kernel,rfl,by decide +kernel,by decide +kernel⟩
theorem Zcf:ZB ["writing"] ["writing"] (defScope s_q0):=⟨rfl,rfl,rfl,by decide +kernel,rfl,by decide +kernel,by decide +kernel⟩
theorem Zfp:ZB ["writing","told","kind","start","figure"] ["writing","told"] (defScope s_qb):=⟨rfl,rfl,rfl,by decide +kernel,rfl,by decide +kernel,by decide +kernel⟩
theorem Zdi:ZB ["keys","start","least","place","turned"] ["keys"] (defScope s_q5):=⟨rfl,rfl,rfl,by decide +kernel,rfl,by decide +kernel,by decide +kernel⟩
theorem sc_qu:ZB ["one","other","steps","waiting","path","part","goal","moves","parts","number","inner","beside"] ["one","other"] (defScope s_qu):=⟨rfl,rfl,rfl,by decide +kernel,rfl,by decide +kernel,by decide +kernel⟩
theorem Zdh:ZB ["part","goal"] ["part","goal"] (defScope s_q3):=⟨rfl,rfl,rfl,by decide +kernel,rfl,by decide +kernel,by decide +kernel⟩
theorem ZcQ:ZB ["parts","goals","keyed","moves","place","goal","found"] ["parts","goals"] (defScope s_q1):=⟨rfl,rfl,rfl,by decide +kernel,rfl,by decide +kernel,by decide +kernel⟩
theorem Zdf:ZB ["parts","goals","keys","asked","start","moves"] ["parts","goals"] (defScope s_q4):=⟨rfl,rfl,rfl,by decide +kernel,rfl,by decide +kernel,by decide +kernel⟩
theorem sc_qq:ZB ["_law_script","_law_made","_law_k","_law_cell_here"] ["_law_script"] (defScope s_qq):=⟨rfl,rfl,rfl,by decide +kernel,rfl,by decide +kernel,by decide +kernel⟩
theorem ZiK:ZB ["_law_script","_law_k"] ["_law_script","_law_k"] (defScope s_qi):=⟨rfl,rfl,rfl,by decide +kernel,rfl,by decide +kernel,by decide +kernel⟩
theorem ZiH:ZB ["_law_cells"] ["_law_cells"] (defScope s_qn):=⟨rfl,rfl,rfl,by decide +kernel,rfl,by decide +kernel,by decide +kernel⟩
theorem Zc5:ZB ["_law_figure","_law_parts_here"] ["_law_figure"] (defScope s_q8):=⟨rfl,rfl,rfl,by decide +kernel,rfl,by decide +kernel,by decide +kernel⟩
theorem sc_qs:ZB ["_law_stack","_law_cell_here","_law_room","_law_kind","_law_turn","_law_many","_law_other","_law_twin","_law_parts_here"] ["_law_stack","_law_cell_here","_law_room"] (defScope s_qs):=⟨rfl,rfl,rfl,by decide +kernel,rfl,by decide +kernel,by decide +kernel⟩
theorem sc_qr:ZB ["_law_cells","_law_stack","_law_k","_law_cell_here"] ["_law_cells"] (defScope s_qr):=⟨rfl,rfl,rfl,by decide +kernel,rfl,by decide +kernel,by decide +kernel⟩
theorem Zg7:ZB ["_law_figure"] ["_law_figure"] (defScope s_qg):=⟨rfl,rfl,rfl,by decide +kernel,rfl,by decide +kernel,by decide +kernel⟩
theorem ZhQ:ZB ["_law_figure","_law_parts_here"] ["_law_figure","_law_parts_here"] (defScope s_qp):=⟨rfl,rfl,rfl,by decide +kernel,rfl,by decide +kernel,by decide +kernel⟩
theorem ZfL:ZB ["_law_figure","_law_word","_law_at","_law_parts_here"] ["_law_figure","_law_word","_law_at"] (defScope s_q9):=⟨rfl,rfl,rfl,by decide +kernel,rfl,by decide +kernel,by decide +kernel⟩
theorem Zey:ZB ["_law_figure","_law_word","_law_path_here","_law_at","_law_parts_here","_law_inner"] ["_law_figure","_law_word","_law_path_here","_law_at"] (defScope s_qm):=⟨rfl,rfl,rfl,by decide +kernel,rfl,by decide +kernel,by decide +kernel⟩
theorem ZeP:ZB ["_law_figure"] ["_law_figure"] (defScope s_qk):=⟨rfl,rfl,rfl,by decide +kernel,rfl,by decide +kernel,by decide +kernel⟩
theorem Zgx:ZB ["_law_figure","_law_kinds","_law_head"] ["_law_figure"] (defScope s_qt):=⟨rfl,rfl,rfl,by decide +kernel,rfl,by decide +kernel,by decide +kernel⟩
theorem Zdy:ZB ["_law_figure","_law_parts_here","_law_turns"] ["_law_figure"] (defScope s_qe):=⟨rfl,rfl,rfl,by decide +kernel,rfl,by decide +kernel,by decide +kernel⟩
theorem ZcF:ZB ["_law_figure","_law_cells","_law_parts_here","_law_cell_here","_law_turn","_law_at","_law_ahead"] ["_law_figure","_law_cells"] (defScope s_qa):=⟨rfl,rfl,rfl,by decide +kernel,rfl,by decide +kernel,by decide +kernel⟩
theorem Zhq:ZB ["_law_path_here"] ["_law_path_here"] (defScope s_qo):=⟨rfl,rfl,rfl,by decide +kernel,rfl,by decide +kernel,by decide +kernel⟩
theorem ZgO:ZB ["_law_one","_law_other","_law_steps","_law_step"] ["_law_one","_law_other","_law_steps"] (defScope s_qf):=⟨rfl,rfl,rfl,by decide +kernel,rfl,by decide +kernel,by decide +kernel⟩
theorem ZgL:ZB ["_law_figure","_law_cell_here","_law_parts_here"] ["_law_figure","_law_cell_here"] (defScope s_qh):=⟨rfl,rfl,rfl,by decide +kernel,rfl,by decide +kernel,by decide +kernel⟩
theorem ZgG:ZB ["_law_one","_law_other","_law_found"] ["_law_one","_law_other"] (defScope s_qc):=⟨rfl,rfl,rfl,by decide +kernel,rfl,by decide +kernel,by decide +kernel⟩
theorem sc_qv:ZB ["_law_script","_law_whole","_law_cells","_law_one","_law_other","_law_third_here"] ["_law_script"] (defScope s_qv):=⟨rfl,rfl,rfl,by decide +kernel,rfl,by decide +kernel,by decide +kernel⟩
/-- what the top has written: each def of the text,its names;what is not the text's own -/
structure TX (K:YFr) (mg:Str->Option Value) (f_q7 f_qd f_qj f_q2 f_ql f_q6 f_q0 f_qb f_q5 f_qu f_q3 f_q1 f_q4 f_qq f_qi f_qn f_q8 f_qs f_qr f_qg f_qp f_q9 f_qm f_qk f_qt f_qe f_qa f_qo f_qf f_qh f_qc f_qv t_qb c_qb t_qe c_qe a_KINDS a_MANY:Addr) (d_q7 d_qd d_qj d_q2 d_ql d_q6 d_q0 d_qb d_q5 d_qu d_q3 d_q1 d_q4 d_qq d_qi d_qn d_q8 d_qs d_qr d_qg d_qp d_q9 d_qm d_qk d_qt d_qe d_qa d_qo d_qf d_qh d_qc d_qv:FuncData):Prop where
 F_q7:Fun K "parts_of" "parts_of" s_q7 f_q7 d_q7
 B_q7:Zav K d_q7 ["writing"] []
 M_q7:mg "parts_of"=some (.ref f_q7)
 F_qd:Fun K "made_of" "made_of" s_qd f_qd d_qd
 B_qd:Zav K d_qd ["kind","parts"] []
 M_qd:mg "made_of"=some (.ref f_qd)
 F_qj:Fun K "folded" "folded" s_qj f_qj d_qj
 B_qj:Zav K d_qj ["writing","deed"] []
 M_qj:mg "folded"=some (.ref f_qj)
 F_q2:Fun K "folded_over" "folded_over" s_q2 f_q2 d_q2
 B_q2:Zav K d_q2 ["whole","parts","deed"] []
 M_q2:mg "folded_over"=some (.ref f_q2)
 F_ql:Fun K "key_by" "key_by" s_ql f_ql d_ql
 B_ql:Zav K d_ql ["figure","keys"] []
 M_ql:mg "key_by"=some (.ref f_ql)
 F_q6:Fun K "plain_key" "plain_key" s_q6 f_q6 d_q6
 B_q6:Zav K d_q6 ["writing"] []
 M_q6:mg "plain_key"=some (.ref f_q6)
 F_q0:Fun K "plain_with_key" "plain_with_key" s_q0 f_q0 d_q0
 B_q0:Zav K d_q0 ["writing"] []
 M_q0:mg "plain_with_key"=some (.ref f_q0)
 F_qb:Fun K "plain_by" "plain_by" s_qb f_qb d_qb
 B_qb:Zav K d_qb ["writing","told"] []
 M_qb:mg "plain_by"=some (.ref f_qb)
 C_qb:d_qb.code=.ref c_qb
 H_qb:PySem.W.codeHdIn K c_qb t_qb=true
 Z_qb:mainGlobals≠t_qb
 F_q5:Fun K "least_start" "least_start" s_q5 f_q5 d_q5
 B_q5:Zav K d_q5 ["keys"] []
 M_q5:mg "least_start"=some (.ref f_q5)
 F_qu:Fun K "way" "way" s_qu f_qu d_qu
 B_qu:Zav K d_qu ["one","other"] []
 M_qu:mg "way"=some (.ref f_qu)
 F_q3:Fun K "moved_alike" "moved_alike" s_q3 f_q3 d_q3
 B_q3:Zav K d_q3 ["part","goal"] []
 M_q3:mg "moved_alike"=some (.ref f_q3)
 F_q1:Fun K "poured_alike" "poured_alike" s_q1 f_q1 d_q1
 B_q1:Zav K d_q1 ["parts","goals"] []
 M_q1:mg "poured_alike"=some (.ref f_q1)
 F_q4:Fun K "begun_alike" "begun_alike" s_q4 f_q4 d_q4
 B_q4:Zav K d_q4 ["parts","goals"] []
 M_q4:mg "begun_alike"=some (.ref f_q4)
 F_qq:Fun K "_law_mix" "_law_mix" s_qq f_qq d_qq
 B_qq:Zav K d_qq ["_law_script"] []
 M_qq:mg "_law_mix"=some (.ref f_qq)
 F_qi:Fun K "_law_cell" "_law_cell" s_qi f_qi d_qi
 B_qi:Zav K d_qi ["_law_script","_law_k"] []
 M_qi:mg "_law_cell"=some (.ref f_qi)
 F_qn:Fun K "_law_next" "_law_next" s_qn f_qn d_qn
 B_qn:Zav K d_qn ["_law_cells"] []
 M_qn:mg "_law_next"=some (.ref f_qn)
 F_q8:Fun K "_law_tuples" "_law_tuples" s_q8 f_q8 d_q8
 B_q8:Zav K d_q8 ["_law_figure"] []
 M_q8:mg "_law_tuples"=some (.ref f_q8)
 F_qs:Fun K "_law_put" "_law_put" s_qs f_qs d_qs
 B_qs:Zav K d_qs ["_law_stack","_law_cell_here","_law_room"] []
 M_qs:mg "_law_put"=some (.ref f_qs)
 F_qr:Fun K "_law_any" "_law_any" s_qr f_qr d_qr
 B_qr:Zav K d_qr ["_law_cells"] []
 M_qr:mg "_law_any"=some (.ref f_qr)
 F_qg:Fun K "_law_parts" "_law_parts" s_qg f_qg d_qg
 B_qg:Zav K d_qg ["_law_figure"] []
 M_qg:mg "_law_parts"=some (.ref f_qg)
 F_qp:Fun K "_law_with" "_law_with" s_qp f_qp d_qp
 B_qp:Zav K d_qp ["_law_figure","_law_parts_here"] []
 M_qp:mg "_law_with"=some (.ref f_qp)
 F_q9:Fun K "_law_at_top" "_law_at_top" s_q9 f_q9 d_q9
 B_q9:Zav K d_q9 ["_law_figure","_law_word","_law_at"] []
 M_q9:mg "_law_at_top"=some (.ref f_q9)
 F_qm:Fun K "_law_done" "_law_done" s_qm f_qm d_qm
 B_qm:Zav K d_qm ["_law_figure","_law_word","_law_path_here","_law_at"] []
 M_qm:mg "_law_done"=some (.ref f_qm)
 F_qk:Fun K "_law_size" "_law_size" s_qk f_qk d_qk
 B_qk:Zav K d_qk ["_law_figure"] []
 M_qk:mg "_law_size"=some (.ref f_qk)
 F_qt:Fun K "_law_key" "_law_key" s_qt f_qt d_qt
 B_qt:Zav K d_qt ["_law_figure"] []
 M_qt:mg "_law_key"=some (.ref f_qt)
 F_qe:Fun K "_law_plain" "_law_plain" s_qe f_qe d_qe
 B_qe:Zav K d_qe ["_law_figure"] []
 M_qe:mg "_law_plain"=some (.ref f_qe)
 C_qe:d_qe.code=.ref c_qe
 H_qe:PySem.W.codeHdIn K c_qe t_qe=true
 Z_qe:mainGlobals≠t_qe
 F_qa:Fun K "_law_shaken" "_law_shaken" s_qa f_qa d_qa
 B_qa:Zav K d_qa ["_law_figure","_law_cells"] []
 M_qa:mg "_law_shaken"=some (.ref f_qa)
 F_qo:Fun K "_law_path" "_law_path" s_qo f_qo d_qo
 B_qo:Zav K d_qo ["_law_path_here"] []
 M_qo:mg "_law_path"=some (.ref f_qo)
 F_qf:Fun K "_law_leads" "_law_leads" s_qf f_qf d_qf
 B_qf:Zav K d_qf ["_law_one","_law_other","_law_steps"] []
 M_qf:mg "_law_leads"=some (.ref f_qf)
 F_qh:Fun K "_law_third" "_law_third" s_qh f_qh d_qh
 B_qh:Zav K d_qh ["_law_figure","_law_cell_here"] []
 M_qh:mg "_law_third"=some (.ref f_qh)
 F_qc:Fun K "_law_right" "_law_right" s_qc f_qc d_qc
 B_qc:Zav K d_qc ["_law_one","_law_other"] []
 M_qc:mg "_law_right"=some (.ref f_qc)
 F_qv:Fun K "law" "law" s_qv f_qv d_qv
 B_qv:Zav K d_qv ["_law_script"] []
 M_qv:mg "law"=some (.ref f_qv)
 n_all:mg "all"=none
 n_any:mg "any"=none
 n_bool:mg "bool"=none
 n_enumerate:mg "enumerate"=none
 n_int:mg "int"=none
 n_isinstance:mg "isinstance"=none
 n_len:mg "len"=none
 n_list:mg "list"=none
 n_max:mg "max"=none
 n_min:mg "min"=none
 n_range:mg "range"=none
 n_reversed:mg "reversed"=none
 n_sorted:mg "sorted"=none
 n_str:mg "str"=none
 n_sum:mg "sum"=none
 n_tuple:mg "tuple"=none
 n_zip:mg "zip"=none
 c_KINDS:∃ u,mg "KINDS"=some u/\RelV (.ref a_KINDS) u
 q_KINDS:∀ H,SqT K H a_KINDS [.str "nothing",.str "bead",.str "left",.str "right",.str "pair",.str "row",.str "bag",.str "choice",.str "ring"]
 y_KINDS:∀ H,tyV K "tuple" (.ref a_KINDS) H
 c_MANY:∃ u,mg "MANY"=some u/\RelV (.ref a_MANY) u
 q_MANY:∀ H,SqT K H a_MANY [.str "row",.str "bag",.str "choice",.str "ring"]
 y_MANY:∀ H,tyV K "tuple" (.ref a_MANY) H
variable {P:Program} {w:World} {K:YFr} {mg:Str->Option Value} {base:Heap} {f_q7 f_qd f_qj f_q2 f_ql f_q6 f_q0 f_qb f_q5 f_qu f_q3 f_q1 f_q4 f_qq f_qi f_qn f_q8 f_qs f_qr f_qg f_qp f_q9 f_qm f_qk f_qt f_qe f_qa f_qo f_qf f_qh f_qc f_qv t_qb c_qb t_qe c_qe a_KINDS a_MANY:Addr} {d_q7 d_qd d_qj d_q2 d_ql d_q6 d_q0 d_qb d_q5 d_qu d_q3 d_q1 d_q4 d_qq d_qi d_qn d_q8 d_qs d_qr d_qg d_qp d_q9 d_qm d_qk d_qt d_qe d_qa d_qo d_qf d_qh d_qc d_qv:FuncData} (T:TX K mg f_q7 f_qd f_qj f_q2 f_ql f_q6 f_q0 f_qb f_q5 f_qu f_q3 f_q1 f_q4 f_qq f_qi f_qn f_q8 f_qs f_qr f_qg f_qp f_q9 f_qm f_qk f_qt f_qe f_qa f_qo f_qf f_qh f_qc f_qv t_qb c_qb t_qe c_qe a_KINDS a_MANY d_q7 d_qd d_qj d_q2 d_ql d_q6 d_q0 d_qb d_q5 d_qu d_q3 d_q1 d_q4 d_qq d_qi d_qn d_q8 d_qs d_qr d_qg d_qp d_q9 d_qm d_qk d_qt d_qe d_qa d_qo d_qf d_qh d_qc d_qv)
noncomputable def Zca:ASp:=fun us A Q=>∃ w:Wr,us=[w.toU]/\Q (.tup (w.parts.map Wr.toU)) A
section
include T
theorem ZbZ:FnOk P w K mg base CX0 1 f_q7 d_q7 ["writing"] (spOf K Zca):=by
 refine' Fun.okA T.F_q7 (sc:=?sc) (body:=?bd) ?hs ?hb Zfj ?hB ?hS
 case hs=>conv=>lhs;whnf
 case hb=>conv=>lhs;whnf
 case hB=>exact fun S cdv A outer s H E hr=>⟨_,(Zg (ZG (i:=1) S.nd rfl (Or.inl rfl) (ZK o_ix (pv 0) Zh (fun _ _=>rfl)))
   (Zg (Z9 (Zq o_in (pv 1) (pe_gv (by rfl) T.c_MANY) (by with_unfolding_all rfl)) (Zm (Zv (ZK o_ix (pv 0) Zh (fun _ _=>rfl)))) ZA)
   (Zg (Z9 (Zq (Zbi hr) (pv 1) Z0 (ZS _)) (Zm (Zv (ZD Ze))) ZA)
   (Zm (Zv (ZE ZaL (pv 0) (ZM Zh) ZV)))))),(Zn (Zw (Zl ZJ Zc Zi) Zj)
   (Zn (ZO (Zo (Zl ZbT Zc (ab_c fun H=>.tup (T.q_MANY H) (.cons (.str _) (.cons (.str _) (.cons (.str _) (.cons (.str _) .nil))))))) (Zu (Zl ZJ Zc Zi)) Zz)
   (Zn (ZO (Zo (Zl Zbj Zc Z1)) (Zu (ZC Zf)) Zz)
   (Zu (ZaG Z5 Zc (ZL Zi) Zx)))))⟩
 rintro us A Q ⟨w,rfl,q⟩
 refine ⟨rfl,?_⟩
 walk_at "qs"
 rcases w.kinds with ⟨c,rfl⟩ | ⟨k,ps,rfl⟩ | hf
 ·rw [Wr.toU]
  walk_at "qd"
  refine ⟨rfl,rfl,ZP rfl ?_⟩
  walk_at "qd"
  refine Z8 rfl ⟨by decide,fg q⟩
 ·rw [Wr.toU_many]
  walk_at "qd"
  exact ⟨rfl,rfl,Z8 (ZbC k) (fg q)⟩
 ·rw [Wr.toU_few hf]
  walk_at "qd"
  refine ⟨rfl,rfl,ZP (Zbk hf.2) ?_⟩
  walk_at "qd"
  exact ZP (ZbW hf.1) (fg q)
end
noncomputable def asp_deed (val:Wr->U):ASp:=fun us A Q=>∃ (w:Wr) (l:Addr),us=[w.toU,.ref l]/\A l=some (.lst (w.parts.map val))/\w.ok=true/\w.tups<=200/\Q (val w) A
noncomputable def encW (w:Wr):U:=.tup [w.toU,.int (w.parts.length:Nat)]
noncomputable def ZcA (val:Wr->U) (C:AHp->Prop) (Dw:Wr->Prop):ASp:=fun us A Q=>∃ (w:Wr) (l:Addr),us=[w.toU,.ref l]/\A l=some (.lst (w.parts.map val))/\w.ok=true/\w.tups<=200/\Dw w/\C A/\Q (val w) A
noncomputable def asp_foC (val:Wr->U) (C:AHp->Prop) (Dw:Wr->Prop) (fp fd:Addr):ASp:=fun us A Q=>∃ w:Wr,us=[w.toU,.ref fp,.ref fd]/\w.ok=true/\w.tups<=200/\(∀ v∈w.post,Dw v)/\C A/\Q (val w) A
noncomputable def Zfh (val:Wr->U) (C:AHp->Prop) (Dw:Wr->Prop) (fd:Addr):ASp:=fun us A Q=>∃ w:Wr,us=[w.toU,.ref fd]/\w.ok=true/\w.tups<=200/\(∀ v∈w.post,Dw v)/\C A/\Q (val w) A
section
include T
theorem ZcK (k:Nat) {val:Wr->U} {C:AHp->Prop} {Dw:Wr->Prop} (hst:∀ A A',Ext A A'->C A->C A') {fp fd:Addr} {dp dd:FuncData} {pp pd:List Str} (G_parts:FnOk P w K mg base CX0 k fp dp pp (spOf K Zca)) (hk_parts:PySem.W.keepIn K (.ref fp)=true) (hb_parts:Zav K dp pp [])
  (G_deed:FnOk P w K mg base CX0 k fd dd pd (spOf K (ZcA val C Dw))) (hk_deed:PySem.W.keepIn K (.ref fd)=true) (hb_deed:Zav K dd pd []):FnOk P w K mg base CX0 (k + 1) f_q2 d_q2 ["whole","parts","deed"] (spOf K (asp_foC val C Dw fp fd)):=by
 refine' Fun.okA T.F_q2 (sc:=?sc2) (body:=?bd2) ?hs2 ?hb2 Zdj ?hB2 ?hS2
 case hs2=>conv=>lhs;whnf
 case hb2=>conv=>lhs;whnf
 case hB2=>exact fun S cdv A outer s H E hr=>⟨_,(Zg (ZG (i:=3) S.nd rfl (Or.inl rfl) (ZaH Ze))
   (Zg (ZG (i:=4) S.nd rfl (Or.inl rfl) (ZaH (Za (pv 0) Ze)))
   (Zg (Zcx Yan (Zgv (pv 4) (fun _=>rfl)) (Zg (ZG (i:=5) S.nd rfl (Or.inl rfl) (Zdw Yu Yal Yam Zdn (pv 4)))
   (Zg (ZG (i:=6) S.nd rfl (Or.inl rfl) (Zgh (G_parts.mono (by first | decide | lia)) hr (pv 1) hk_parts hb_parts .nil ZZ (Za (pv 5) Ze)))
   (Zg (Za1 (ZbK Yu Y1 Y2 ZaR (pv 3) (Za (ZD (Za (pv 5) (Za (ZF Zbn (by rfl) T.n_len (by decide +kernel) (Za (pv 6) Ze)) Ze))) Ze)))
   (Zm (Za1 (ZbK Yu Ybw Ybx Zfm (pv 4) (Za (pv 6) Ze))))))))
   (Zg (ZG (i:=7) S.nd rfl (Or.inl rfl) (ZaH Ze))
   (Zg (ZcN Yan rfl (pj_rev rfl (by rfl) T.n_reversed (pv 3)) (Zb7 (n:=2) rfl (ZT (Zy (i:=5) S.nd rfl (Or.inl rfl)) (ZT (Zy (i:=8) S.nd rfl (Or.inl rfl)) Za5)))
   (Zg (ZG (i:=9) S.nd rfl (Or.inl rfl) (ZR Zfn (ZF Zbn (by rfl) T.n_len (by decide +kernel) (Za (pv 7) Ze)) (pv 8)))
   (Zm (Zhk (ZaH (Za (Zgh (G_deed.mono (by first | decide | lia)) hr (pv 2) hk_deed hb_deed .nil ZZ (Za (pv 5) (Za (ZE ZaL (pv 7) (ZM (pv 9)) ZV) Ze))) Ze)) (pg_tail (pv 7) (ZM (pv 9)))))))
   (Zm (Zv (ZK o_ix (pv 7) Zh (fun _ _=>rfl))))))))),(Zn (Zw (ZaI Zf) Zj)
   (Zn (Zw (ZaI (Zb Zc Zf)) Zj)
   (Zn (Zcy (ab_tru Zc) (Zn (Zw (Zdx Z2 Zci Zc) Zj)
   (Zn (Zw (ZfV Zc (Zb Zc Zf)) Zj)
   (Zn (Za3 (ZbR Z2 ZbD Zc (Zb (ZC (Zb Zc (Zb (Zah ZaF (Zb Zc Zf)) Zf))) Zf)))
   (Za3 (ZbR Z2 Zd2 Zc (Zb Zc Zf)))))))
   (Zn (Zw (ZaI Zf) Zj)
   (Zn (ZcX (ab_jrev Zc) (Za6 (ZU Zj (ZU Zj Zba)))
   (Zn (Zw (Zl ZcV (Zah ZaF (Zb Zc Zf)) Zc) Zj)
   (Zw (ZaI (Zb (ZfV Zc (Zb Zc (Zb (ZaG Z5 Zc (ZL Zc) Zx) Zf))) Zf)) (ab_tail Zc (ZL Zc)))))
   (Zu (Zl ZJ Zc Zi)))))))⟩
 rintro us A Q ⟨w,rfl,hok,ht,hDw,hC,q⟩
 refine ⟨rfl,?_⟩
 walk_at "qs"
 walk_at "qd"
 refine ⟨by decide,fun o ho=>?_⟩
 walk_at "qd"
 refine ⟨tup1,fun wt hwt=>?_⟩
 walk_at "qd"
 have hne:o≠wt:=fun e=>by rw [e,Zd] at hwt;cases hwt
 have hw0:A wt=none:=by rw [Zk (Ne.symm hne)] at hwt;exact hwt
 refine while_A (fun ρ A2=>∃ (ws1 ws2:List Wr) (x5 x6:Option U),ρ=[some w.toU,some (.ref fp),some (.ref fd),some (.ref o),some (.ref wt),x5,x6,none,none,none]/\Ext A A2/\A2 o=some (.lst (ws1.map encW))/\A2 wt=some (.lst (ws2.map Wr.toU))/\ws1++(Za7 ws2).reverse=w.post.reverse)
  (fun ρ A2=>match A2 o with | some (.lst us)=>1000 - us.length | _=>0) ⟨[],[w],_,_,rfl,(Ext.new ho).trans (Ext.new hwt),by rw [Zk hne,Zd];rfl,by rw [Zd];rfl,by simp [Za7]⟩ ?_
 ·rintro ρ A2 ⟨ws1,ws2,x5,x6,rfl,he,h1,h2,hord⟩
  have hlen:ws1.length + tupsL ws2=w.tups:=by
   have e:=congrArg List.length hord
   rw [Yj,Y5,Y5,Zc2,w.post_len] at e
   exact e
  walk_at "qd"
  refine ⟨_,h2,iteB (fun hb=>?_) fun hb=>?_⟩
  ·refine wh_goA ?_
   obtain ⟨ws0,x,rfl⟩:∃ ws0 x,ws2=ws0++[x]:=by
    rcases Ybg ws2 with rfl | ⟨a,b,rfl⟩
    ·cases hb
    ·exact ⟨a,b,by simp⟩
   rw [Zas] at hlen
   simp only [tupsL] at hlen
   have hx:=x.tups_pos
   have hxp:=x.parts_tups
   have hl0:=ZaE ws0
   have hlp:=ZaE x.parts
   walk_at "qd"
   refine ⟨⟨_,h2⟩,ws0.map Wr.toU,x.toU,by rw [h2,Yo];rfl,?_⟩
   walk_at "qd"
   refine ⟨trivial,x,rfl,?_⟩
   walk_at "qd"
   have h1':updA A2 wt (.lst (ws0.map Wr.toU)) o=some (.lst (ws1.map encW)):=by rw [Zk hne];exact h1
   refine ⟨⟨_,h1'⟩,tup2,_,h1',Zat (by rw [Yb];lia),?_⟩
   have h2':updA (updA A2 wt (.lst (ws0.map Wr.toU))) o (.lst (ws1.map encW++[.tup [x.toU,.int (x.parts.map Wr.toU).length]])) wt=some (.lst (ws0.map Wr.toU)):=by rw [Zk (Ne.symm hne),Zd]
   refine ⟨⟨_,h2'⟩,_,h2',ZQ (by rw [Yb,Yb];lia),?_⟩
   refine ⟨⟨ws1++[x],ws0++x.parts,_,_,rfl,?_,?_,?_,?_⟩,?_⟩
   ·intro b u hb
    rw [Zk (neA hb hw0),Zk (neA hb ho),Zk (neA hb hw0)];exact he b u hb
   ·rw [Zk hne,Zd,Yo,Yb];rfl
   ·rw [Zd,Yo]
   ·rw [<- hord,ZcC,ZcC]
    simp [Za7,Wr.post_eq x]
   ·rw [Zk hne,Zd,h1]
    show 1000 - (ws1.map encW++[_]).length < 1000 - (ws1.map encW).length
    rw [Yj,List.length_singleton,Yb]
    lia
  ·have e2:ws2=[]:=by simpa using hb
   subst e2
   simp only [Za7,List.reverse_nil,Y4] at hord
   subst hord
   walk_at "qd"
   refine ⟨by decide,fun td htd=>?_⟩
   walk_at "qd"
   have h1t:updA A2 td (.lst []) o=some (.lst (w.post.reverse.map encW)):=by rw [Zk (neA h1 htd)];exact h1
   refine ⟨o,_,rfl,h1t,?_⟩
   have htA:A td=none:=by
    cases e:A td with
    | none=>rfl
    | some v=>rw [he td v e] at htd;cases htd
   have hot:o≠td:=neA h1 htd
   refine for_revA (w.post.reverse.map encW) (fun k ρ A3=>∃ (S:List Wr) (x5 x6 x8 x9:Option U),ρ=[some w.toU,some (.ref fp),some (.ref fd),some (.ref o),some (.ref wt),x5,x6,some (.ref td),x8,x9]/\Ext A A3/\A3 o=some (.lst (w.post.reverse.map encW))/\A3 td=some (.lst (S.map val))/\S.length<=k/\Run S (w.post.drop k) [w])
    ⟨[],_,_,_,_,rfl,he.trans (Ext.new htd),h1t,by rw [Zd];rfl,Yh _,by simpa using w.run_all⟩ (fun k ρ A3 _ ⟨_,_,_,_,_,_,_,h,_⟩=>h) ?_ ?_
   ·rintro k u ρ A3 hu ⟨S,y5,y6,y8,y9,rfl,he3,h3,ht3,hSl,run⟩
    rw [<- Ybj,YbT,Yl] at hu
    obtain ⟨y,hy,rfl⟩:=Y8.mp hu
    have hmem:=w.post_mem y (YG hy) hok
    obtain ⟨hkl,e⟩:=Yq.mp hy
    rw [w.post_len] at hkl
    rw [YX (by rw [w.post_len];exact hkl),e] at run
    obtain ⟨S0,rfl,run⟩:=run
    rw [Yj] at hSl
    unfold encW
    walk_at "qd"
    refine ⟨rfl,?_⟩
    walk_at "qd"
    refine ⟨_,ht3,?_⟩
    walk_at "qd"
    refine ⟨trivial,?_⟩
    have efst:(((S0++y.parts).map val).length:Int) - ((y.parts.length:Nat):Int)=((S0.length:Nat):Int):=by rw [Yb,Yj];lia
    refine ⟨_,ht3,fun l2 hl2=>?_⟩
    rw [efst]
    refine ⟨y,l2,rfl,by rw [Zd,Yo];rw [show ((S0.length:Nat):Int)=(((S0.map val).length:Nat):Int) from by rw [Yb],ZiQ],hmem.1,by lia,hDw y (YG hy),hst _ _ (he3.trans (Ext.new hl2)) hC,tup1,fun l3 hl3=>?_⟩
    have n3:A3 l2=none:=hl2
    have n4:A3 l3=none:=by
     cases e:A3 l3 with
     | none=>rfl
     | some v=>rw [Zk (neA e n3)] at hl3;rw [e] at hl3;cases hl3
    have d2:td≠l2:=neA ht3 n3
    have d3:td≠l3:=neA ht3 n4
    have ht5:updA (updA A3 l2 (.lst (cutU ((S0++y.parts).map val) (some ((S0.length:Nat):Int)) none))) l3 (.lst [val y]) td=some (.lst ((S0++y.parts).map val)):=by rw [Zk d3,Zk d2];exact ht3
    refine ⟨td,l3,_,[val y],_,rfl,rfl,rfl,ht5,Zd,d3,by lia,by rw [Yb,Yj];lia,ZQ (by rw [Yb,Yj,List.length_singleton];lia),S0++[y],_,_,_,_,rfl,?_,?_,?_,?_,run⟩
    ·intro b u hb
     rw [Zk (neA hb htA),Zk (neA (he3 b u hb) n4),Zk (neA (he3 b u hb) n3)];exact he3 b u hb
    ·rw [Zk hot,Zk (neA h3 n4),Zk (neA h3 n3)];exact h3
    ·rw [Zd,Int.toNat_natCast,Yo,Yo,List.take_left' (by rw [Yb])];rfl
    ·rw [Yj,List.length_singleton];lia
   ·rintro ρ A3 ⟨S,y5,y6,y8,y9,rfl,he3,h3,ht3,hSl,run⟩
    rw [Yb,Y5,List.drop_length] at run
    obtain rfl:S=[w]:=run
    walk_at "qd"
    exact ⟨_,_,ht3,Zam (j:=0) rfl,fgx he3 q⟩
theorem Zhc (k:Nat) (hk:1<=k) {val:Wr->U} {C:AHp->Prop} {Dw:Wr->Prop} (hst:∀ A A',Ext A A'->C A->C A') {fd:Addr} {dd:FuncData} {pd:List Str} (G_deed:FnOk P w K mg base CX0 k fd dd pd (spOf K (ZcA val C Dw))) (hk_deed:PySem.W.keepIn K (.ref fd)=true) (hb_deed:Zav K dd pd []):FnOk P w K mg base CX0 (k + 2) f_qj d_qj ["writing","deed"] (spOf K (Zfh val C Dw fd)):=by
 have G_q2:=ZcK (P:=P) (w:=w) (base:=base) T k hst ((ZbZ (P:=P) (w:=w) (base:=base) T).mono hk) T.F_q7.kp T.B_q7 G_deed hk_deed hb_deed
 refine' Fun.okA T.F_qj (sc:=?sc3) (body:=?bd3) ?hs3 ?hb3 Zix ?hB3 ?hS3
 case hs3=>conv=>lhs;whnf
 case hb3=>conv=>lhs;whnf
 case hB3=>exact fun S cdv A outer s H E hr=>⟨_,(Zm (Zv (Zp (G_q2.mono (by first | decide | lia)) hr (by rfl) T.M_q2 T.F_q2.kp T.B_q2 .nil ZZ (Za (pv 0) (Za (Zd6 (v:=.ref f_q7) (by rfl) T.M_q7 rfl) (Za (pv 1) Ze)))))),(Zu (Zr (Zb Zc (Zb ab_ref (Zb Zc Zf)))))⟩
 rintro us A Q ⟨w,rfl,hok,ht,hDw,hC,q⟩
 refine ⟨rfl,?_⟩
 walk_at "qs"
 walk_at "qd"
 exact ⟨w,rfl,hok,ht,hDw,hC,fg q⟩
end
section
include T
theorem ZhH:FnOk P w K mg base CX0 1 f_ql d_ql ["figure","keys"] (spOf K (asp_deed Wr.keyU)):=by
 refine' Fun.okA T.F_ql (sc:=?sc4) (body:=?bd4) ?hs4 ?hb4 Zjn ?hB4 ?hS4
 case hs4=>conv=>lhs;whnf
 case hb4=>conv=>lhs;whnf
 case hB4=>exact fun S cdv A outer s H E hr=>⟨_,(Zg (Z9 (Zq (Zbi hr) (ZK o_ix (pv 0) Zh (fun _ _=>rfl)) Z0 (ZS _)) (Zm (Zv (ZD (Za Zh (Za (ZbK Yck Ycl Ycm ZiF (pe_gv (by rfl) T.c_KINDS) (Za Z0 Ze)) (Za (ZK o_ix (pv 0) Zh (fun _ _=>rfl)) Ze)))))) ZA)
   (Zg (ZG (i:=2) S.nd rfl (Or.inl rfl) (ZF (ZhI rfl) (by rfl) T.n_sum (by decide +kernel) (Za (Zaw (ts:=["key"]) (frs':=[]) (cl:=[]) rfl ⟨rfl,rfl,(by decide +kernel),(by decide +kernel),(fun _ z=>nomatch z),(ZN rfl rfl),(fun _ z=>nomatch z)⟩ (ZaC (pv 1)) (fun _ _ _ _=>Zy (i:=0) nd1 rfl (Or.inl rfl) (.inr rfl)) (fun _ _ _ _=>ZW) (fun _ _ _ _=>by exact (ZK (k_ix K rfl) (pv 0) Zh (fun _ _=>rfl)))) Ze)))
   (Zm (Zv (ZR Zaf (ZD (Za (pv 2) (Za (ZbK Yck Ycl Ycm ZiF (pe_gv (by rfl) T.c_KINDS) (Za (ZK o_ix (pv 0) Zh (fun _ _=>rfl)) Ze)) Ze))) (Zar Za8 (by rfl) T.n_tuple (by decide +kernel) (Za (pv 1) Ze))))))),(Zn (ZO (Zo (Zl Zbj (Zl ZJ Zc Zi) Z1)) (Zu (ZC (Zb Zi (Zb (Zi9 ["nothing","bead","left","right","pair","row","bag","choice","ring"] T.y_KINDS T.q_KINDS (Zb Z1 Zf)) (Zb (Zl ZJ Zc Zi) Zf))))) Zz)
   (Zn (Zw (Zah ZeN (Zb (Z4 (ZaD Zaj Zc) Zj Z7 (Zl ZJ Zc Zi)) Zf)) Zj)
   (Zu (Zl Zag (ZC (Zb Zc (Zb (Zi9 ["nothing","bead","left","right","pair","row","bag","choice","ring"] T.y_KINDS T.q_KINDS (Zb (Zl ZJ Zc Zi) Zf)) Zf))) (Zah ZaJ (Zb Zc Zf))))))⟩
 rintro us A Q ⟨w,l,rfl,hl,hok,ht,q⟩
 refine ⟨rfl,?_⟩
 walk_at "qs"
 have hpt:=w.parts_tups
 have hpl:=ZaE w.parts
 rcases bead_or w with ⟨c,rfl⟩ | hb
 ·rw [Wr.toU]
  walk_at "qd"
  refine Z8 rfl ?_
  walk_at "qd"
  refine ⟨_,1,rfl,(Wr.bead c).kidx_at.1,(Wr.bead c).kidx_at.2,?_⟩
  walk_at "qd"
  exact ⟨tup3,fg q⟩
 ·obtain ⟨rest,e⟩:∃ rest,w.toU=.tup (.str w.name::rest):=by
   rcases w.kinds with ⟨c,rfl⟩ | ⟨k,ps,rfl⟩ | hf
   ·exact absurd rfl (hb c)
   ·exact ⟨_,Wr.toU_many k ps⟩
   ·exact ⟨_,Wr.toU_few hf⟩
  rw [e]
  walk_at "qd"
  refine ZP (ZbW hb) ?_
  walk_at "qd"
  refine ⟨⟨_,hl⟩,fun p hp=>?_⟩
  walk_at "qc"
  refine ZaV w.parts Wr.keyU (fun w=>.int (w.size:Nat)) hp (by lia) (fun k A2 _ he=>⟨_,he _ _ hl,rfl⟩) (fun x A2 hx he Cy hc=>?_) ?_
  ·obtain ⟨r,e2⟩:=x.keyU_head
   rw [e2]
   walk_at "qd"
   exact hc
  ·walk_at "qd"
   refine ⟨w.parts.map fun w=>((w.size:Nat):Int),by rw [Zd,YT];rfl,?_⟩
   walk_at "qd"
   refine ⟨w.name,w.kidx,rfl,w.kidx_at.1,w.kidx_at.2,tup2,_,Ext.new hp _ _ hl,?_⟩
   walk_at "qd"
   refine ⟨ZQ (by simp only [List.length_cons,List.length_nil,Yb];lia),fgx (Ext.new hp) ?_⟩
   rw [Zel,<- w.size_parts hb]
   rw [w.keyU_parts hb] at q
   exact q
end
theorem Zd5 {ws:List Wr}:okL ws=true ↔ ∀ w∈ws,w.ok=true:=by
 induction ws with
 | nil=>simp [okL]
 | cons w ws ih=>simp [okL,ih]
theorem ZdS {ws:List Wr} {n:Nat}:depL ws<=n ↔ ∀ w∈ws,w.dep<=n:=by
 induction ws with
 | nil=>simp [depL]
 | cons w ws ih=>simp only [depL,List.forall_mem_cons,<- ih];lia
theorem Ze4:∀ {xs:List PyData},(∀ x∈xs,x.canLay0=true)->PyData.canLayAll0 xs=true
 | [],_=>rfl
 | x::xs,h=>by simp only [PyData.canLayAll0,Ye];exact ⟨h x (.head _),Ze4 fun a ha=>h a (.tail _ ha)⟩
theorem Zh4 {vs:List Wr} (h:okL vs=true) (hd:depL vs<=95):(kdL Wr.keyD vs).canLay0=true/\(kdL Wr.keyD vs).depth<=190:=by
 unfold kdL
 constructor
 ·simp only [PyData.canLay0]
  exact Ze4 fun x hx=>by obtain ⟨w,hw,rfl⟩:=Yt.mp hx;exact w.canK (Zd5.mp h w hw)
 ·simp only [PyData.depth]
  have:=ZhU vs
  rw [Zbq] at this
  lia
theorem kd_lt (vs ws:List Wr):okLt (kdL Wr.keyD vs) (kdL Wr.keyD ws)=true:=by
 unfold kdL
 simp only [okLt]
 have:=okKL vs ws
 rw [Zbq,Zbq] at this
 exact this
theorem kd_du {A:AHp} {p:Addr} {vs:List Wr} (h:A p=some (.lst (vs.map Wr.keyU))):DU A (.ref p) (kdL Wr.keyD vs):=by
 have e:∀ vs:List Wr,DUs A (vs.map Wr.keyU) (vs.map Wr.keyD):=by
  intro vs
  induction vs with
  | nil=>exact .nil
  | cons v vs ih=>exact .cons v.duK ih
 exact .lst h (e vs)
theorem Zfy {ws:List Wr} (i:Nat) (h:okL ws=true):okL (turnL ws i)=true:=Zd5.mpr fun w hw=>Zd5.mp h w ((ZX ws i).mem_iff.mp hw)
theorem ZdI {ws:List Wr} {n:Nat} (i:Nat) (h:depL ws<=n):depL (turnL ws i)<=n:=ZdS.mpr fun w hw=>ZdS.mp h w ((ZX ws i).mem_iff.mp hw)
theorem Zbp {xs:List U} {k:Nat} (h:k<=xs.length):cutU xs (some (k:Int)) none=xs.drop k:=by
 unfold cutU
 rw [HT.sIx_nat,HT.sIx_none,YaQ h,Yao (by rw [Yai];lia)]
theorem ZcD {xs:List U} {k:Nat} (h:k<=xs.length):cutU xs none (some (k:Int))=xs.take k:=by
 unfold cutU
 rw [HT.sIx_nat,HT.sIx_none,YaQ h,YbW,Nat.sub_zero]
noncomputable def Zhv:ASp:=fun us A Q=>∃ (l:Addr) (ws:List Wr),us=[.ref l]/\A l=some (.lst (ws.map Wr.keyU))/\okL ws=true/\ws.length<=1000/\depL ws<=95/\Q (.int (bestT Wr.keyD ws:Nat)) A
noncomputable def asp_made:ASp:=fun us A Q=>∃ (l:Addr) (w:Wr),us=[.str w.name,.ref l]/\A l=some (.lst (w.parts.map Wr.toU))/\w.ok=true/\(∀ c,w≠.bead c)/\w.parts.length<=1000/\Q w.toU A
section
include T
theorem ok_least:FnOk P w K mg base CX0 1 f_q5 d_q5 ["keys"] (spOf K Zhv):=by
 refine' Fun.okA T.F_q5 (sc:=?sc5) (body:=?bd5) ?hs5 ?hb5 Zdi ?hB5 ?hS5
 case hs5=>conv=>lhs;whnf
 case hb5=>conv=>lhs;whnf
 case hB5=>exact fun S cdv A outer s H E hr=>⟨_,(Zg (ZG (i:=1) S.nd rfl (Or.inl rfl) Zh)
   (Zg (ZG (i:=2) S.nd rfl (Or.inl rfl) (pv 0))
   (Zg (ZcN Yan rfl (Zig rfl T.n_range (Za Zh (Za (ZF Zbn (by rfl) T.n_len (by decide +kernel) (Za (pv 0) Ze)) Ze))) (Zy (i:=3) S.nd rfl (Or.inl rfl))
   (Zg (ZG (i:=4) S.nd rfl (Or.inl rfl) (ZR Zaf (ZE ZaL (pv 0) (ZM (pv 3)) ZV) (ZE ZaL (pv 0) ZV (ZM (pv 3)))))
   (Zm (Z9 (Zq (o_ltD hr) (pv 4) (pv 2) (ZS _)) (Zg (ZG (i:=1) S.nd rfl (Or.inl rfl) (pv 3))
   (Zm (ZG (i:=2) S.nd rfl (Or.inl rfl) (pv 4)))) ZA))))
   (Zm (Zv (pv 1)))))),(Zn (Zw Zi Zj)
   (Zn (Zw Zc Zj)
   (Zn (ZcX (ab_jrng2 (Zb Zi (Zb (Zah ZaF (Zb Zc Zf)) Zf))) Zj
   (Zn (Zw (Zl Zag (ZaG Z5 Zc (ZL Zc) Zx) (ZaG Z5 Zc Zx (ZL Zc))) Zj)
   (ZO (Zo (Zl ab_ltD Zc Zc)) (Zn (Zw Zc Zj)
   (Zw Zc Zj)) Zz)))
   (Zu Zc))))⟩
 rintro us A Q ⟨l,ws,rfl,hl,hok,hn,hd,q⟩
 refine ⟨rfl,?_⟩
 walk_at "qs"
 walk_at "qd"
 refine ⟨_,hl,⟨by decide,by decide,by rw [Yb];lia,by rw [Yb];lia⟩,?_⟩
 rw [Yb]
 have en:((ws.length:Int) - 1).toNat=ws.length - 1:=by lia
 rw [en]
 refine for_rng (fun k ρ A2=>∃ (x3 x4:Option U) (p:Addr),ρ=[some (.ref l),some (.int (argBest (fun i j=>ltv (kdL Wr.keyD (turnL ws i)) (kdL Wr.keyD (turnL ws j))) k:Nat)),some (.ref p),x3,x4]/\Ext A A2 /\
  A2 p=some (.lst ((turnL ws (argBest (fun i j=>ltv (kdL Wr.keyD (turnL ws i)) (kdL Wr.keyD (turnL ws j))) k)).map Wr.keyU))) ⟨_,_,l,rfl,Ext.refl A,by rw [hl];show _=some (AO.lst ((ws.drop 0++ws.take 0).map Wr.keyU));simp⟩ ?_ ?_
 ·rintro k ρ A2 hk ⟨x3,x4,p,rfl,hE,hp⟩
  have hb:=ZbE (lt:=fun i j=>ltv (kdL Wr.keyD (turnL ws i)) (kdL Wr.keyD (turnL ws j))) k
  have ek:(1:Int) + (k:Int)=((k + 1:Nat):Int):=by lia
  rw [ek]
  walk_at "qd"
  have hl2:=hE _ _ hl
  refine ⟨_,hl2,fun p1 hp1=>⟨_,by rw [Zk (neA hl2 hp1)];exact hl2,fun p2 hp2=>?_⟩⟩
  rw [Zbp (by rw [Yb];lia)] at hp2 ⊢
  rw [ZcD (by rw [Yb];lia)]
  have n12:p1≠p2:=neA Zd hp2
  have hp2A:A2 p2=none:=by rw [Zk (Ne.symm n12)] at hp2;exact hp2
  refine ⟨_,_,by rw [Zk n12,Zd],Zd,ZQ (by simp;lia),fun p3 hp3=>?_⟩
  have n13:p1≠p3:=fun e=>by rw [<- e,Zk n12,Zd] at hp3;cases hp3
  have n23:p2≠p3:=neA Zd hp3
  have hp3A:A2 p3=none:=by rw [Zk (Ne.symm n23),Zk (Ne.symm n13)] at hp3;exact hp3
  have et:(ws.map Wr.keyU).drop (k + 1)++(ws.map Wr.keyU).take (k + 1)=(turnL ws (k + 1)).map Wr.keyU:=by unfold turnL;rw [Yo,Yag,Yaf]
  rw [et]
  have e1:Ext A2 (updA (updA (updA A2 p1 (.lst ((ws.map Wr.keyU).drop (k + 1)))) p2 (.lst ((ws.map Wr.keyU).take (k + 1)))) p3 (.lst ((turnL ws (k + 1)).map Wr.keyU))):=(Ext.new hp1).trans ((Ext.new hp2).trans (Ext.new hp3))
  have a3:(updA (updA (updA A2 p1 (.lst ((ws.map Wr.keyU).drop (k + 1)))) p2 (.lst ((ws.map Wr.keyU).take (k + 1)))) p3 (.lst ((turnL ws (k + 1)).map Wr.keyU))) p3=some (.lst ((turnL ws (k + 1)).map Wr.keyU)):=Zd
  generalize (updA (updA (updA A2 p1 (.lst ((ws.map Wr.keyU).drop (k + 1)))) p2 (.lst ((ws.map Wr.keyU).take (k + 1)))) p3 (.lst ((turnL ws (k + 1)).map Wr.keyU)))=A3 at e1 a3 ⊢
  have o1:=Zh4 (Zfy (k + 1) hok) (ZdI (k + 1) hd)
  have o2:=Zh4 (Zfy (argBest (fun i j=>ltv (kdL Wr.keyD (turnL ws i)) (kdL Wr.keyD (turnL ws j))) k) hok) (ZdI (argBest (fun i j=>ltv (kdL Wr.keyD (turnL ws i)) (kdL Wr.keyD (turnL ws j))) k) hd)
  refine ⟨kdL Wr.keyD (turnL ws (k + 1)),kdL Wr.keyD (turnL ws (argBest (fun i j=>ltv (kdL Wr.keyD (turnL ws i)) (kdL Wr.keyD (turnL ws j))) k)),kd_du a3,kd_du (e1 _ _ hp),o1.1,o2.1,kd_lt _ _,o1.2,o2.2,?_⟩
  by_cases c:ltv (kdL Wr.keyD (turnL ws (k + 1))) (kdL Wr.keyD (turnL ws (argBest (fun i j=>ltv (kdL Wr.keyD (turnL ws i)) (kdL Wr.keyD (turnL ws j))) k)))=true
  ·have eb:argBest (fun i j=>ltv (kdL Wr.keyD (turnL ws i)) (kdL Wr.keyD (turnL ws j))) (k + 1)=k + 1:=if_pos c
   rw [if_pos c]
   exact ⟨_,_,p3,by rw [eb],hE.trans e1,by rw [eb];exact a3⟩
  ·have eb:argBest (fun i j=>ltv (kdL Wr.keyD (turnL ws i)) (kdL Wr.keyD (turnL ws j))) (k + 1)=argBest (fun i j=>ltv (kdL Wr.keyD (turnL ws i)) (kdL Wr.keyD (turnL ws j))) k:=if_neg c
   rw [if_neg c]
   exact ⟨_,_,p,by rw [eb],hE.trans e1,by rw [eb];exact e1 _ _ hp⟩
 ·rintro ρ A2 ⟨x3,x4,p,rfl,hE,hp⟩
  walk_at "qd"
  exact fgx hE q
theorem ok_made:FnOk P w K mg base CX0 1 f_qd d_qd ["kind","parts"] (spOf K asp_made):=by
 refine' Fun.okA T.F_qd (sc:=?sc6) (body:=?bd6) ?hs6 ?hb6 Zg1 ?hB6 ?hS6
 case hs6=>conv=>lhs;whnf
 case hb6=>conv=>lhs;whnf
 case hB6=>exact fun S cdv A outer s H E hr=>⟨_,(Zg (Z9 (Zq o_in (pv 0) (pe_gv (by rfl) T.c_MANY) (by with_unfolding_all rfl)) (Zm (Zv (ZD (Za (pv 0) (Za (Zar Za8 (by rfl) T.n_tuple (by decide +kernel) (Za (pv 1) Ze)) Ze))))) ZA)
   (Zm (Zv (ZR Zaf (ZD (Za (pv 0) Ze)) (Zar Za8 (by rfl) T.n_tuple (by decide +kernel) (Za (pv 1) Ze)))))),(Zn (ZO (Zo (Zl ZbT Zc (ab_c fun H=>.tup (T.q_MANY H) (.cons (.str _) (.cons (.str _) (.cons (.str _) (.cons (.str _) .nil))))))) (Zu (ZC (Zb Zc (Zb (Zah ZaJ (Zb Zc Zf)) Zf)))) Zz)
   (Zu (Zl Zag (ZC (Zb Zc Zf)) (Zah ZaJ (Zb Zc Zf)))))⟩
 rintro us A Q ⟨l,w,rfl,hl,hok,hb,hn,q⟩
 refine ⟨rfl,?_⟩
 walk_at "qs"
 walk_at "qd"
 rcases w.kinds with ⟨c,rfl⟩ | ⟨k,ps,rfl⟩ | hf
 ·exact absurd rfl (hb c)
 ·refine ⟨rfl,rfl,Z8 (ZbC k) ⟨_,hl,tup2,fg ?_⟩⟩
  rw [Wr.toU_many] at q;exact q
 ·refine ⟨rfl,rfl,ZP (Zbk hf.2) ⟨tup1,_,hl,ZQ (by rw [Yb];simp only [List.length_cons,List.length_nil];lia),fg ?_⟩⟩
  rw [Wr.toU_few hf] at q;exact q
end
noncomputable def Zeu:Pos:=⟨44,32,44,50⟩
noncomputable def gP (w:Wr):U:=.tup [w.pl.toU,w.pl.keyU]
noncomputable def gQ (w:Wr):U:=.tup [w.toU,w.keyU]
theorem few_name {w:Wr} (h:w.few):inU (.str w.name) [.str "bag",.str "choice"]=false/\decide (w.name=Str.ofString "ring")=false:=by
 cases w with
 | nothing=>exact ⟨by decide +kernel,by decide +kernel⟩
 | bead c=>exact absurd rfl (h.1 c)
 | side b f =>
  cases b
  ·exact ⟨(by show inU (.str "left") [.str "bag",.str "choice"]=false;decide +kernel),(by show decide (("left":Str)=Str.ofString "ring")=false;decide +kernel)⟩
  ·exact ⟨(by show inU (.str "right") [.str "bag",.str "choice"]=false;decide +kernel),(by show decide (("right":Str)=Str.ofString "ring")=false;decide +kernel)⟩
 | pair f g=>exact ⟨(by show inU (.str "pair") [.str "bag",.str "choice"]=false;decide +kernel),(by show decide (("pair":Str)=Str.ofString "ring")=false;decide +kernel)⟩
 | many k ps=>exact absurd rfl (h.2 k ps)
noncomputable def ZhK (t:Addr):ASp:=fun us A Q=>∃ (w:Wr) (l:Addr),us=[w.toU,.ref l]/\A l=some (.lst (w.parts.map gP))/\w.ok=true/\w.nrm=true/\w.tups<=200/\w.dep<=95/\w.parts.length < 64/\A t=some (tblO Zeu "plain_by.<locals>.<lambda>")/\Q (gP w) A
section
include T
theorem Zfs (hBA_qb:base.BuiltinsAt mg t_qb):FnOk P w K mg base CX0 6 f_qb d_qb ["writing","told"] (spOf K (ZhK t_qb)):=by
 have G_ql:=ZhH (P:=P) (w:=w) (base:=base) T
 have G_q5:=ok_least (P:=P) (w:=w) (base:=base) T
 have G_qd:=ok_made (P:=P) (w:=w) (base:=base) T
 refine' Fun.okL T.F_qb T.C_qb (sc:=?sc7) (body:=?bd7) ?hs7 ?hb7 Zfp ?hB7 ?hS7
 case hs7=>conv=>lhs;whnf
 case hb7=>conv=>lhs;whnf
 case hB7=>exact fun S A outer s H E hr=>⟨_,(Zg (ZG (i:=2) S.nd rfl (Or.inl rfl) (ZK o_ix (pv 0) Zh (fun _ _=>rfl)))
   (Zg (Z9 (Zq (Zbi hr) (pv 2) Z0 (ZS _)) (Zm (Zv (ZD (Za (pv 0) (Za (Zp (G_ql.mono (by first | decide | lia)) hr (by rfl) T.M_ql T.F_ql.kp T.B_ql .nil ZZ (Za (pv 0) (Za (ZaH Ze) Ze))) Ze))))) ZA)
   (Zg (Z9 (Zq o_in (pv 2) (ZD (Za Z0 (Za Z0 Ze))) (by with_unfolding_all rfl)) (Zm (ZG (i:=1) S.nd rfl (Or.inl rfl) (pe_sortL (N:=["row"]) (y:="row") (qual:="plain_by.<locals>.<lambda>") hr (by rfl) T.n_sorted (pv 1) rfl T.H_qb (by rfl) hBA_qb T.Z_qb (by show (Str.ofString "plain_by"++".<locals>."++"<lambda>":Str)=_;decide +kernel) ⟨rfl,rfl,rfl,by decide +kernel,rfl,by decide +kernel,by decide +kernel⟩ rfl rfl (fun _ _ _ _=>rfl) (fun fl c s H hr=>⟨_,(ZK (k_ix K rfl) (pv 0) Zh (fun _ _=>rfl)),(Zl ZJ Zc Zi)⟩)))) ZA)
   (Zg (Z9 (Zq (Zbi hr) (pv 2) Z0 (ZS _)) (Zg (ZG (i:=3) S.nd rfl (Or.inl rfl) (Zp (G_q5.mono (by first | decide | lia)) hr (by rfl) T.M_q5 T.F_q5.kp T.B_q5 .nil ZZ (Za (Zaw (ts:=["part","key"]) (frs':=[]) (cl:=[]) rfl ⟨rfl,rfl,(by decide +kernel),(by decide +kernel),(fun _ z=>nomatch z),(ZN rfl rfl),(fun _ z=>nomatch z)⟩ (ZaC (pv 1)) (fun _ _ _ _=>Zdc K rfl 2 rfl (ZT (Zy (i:=0) (show List.Nodup (["part","key"]:List Str) from by decide +kernel) rfl (Or.inl rfl) (.inr rfl)) (ZT (Zy (i:=1) (show List.Nodup (["part","key"]:List Str) from by decide +kernel) rfl (Or.inl rfl) (.inr rfl)) Za5)) (by rfl) (by rfl)) (fun _ _ _ _=>ZW) (fun _ _ _ _=>by exact (pv 1))) Ze)))
   (Zm (ZG (i:=1) S.nd rfl (Or.inl rfl) (ZR Zaf (ZE ZaL (pv 1) (ZM (pv 3)) ZV) (ZE ZaL (pv 1) ZV (ZM (pv 3))))))) ZA)
   (Zg (ZG (i:=4) S.nd rfl (Or.inl rfl) (Zp (G_qd.mono (by first | decide | lia)) hr (by rfl) T.M_qd T.F_qd.kp T.B_qd .nil ZZ (Za (pv 2) (Za (Zaw (ts:=["part","key"]) (frs':=[]) (cl:=[]) rfl ⟨rfl,rfl,(by decide +kernel),(by decide +kernel),(fun _ z=>nomatch z),(ZN rfl rfl),(fun _ z=>nomatch z)⟩ (ZaC (pv 1)) (fun _ _ _ _=>Zdc K rfl 2 rfl (ZT (Zy (i:=0) (show List.Nodup (["part","key"]:List Str) from by decide +kernel) rfl (Or.inl rfl) (.inr rfl)) (ZT (Zy (i:=1) (show List.Nodup (["part","key"]:List Str) from by decide +kernel) rfl (Or.inl rfl) (.inr rfl)) Za5)) (by rfl) (by rfl)) (fun _ _ _ _=>ZW) (fun _ _ _ _=>by exact (pv 0))) Ze))))
   (Zm (Zv (ZD (Za (pv 4) (Za (Zp (G_ql.mono (by first | decide | lia)) hr (by rfl) T.M_ql T.F_ql.kp T.B_ql .nil ZZ (Za (pv 4) (Za (Zaw (ts:=["part","key"]) (frs':=[]) (cl:=[]) rfl ⟨rfl,rfl,(by decide +kernel),(by decide +kernel),(fun _ z=>nomatch z),(ZN rfl rfl),(fun _ z=>nomatch z)⟩ (ZaC (pv 1)) (fun _ _ _ _=>Zdc K rfl 2 rfl (ZT (Zy (i:=0) (show List.Nodup (["part","key"]:List Str) from by decide +kernel) rfl (Or.inl rfl) (.inr rfl)) (ZT (Zy (i:=1) (show List.Nodup (["part","key"]:List Str) from by decide +kernel) rfl (Or.inl rfl) (.inr rfl)) Za5)) (by rfl) (by rfl)) (fun _ _ _ _=>ZW) (fun _ _ _ _=>by exact (pv 1))) Ze))) Ze)))))))))),(Zn (Zw (Zl ZJ Zc Zi) Zj)
   (Zn (ZO (Zo (Zl Zbj Zc Z1)) (Zu (ZC (Zb Zc (Zb (Zr (Zb Zc (Zb (ZaI Zf) Zf))) Zf)))) Zz)
   (Zn (ZO (Zo (Zl ZbT Zc (ZC (Zb Z1 (Zb Z1 Zf))))) (Zw (ab_sortL Zc) Zj) Zz)
   (Zn (ZO (Zo (Zl Zbj Zc Z1)) (Zn (Zw (Zr (Zb (Z4 (ZaD Zaj Zc) (Za6 (ZU Zj (ZU Zj Zba))) Z7 Zc) Zf)) Zj)
   (Zw (Zl Zag (ZaG Z5 Zc (ZL Zc) Zx) (ZaG Z5 Zc Zx (ZL Zc))) Zj)) Zz)
   (Zn (Zw (Zr (Zb Zc (Zb (Z4 (ZaD Zaj Zc) (Za6 (ZU Zj (ZU Zj Zba))) Z7 Zc) Zf))) Zj)
   (Zu (ZC (Zb Zc (Zb (Zr (Zb Zc (Zb (Z4 (ZaD Zaj Zc) (Za6 (ZU Zj (ZU Zj Zba))) Z7 Zc) Zf))) Zf)))))))))⟩
 rintro us A Q ⟨w,l,rfl,hl,hok,hnr,ht,hd,hn,hT,q⟩
 refine ⟨rfl,?_⟩
 walk_at "qs"
 rcases w.kinds with ⟨c,rfl⟩ | ⟨k,ps,rfl⟩ | hf
 ·rw [Wr.toU]
  walk_at "qd"
  refine Z8 rfl ⟨by decide,fun p hp=>⟨.bead c,p,by rw [Wr.toU],Zd,hok,ht,?_⟩⟩
  walk_at "qd"
  refine ⟨tup2,fgx (Ext.new hp) ?_⟩
  unfold gP at q
  simp only [Wr.pl,Wr.toU] at q
  exact q
 ·rw [Wr.toU_many]
  walk_at "qd"
  simp only [Wr.nrm,Ye,Yy] at hnr
  have hl:A l=some (.lst (ps.map gP)):=hl
  have hn:ps.length < 64:=hn
  have hk3:=hnr.1
  have eg:ps.map gP=(plnL ps).map gQ:=by rw [Zai,YT];rfl
  have ed:((plnL ps).map gQ).map (fun u=>u.snd.dat)=(plnL ps).map Wr.keyD:=by
   rw [YT]
   exact YaB fun w _=>w.dat_key
  have hnl:(plnL ps).length=ps.length:=by rw [Zai,Yb]
  refine ZP (nbm k) ⟨by decide,rfl,rfl,?_⟩
  by_cases c:k=1\/k=2
  ·have nr : decide (Za2 k=Str.ofString "ring")=false:=by rcases c with rfl | rfl <;> decide +kernel
   refine Z8 (by rcases c with rfl | rfl <;> decide +kernel) ?_
   rw [eg] at hl
   refine ⟨l,(plnL ps).map gQ,U.snd,fun u=>u.snd.dat,rfl,hT,hl,by rw [Yb,hnl];exact hn,?_,?_,?_,?_,fun D hD=>?_⟩
   ·rw [ed,YT]
    have:∀ vs:List Wr,DUs A (vs.map (U.snd ∘ gQ)) (vs.map Wr.keyD):=by
     intro vs
     induction vs with
     | nil=>exact .nil
     | cons v vs ih=>exact .cons v.duK ih
    exact this _
   ·rw [ed]
    have hokL:okL (plnL ps)=true:=by rw [ZdJ];exact hok
    have hdL:depL (plnL ps)<=95:=by rw [ZbB];simp only [Wr.dep] at hd;lia
    refine ⟨fun d hd'=>?_,fun d hd' e he=>?_⟩
    ·obtain ⟨w,hw,rfl⟩:=Yt.mp hd'
     have:=ZdS.mp hdL w hw
     have h2:=w.deepK
     exact ⟨w.canK (Zd5.mp hokL w hw),by lia⟩
    ·obtain ⟨w,hw,rfl⟩:=Yt.mp hd'
     obtain ⟨v,hv,rfl⟩:=Yt.mp he
     exact w.okK v
   ·intro u hu
    obtain ⟨w,hw,rfl⟩:=Yt.mp hu
    show ZaM (w.keyU.dat)=true
    rw [w.dat_key]
    obtain ⟨r,e⟩:=w.keyD_head
    rw [e];rfl
   ·intro u hu
    obtain ⟨w,hw,rfl⟩:=Yt.mp hu
    walk_at "qs"
    unfold gQ
    walk_at "qg"
    first | exact ⟨rfl,Ext.refl A⟩ | exact ⟨_,rfl,rfl,Ext.refl A⟩
   ·refine ZP nr ?_
    rw [ed,(srt_of (d:=Wr.nothing) true gQ).2 (fun x _=>x.plainK) fun x _ y _=>x.okK y]
    obtain ⟨x,rfl⟩:∃ x,x=D:=⟨D,rfl⟩
    have ea:srtK Wr.keyD Wr.nothing true (plnL ps)=arr k (plnL ps):=by unfold arr;rw [if_pos c]
    rw [ea]
    obtain ⟨vs,hvs⟩:∃ vs,vs=arr k (plnL ps):=⟨_,rfl⟩
    rw [<- hvs]
    obtain ⟨W,hWd⟩:∃ W,W=Wr.many k vs:=⟨_,rfl⟩
    have hWp:W=(Wr.many k ps).pl:=by rw [hWd,hvs,Wr.pl]
    have hE:Ext A (updA A x (.lst (vs.map gQ))):=Ext.new hD
    have hx:updA A x (.lst (vs.map gQ)) x=some (.lst (vs.map gQ)):=Zd
    generalize updA A x (.lst (vs.map gQ))=A1 at hE hx ⊢
    have hname:Za2 k=W.name:=by rw [hWd];rfl
    have hW:W.parts=vs:=by rw [hWd];rfl
    have hWok:W.ok=true:=by rw [hWp,Wr.pl_ok];exact hok
    have hWb:∀ c,W≠.bead c:=by rw [hWd];exact fun c z=>nomatch z
    have hWt:W.tups<=200:=by rw [hWp,Wr.pl_tups];exact ht
    have hvl:vs.length < 64:=by rw [hvs,(ZaT k _).length_eq,hnl];exact hn
    have q:Q (.tup [W.toU,W.keyU]) A:=by rw [hWp];exact q
    walk_at "qd"
    refine ⟨⟨_,hx⟩,fun l1 h1=>?_⟩
    walk_at "qc"
    refine Zbr (vs.map gQ) (vs.map Wr.toU) (by rw [Yb,Yb]) h1 (by rw [Yb];lia) (fun k A2 _ he=>⟨_,he _ _ hx,rfl⟩) (fun k u y A2 hu hy he=>?_) ?_
    ·obtain ⟨v,hv,rfl⟩:=Zap hu
     rw [Yl,hv] at hy
     cases hy
     refine ⟨_,_,rfl,fun Cy hc=>?_⟩
     walk_at "qd"
     exact hc
    ·walk_at "qd"
     refine ⟨l1,W,by rw [hname],by rw [Zd,hW],hWok,hWb,by rw [hW];lia,?_⟩
     walk_at "qd"
     have hx1:updA A1 l1 (.lst (vs.map Wr.toU)) x=some (.lst (vs.map gQ)):=by rw [Zk (neA hx h1)];exact hx
     refine ⟨⟨_,hx1⟩,fun l2 h2=>?_⟩
     walk_at "qc"
     refine Zbr (vs.map gQ) (vs.map Wr.keyU) (by rw [Yb,Yb]) h2 (by rw [Yb];lia) (fun k A2 _ he=>⟨_,he _ _ hx1,rfl⟩) (fun k u y A2 hu hy he=>?_) ?_
     ·obtain ⟨v,hv,rfl⟩:=Zap hu
      rw [Yl,hv] at hy
      cases hy
      refine ⟨_,_,rfl,fun Cy hc=>?_⟩
      walk_at "qd"
      exact hc
     ·walk_at "qd"
      refine ⟨W,l2,rfl,by rw [Zd,hW],hWok,hWt,?_⟩
      walk_at "qd"
      exact ⟨tup2,fgx (hE.trans ((Ext.new h1).trans (Ext.new h2))) q⟩
  ·have k03 : k=0\/k=3:=by lia
   refine ZP (by rcases k03 with rfl | rfl <;> decide +kernel) ?_
   have hq:A l=some (.lst ((plnL ps).map gQ)):=by rw [<- eg];exact hl
   rcases k03 with rfl | rfl
   ·refine ZP (by decide +kernel) ?_
    obtain ⟨x,rfl⟩:∃ x,x=l:=⟨l,rfl⟩
    obtain ⟨A1,rfl⟩:∃ A1,A1=A:=⟨A,rfl⟩
    obtain ⟨vs,hvs⟩:∃ vs,vs=plnL ps:=⟨_,rfl⟩
    rw [<- hvs] at hq
    obtain ⟨W,hWd⟩:∃ W,W=Wr.many 0 vs:=⟨_,rfl⟩
    have hWp:W=(Wr.many 0 ps).pl:=by rw [hWd,hvs,Wr.pl];rfl
    have hE:Ext A1 A1:=Ext.refl _
    have hx:A1 x=some (.lst (vs.map gQ)):=hq
    have hname:Za2 0=W.name:=by rw [hWd];rfl
    have hW:W.parts=vs:=by rw [hWd];rfl
    have hWok:W.ok=true:=by rw [hWp,Wr.pl_ok];exact hok
    have hWb:∀ c,W≠.bead c:=by rw [hWd];exact fun c z=>nomatch z
    have hWt:W.tups<=200:=by rw [hWp,Wr.pl_tups];exact ht
    have hvl:vs.length < 64:=by rw [hvs,hnl];exact hn
    have q:Q (.tup [W.toU,W.keyU]) A1:=by rw [hWp];exact q
    walk_at "qd"
    refine ⟨⟨_,hx⟩,fun l1 h1=>?_⟩
    walk_at "qc"
    refine Zbr (vs.map gQ) (vs.map Wr.toU) (by rw [Yb,Yb]) h1 (by rw [Yb];lia) (fun k A2 _ he=>⟨_,he _ _ hx,rfl⟩) (fun k u y A2 hu hy he=>?_) ?_
    ·obtain ⟨v,hv,rfl⟩:=Zap hu
     rw [Yl,hv] at hy
     cases hy
     refine ⟨_,_,rfl,fun Cy hc=>?_⟩
     walk_at "qd"
     exact hc
    ·walk_at "qd"
     refine ⟨l1,W,by rw [hname],by rw [Zd,hW],hWok,hWb,by rw [hW];lia,?_⟩
     walk_at "qd"
     have hx1:updA A1 l1 (.lst (vs.map Wr.toU)) x=some (.lst (vs.map gQ)):=by rw [Zk (neA hx h1)];exact hx
     refine ⟨⟨_,hx1⟩,fun l2 h2=>?_⟩
     walk_at "qc"
     refine Zbr (vs.map gQ) (vs.map Wr.keyU) (by rw [Yb,Yb]) h2 (by rw [Yb];lia) (fun k A2 _ he=>⟨_,he _ _ hx1,rfl⟩) (fun k u y A2 hu hy he=>?_) ?_
     ·obtain ⟨v,hv,rfl⟩:=Zap hu
      rw [Yl,hv] at hy
      cases hy
      refine ⟨_,_,rfl,fun Cy hc=>?_⟩
      walk_at "qd"
      exact hc
     ·walk_at "qd"
      refine ⟨W,l2,rfl,by rw [Zd,hW],hWok,hWt,?_⟩
      walk_at "qd"
      exact ⟨tup2,fgx (hE.trans ((Ext.new h1).trans (Ext.new h2))) q⟩
   ·refine Z8 (by decide +kernel) ?_
    walk_at "qd"
    refine ⟨⟨_,hq⟩,fun l0 h0=>?_⟩
    walk_at "qc"
    refine Zbr ((plnL ps).map gQ) ((plnL ps).map Wr.keyU) (by rw [Yb,Yb]) h0 (by rw [Yb];lia) (fun k A2 _ he=>⟨_,he _ _ hq,rfl⟩) (fun k u y A2 hu hy he=>?_) ?_
    ·obtain ⟨v,hv,rfl⟩:=Zap hu
     rw [Yl,hv] at hy
     cases hy
     refine ⟨_,_,rfl,fun Cy hc=>?_⟩
     walk_at "qd"
     exact hc
    ·walk_at "qd"
     refine ⟨l0,plnL ps,rfl,Zd,by rw [ZdJ];exact hok,by lia,by rw [ZbB];simp only [Wr.dep] at hd;lia,?_⟩
     walk_at "qd"
     have hbest:bestT Wr.keyD (plnL ps)<=(plnL ps).length:=by
      have:=ZbE (lt:=fun i j=>ltv (kdL Wr.keyD (turnL (plnL ps) i)) (kdL Wr.keyD (turnL (plnL ps) j))) ((plnL ps).length - 1)
      have c2:bestT Wr.keyD (plnL ps)<=(plnL ps).length - 1:=this
      lia
     have hq1:updA A l0 (.lst ((plnL ps).map Wr.keyU)) l=some (.lst ((plnL ps).map gQ)):=by rw [Zk (neA hq h0)];exact hq
     have hE0:Ext A (updA A l0 (.lst ((plnL ps).map Wr.keyU))):=Ext.new h0
     generalize updA A l0 (.lst ((plnL ps).map Wr.keyU))=A0 at hq1 hE0 ⊢
     refine ⟨_,hq1,fun p1 hp1=>⟨_,by rw [Zk (neA hq1 hp1)];exact hq1,fun p2 hp2=>?_⟩⟩
     rw [Zbp (by rw [Yb];exact hbest)] at hp2 ⊢
     rw [ZcD (by rw [Yb];exact hbest)]
     have n12:p1≠p2:=neA Zd hp2
     refine ⟨_,_,by rw [Zk n12,Zd],Zd,ZQ (by simp;lia),fun x hx0=>?_⟩
     have et:((plnL ps).map gQ).drop (bestT Wr.keyD (plnL ps))++((plnL ps).map gQ).take (bestT Wr.keyD (plnL ps))=(Zbe Wr.keyD (plnL ps)).map gQ:=by unfold Zbe turnL;rw [Yo,Yag,Yaf]
     rw [et]
     have ea:Zbe Wr.keyD (plnL ps)=arr 3 (plnL ps):=by unfold arr;rw [if_neg (by lia),if_neg (by lia)]
     rw [ea]
     obtain ⟨vs,hvs⟩:∃ vs,vs=arr 3 (plnL ps):=⟨_,rfl⟩
     rw [<- hvs]
     obtain ⟨W,hWd⟩:∃ W,W=Wr.many 3 vs:=⟨_,rfl⟩
     have hWp:W=(Wr.many 3 ps).pl:=by rw [hWd,hvs,Wr.pl]
     have hE:=hE0.trans ((Ext.new (o:=.lst (((plnL ps).map gQ).drop (bestT Wr.keyD (plnL ps)))) hp1).trans ((Ext.new (o:=.lst (((plnL ps).map gQ).take (bestT Wr.keyD (plnL ps)))) hp2).trans (Ext.new (o:=.lst (vs.map gQ)) hx0)))
     have hx:updA (updA (updA A0 p1 (.lst (((plnL ps).map gQ).drop (bestT Wr.keyD (plnL ps))))) p2 (.lst (((plnL ps).map gQ).take (bestT Wr.keyD (plnL ps))))) x (.lst (vs.map gQ)) x=some (.lst (vs.map gQ)):=Zd
     generalize updA (updA (updA A0 p1 (.lst (((plnL ps).map gQ).drop (bestT Wr.keyD (plnL ps))))) p2 (.lst (((plnL ps).map gQ).take (bestT Wr.keyD (plnL ps))))) x (.lst (vs.map gQ))=A1 at hE hx ⊢
     have hname:Za2 3=W.name:=by rw [hWd];rfl
     have hW:W.parts=vs:=by rw [hWd];rfl
     have hWok:W.ok=true:=by rw [hWp,Wr.pl_ok];exact hok
     have hWb:∀ c,W≠.bead c:=by rw [hWd];exact fun c z=>nomatch z
     have hWt:W.tups<=200:=by rw [hWp,Wr.pl_tups];exact ht
     have hvl:vs.length < 64:=by rw [hvs,(ZaT 3 _).length_eq,hnl];exact hn
     have q:Q (.tup [W.toU,W.keyU]) A:=by rw [hWp];exact q
     walk_at "qd"
     refine ⟨⟨_,hx⟩,fun l1 h1=>?_⟩
     walk_at "qc"
     refine Zbr (vs.map gQ) (vs.map Wr.toU) (by rw [Yb,Yb]) h1 (by rw [Yb];lia) (fun k A2 _ he=>⟨_,he _ _ hx,rfl⟩) (fun k u y A2 hu hy he=>?_) ?_
     ·obtain ⟨v,hv,rfl⟩:=Zap hu
      rw [Yl,hv] at hy
      cases hy
      refine ⟨_,_,rfl,fun Cy hc=>?_⟩
      walk_at "qd"
      exact hc
     ·walk_at "qd"
      refine ⟨l1,W,by rw [hname],by rw [Zd,hW],hWok,hWb,by rw [hW];lia,?_⟩
      walk_at "qd"
      have hx1:updA A1 l1 (.lst (vs.map Wr.toU)) x=some (.lst (vs.map gQ)):=by rw [Zk (neA hx h1)];exact hx
      refine ⟨⟨_,hx1⟩,fun l2 h2=>?_⟩
      walk_at "qc"
      refine Zbr (vs.map gQ) (vs.map Wr.keyU) (by rw [Yb,Yb]) h2 (by rw [Yb];lia) (fun k A2 _ he=>⟨_,he _ _ hx1,rfl⟩) (fun k u y A2 hu hy he=>?_) ?_
      ·obtain ⟨v,hv,rfl⟩:=Zap hu
       rw [Yl,hv] at hy
       cases hy
       refine ⟨_,_,rfl,fun Cy hc=>?_⟩
       walk_at "qd"
       exact hc
      ·walk_at "qd"
       refine ⟨W,l2,rfl,by rw [Zd,hW],hWok,hWt,?_⟩
       walk_at "qd"
       exact ⟨tup2,fgx (hE.trans ((Ext.new h1).trans (Ext.new h2))) q⟩
 ·rw [Wr.toU_few hf]
  walk_at "qd"
  obtain ⟨f1,f2,f3⟩:=Wr.pl_few hf
  obtain ⟨n1,n2⟩:=few_name hf
  refine ZP (ZbW hf.1) ⟨by decide,rfl,rfl,ZP n1 (ZP n2 ?_)⟩
  obtain ⟨x,rfl⟩:∃ x,x=l:=⟨l,rfl⟩
  obtain ⟨A1,rfl⟩:∃ A1,A1=A:=⟨A,rfl⟩
  obtain ⟨vs,hvs⟩:∃ vs,vs=w.parts.map Wr.pl:=⟨_,rfl⟩
  obtain ⟨W,hWd⟩:∃ W,W=w.pl:=⟨_,rfl⟩
  have hE:Ext A1 A1:=Ext.refl _
  have hx:A1 x=some (.lst (vs.map gQ)):=by rw [hl,hvs,YT];rfl
  have hname:w.name=W.name:=by rw [hWd];exact f2.symm
  have hW:W.parts=vs:=by rw [hWd,hvs];exact f3
  have hWok:W.ok=true:=by rw [hWd,w.pl_ok];exact hok
  have hWb:∀ c,W≠.bead c:=by rw [hWd];exact f1.1
  have hWt:W.tups<=200:=by rw [hWd,w.pl_tups];exact ht
  have hvl:vs.length < 64:=by rw [hvs,Yb];exact hn
  have q:Q (.tup [W.toU,W.keyU]) A1:=by rw [hWd];exact q
  walk_at "qd"
  refine ⟨⟨_,hx⟩,fun l1 h1=>?_⟩
  walk_at "qc"
  refine Zbr (vs.map gQ) (vs.map Wr.toU) (by rw [Yb,Yb]) h1 (by rw [Yb];lia) (fun k A2 _ he=>⟨_,he _ _ hx,rfl⟩) (fun k u y A2 hu hy he=>?_) ?_
  ·obtain ⟨v,hv,rfl⟩:=Zap hu
   rw [Yl,hv] at hy
   cases hy
   refine ⟨_,_,rfl,fun Cy hc=>?_⟩
   walk_at "qd"
   exact hc
  ·walk_at "qd"
   refine ⟨l1,W,by rw [hname],by rw [Zd,hW],hWok,hWb,by rw [hW];lia,?_⟩
   walk_at "qd"
   have hx1:updA A1 l1 (.lst (vs.map Wr.toU)) x=some (.lst (vs.map gQ)):=by rw [Zk (neA hx h1)];exact hx
   refine ⟨⟨_,hx1⟩,fun l2 h2=>?_⟩
   walk_at "qc"
   refine Zbr (vs.map gQ) (vs.map Wr.keyU) (by rw [Yb,Yb]) h2 (by rw [Yb];lia) (fun k A2 _ he=>⟨_,he _ _ hx1,rfl⟩) (fun k u y A2 hu hy he=>?_) ?_
   ·obtain ⟨v,hv,rfl⟩:=Zap hu
    rw [Yl,hv] at hy
    cases hy
    refine ⟨_,_,rfl,fun Cy hc=>?_⟩
    walk_at "qd"
    exact hc
   ·walk_at "qd"
    refine ⟨W,l2,rfl,by rw [Zd,hW],hWok,hWt,?_⟩
    walk_at "qd"
    exact ⟨tup2,fgx (hE.trans ((Ext.new h1).trans (Ext.new h2))) q⟩
end
noncomputable def Cp (t:Addr) (A:AHp):Prop:=A t=some (tblO Zeu "plain_by.<locals>.<lambda>")
noncomputable def DwP (w:Wr):Prop:=w.nrm=true/\w.dep<=95/\w.parts.length < 64
theorem pby_of {K:YFr} {t:Addr} {vs:List V} {H:Hp} {Q:VK} {E:XK} (h:spOf K (ZcA gP (Cp t) DwP) vs H Q E):spOf K (ZhK t) vs H Q E:=by
 obtain ⟨us,A,Q',r,g,⟨w,l,e,hl,hok,ht,⟨d1,d2,d3⟩,hC,q⟩,k⟩:=h
 exact ⟨us,A,Q',r,g,⟨w,l,e,hl,hok,d1,ht,d2,d3,hC,q⟩,k⟩
noncomputable def okW (w:Wr):Prop:=w.ok=true/\w.tups<=200/\∀ v∈w.post,DwP v
noncomputable def asp_w (t:Addr) (f:Wr->U):ASp:=fun us A Q=>∃ w:Wr,us=[w.toU]/\okW w/\Cp t A/\Q (f w) A
section
include T
theorem ok_pwk (hBA_qb:base.BuiltinsAt mg t_qb):FnOk P w K mg base CX0 9 f_q0 d_q0 ["writing"] (spOf K (asp_w t_qb gP)):=by
 have G_qj:=Zhc (P:=P) (w:=w) (base:=base) (C:=Cp t_qb) (Dw:=DwP) (val:=gP) T 6 (by decide) (fun A A' e h=>e _ _ h) ((Zfs (P:=P) (w:=w) (base:=base) T hBA_qb).imp fun _ _ _ _ h=>pby_of h) T.F_qb.kp T.B_qb
 refine' Fun.okA T.F_q0 (sc:=?sc8) (body:=?bd8) ?hs8 ?hb8 Zcf ?hB8 ?hS8
 case hs8=>conv=>lhs;whnf
 case hb8=>conv=>lhs;whnf
 case hB8=>exact fun S cdv A outer s H E hr=>⟨_,(Zm (Zv (Zp (G_qj.mono (by first | decide | lia)) hr (by rfl) T.M_qj T.F_qj.kp T.B_qj .nil ZZ (Za (pv 0) (Za (Zd6 (v:=.ref f_qb) (by rfl) T.M_qb rfl) Ze))))),(Zu (Zr (Zb Zc (Zb ab_ref Zf))))⟩
 rintro us A Q ⟨w,rfl,⟨hok,ht,hD⟩,hC,q⟩
 refine ⟨rfl,?_⟩
 walk_at "qs"
 walk_at "qd"
 exact ⟨w,rfl,hok,ht,hD,hC,fg q⟩
theorem ZbN (hBA_qb:base.BuiltinsAt mg t_qb):FnOk P w K mg base CX0 10 f_q6 d_q6 ["writing"] (spOf K (asp_w t_qb fun w=>w.pl.keyU)):=by
 have G_q0:=ok_pwk (P:=P) (w:=w) (base:=base) T hBA_qb
 refine' Fun.okA T.F_q6 (sc:=?sc9) (body:=?bd9) ?hs9 ?hb9 ZeJ ?hB9 ?hS9
 case hs9=>conv=>lhs;whnf
 case hb9=>conv=>lhs;whnf
 case hB9=>exact fun S cdv A outer s H E hr=>⟨_,(Zm (Zv (ZK o_ix (Zp (G_q0.mono (by first | decide | lia)) hr (by rfl) T.M_q0 T.F_q0.kp T.B_q0 .nil ZZ (Za (pv 0) Ze)) Zh (fun _ _=>rfl)))),(Zu (Zl ZJ (Zr (Zb Zc Zf)) Zi))⟩
 rintro us A Q ⟨w,rfl,ho,hC,q⟩
 refine ⟨rfl,?_⟩
 walk_at "qs"
 walk_at "qd"
 refine ⟨w,rfl,ho,hC,?_⟩
 unfold gP
 walk_at "qg"
 first | exact fg q | exact ⟨_,rfl,fg q⟩
end
theorem ZiD {w:Wr} (hg:w.gd=true) (ht:w.tups<=96) (hd:w.dep<=95):okW w:=by
 refine ⟨w.gd_ok hg,by lia,fun v hv=>?_⟩
 obtain ⟨h1,h2⟩:=w.gd_post v hv hg
 exact ⟨v.gd_nrm h1,by lia,(v.gd_parts h1).2⟩
noncomputable def asp_cell:ASp:=fun us A Q=>∃ (a:Addr) (ns:List Int) (k:Int),us=[.ref a,.int k]/\A a=some (.lst (ns.map U.int))/\0<=k/\∀ z,Q (.int z) A
section
include T
theorem ok_cell:FnOk P w K mg base CX0 1 f_qi d_qi ["_law_script","_law_k"] (spOf K asp_cell):=by
 refine' Fun.okA T.F_qi (sc:=?sc10) (body:=?bd10) ?hs10 ?hb10 ZiK ?hB10 ?hS10
 case hs10=>conv=>lhs;whnf
 case hb10=>conv=>lhs;whnf
 case hB10=>exact fun S cdv A outer s H E hr=>⟨_,(Zg (Z9 (Zq o_lt (pv 1) (ZF Zbn (by rfl) T.n_len (by decide +kernel) (Za (pv 0) Ze)) (ZS _)) (Zm (Zv (ZK o_ix (pv 0) (pv 1) (fun _ _=>rfl)))) ZA)
   (Zm (Zv Zh))),(Zn (ZO (Zo (Zl ZfE Zc (Zah ZaF (Zb Zc Zf)))) (Zu (Zl ZJ Zc Zc)) Zz)
   (Zu Zi))⟩
 rintro us A Q ⟨a,ns,k,rfl,ha,hk,q⟩
 refine ⟨rfl,?_⟩
 walk_at "qs"
 walk_at "qd"
 refine ⟨_,ha,iteB (fun h=>?_) fun _=>fg (q 0)⟩
 have h':k < ns.length:=by simpa using h
 obtain ⟨z,h1,_⟩:=Zez hk h'
 exact ⟨_,_,ha,h1,fg (q z)⟩
end
noncomputable def asp_mix:ASp:=fun us A Q=>∃ ns:List Int,us=[.rol (ns.map U.int)]/\ns.length<=63/\∀ (l:Addr) (ms:List Int),A l=none->ms.length<=63->Q (.ref l) (updA A l (.lst (ms.map U.int)))
section
include T
theorem ok_mix:FnOk P w K mg base CX0 1 f_qq d_qq ["_law_script"] (spOf K asp_mix):=by
 refine' Fun.okA T.F_qq (sc:=?sc11) (body:=?bd11) ?hs11 ?hb11 sc_qq ?hB11 ?hS11
 case hs11=>conv=>lhs;whnf
 case hb11=>conv=>lhs;whnf
 case hB11=>exact fun S cdv A outer s H E hr=>⟨_,(Zg (Z9 ((Zcj (Zq o_gt (ZF Zbn (by rfl) T.n_len (by decide +kernel) (Za (pv 0) Ze)) Zh (ZS _)) (Zcb (Zq (Zbi hr) (ZR Zbw (ZK o_ix (pv 0) Zh (fun _ _=>rfl)) Zh) Zh (ZS _))))).pt (Zm (Zv (ZR Zaf (ZaH (Za (ZR Zgd (ZK o_ix (pv 0) Zh (fun _ _=>rfl)) Zh) Ze)) (Zar c_list (by rfl) T.n_list (by decide +kernel) (Za (ZE ZaL (pv 0) (ZM Zh) ZV) Ze))))) ZA)
   (Zg (ZG (i:=1) S.nd rfl (Or.inl rfl) (ZaH Ze))
   (Zg (ZcN Yan rfl (Zft (by rfl) T.n_enumerate (Za (pv 0) Ze)) (Zb7 (n:=2) rfl (ZT (Zy (i:=2) S.nd rfl (Or.inl rfl)) (ZT (Zy (i:=3) S.nd rfl (Or.inl rfl)) Za5)))
   (Zm (Za1 (ZbK Yu Y1 Y2 ZaR (pv 1) (Za (ZR Zbw (ZR Zip (ZR Zbw (ZR Zaf (ZR Zip (ZR Zbw (pv 3) (ZR o_pow Zh Zh)) Zh) (ZR Zip Zh (pv 2))) Zh) Zh) Zh) Ze)))))
   (Zm (Zv (pv 1)))))),(Zn (ZO (Zcq (Zo (Zl Zh9 (Zah ZaF (Zb Zc Zf)) Zi)) (Zo (Zl Zbj (Zl ZaY (Zl ZJ Zc Zi) Zi) Zi))) (Zu (Zl Zag (ZaI (Zb (Zl Zgb (Zl ZJ Zc Zi) Zi) Zf)) (Zah Zjd (Zb (ZaG Z5 Zc (ZL Zi) Zx) Zf)))) Zz)
   (Zn (Zw (ZaI Zf) Zj)
   (Zn (ZcX (ZbH ZdQ (Zb Zc Zf)) (Za6 (ZU Zj (ZU Zj Zba)))
   (Za3 (ZbR Z2 ZbD Zc (Zb (Zl ZaY (Zl Zil (Zl ZaY (Zl Zag (Zl Zil (Zl ZaY Zc (Zl Zf0 Zi Zi)) Zi) (Zl Zil Zi Zc)) Zi) Zi) Zi) Zf))))
   (Zu Zc))))⟩
 rintro us A Q ⟨ns,rfl,hk,q⟩
 refine ⟨rfl,?_⟩
 walk_at "qs"
 walk_at "qd"
 rw [Yb]
 refine iteB (fun h0=>?_) fun h0=>?_
 ·have h0 : 0 < ns.length:=by simpa using h0
  obtain ⟨z,h1,h2⟩:=Zez (YcB 0) (show (0:Int) < ns.length by lia)
  refine ⟨_,h1,?_⟩
  walk_at "qd"
  refine ⟨by decide,iteB (fun _=>?_) fun _=>?_⟩
  ·obtain ⟨n0,ns,rfl⟩:∃ n0 ns',ns=n0::ns':=by
    cases ns with
    | nil=>simp at h0
    | cons n0 ns'=>exact ⟨_,_,rfl⟩
   walk_at "qd"
   refine ⟨_,h1,?_⟩
   walk_at "qd"
   refine ⟨⟨by decide,by decide⟩,tup1,fun p hp p1 hp1=>?_⟩
   walk_at "qd"
   refine ⟨_,Zd,fun p2 hp2=>?_⟩
   walk_at "qd"
   rw [YE,Zek] at hp2 ⊢
   have d1:p≠p1:=neA Zd hp1
   have d2:p≠p2:=fun e=>by rw [<- e,Zk d1,Zd] at hp2;cases hp2
   have e:=(Ext.new (o:=.lst [.int (z / 2)]) hp).trans ((Ext.new (o:=.lst (ns.map U.int)) hp1).trans (Ext.new (o:=.lst (ns.map U.int)) hp2))
   refine ⟨[.int (z / 2)],ns.map U.int,by rw [Zk d2,Zk d1,Zd],Zd,?_,fun p3 hp3=>fgx e.put (q p3 ((z / 2)::ns) (e.none hp3) hk)⟩
   refine ZQ ?_
   simp only [List.length_cons,List.length_nil,Yb] at hk ⊢
   lia
  ·walk_at "qd"
   refine ⟨by decide,fun p hp=>?_⟩
   walk_at "qd"
   refine ZeS (us:=ns.map U.int) (fun k ρ A2=>∃ (ms:List Int) (x y:Option U),ρ=[some (.rol (ns.map U.int)),some (.ref p),x,y]/\A2=updA A p (.lst (ms.map U.int))/\ms.length=k) ⟨[],_,_,rfl,rfl,rfl⟩ ?_ ?_
   ·rintro k u ρ A2 hu ⟨ms,x,y,rfl,rfl,hm⟩
    have hkl:=(Yq.mp hu).1
    rw [Yb] at hkl
    obtain ⟨n,_,rfl⟩:=Zap hu
    walk_at "qd"
    exact ⟨rfl,⟨_,Zd⟩,⟨by decide,by decide,by decide⟩,by decide,ZbA (.inr ⟨by decide,by decide⟩),ZbA (.inl ⟨by decide,by decide⟩),by decide,ZbA (.inr ⟨by decide,by decide⟩),by decide,
     _, Zd,Zat (by rw [Yb];lia),ms++[_],_,_,rfl,by rw [Zan,Yo];rfl,by rw [Yj,hm];rfl⟩
   ·rintro ρ A2 ⟨ms,x,y,rfl,rfl,hm⟩
    walk_at "qd"
    exact fg (q p ms hp (by rw [hm,Yb];exact hk))
 ·refine ZP rfl ?_
  walk_at "qd"
  refine ⟨by decide,fun p hp=>?_⟩
  walk_at "qd"
  refine ZeS (us:=ns.map U.int) (fun k ρ A2=>∃ (ms:List Int) (x y:Option U),ρ=[some (.rol (ns.map U.int)),some (.ref p),x,y]/\A2=updA A p (.lst (ms.map U.int))/\ms.length=k) ⟨[],_,_,rfl,rfl,rfl⟩ ?_ ?_
  ·rintro k u ρ A2 hu ⟨ms,x,y,rfl,rfl,hm⟩
   have hkl:=(Yq.mp hu).1
   rw [Yb] at hkl
   obtain ⟨n,_,rfl⟩:=Zap hu
   walk_at "qd"
   exact ⟨rfl,⟨_,Zd⟩,⟨by decide,by decide,by decide⟩,by decide,ZbA (.inr ⟨by decide,by decide⟩),ZbA (.inl ⟨by decide,by decide⟩),by decide,ZbA (.inr ⟨by decide,by decide⟩),by decide,
    _, Zd,Zat (by rw [Yb];lia),ms++[_],_,_,rfl,by rw [Zan,Yo];rfl,by rw [Yj,hm];rfl⟩
  ·rintro ρ A2 ⟨ms,x,y,rfl,rfl,hm⟩
   walk_at "qd"
   exact fg (q p ms hp (by rw [hm,Yb];exact hk))
end
noncomputable def Zdq (n:Nat):ASp:=fun us A Q=>∃ w:Wr,us=[w.toU]/\w.dep<=n/\w.tups<=900/\Q (.int (w.tups:Nat)) A
section
include T
theorem Zin:∀ n:Nat,FnOk P w K mg base CX0 (n + 1) f_q8 d_q8 ["_law_figure"] (spOf K (Zdq n)):=by
 intro n
 induction n with
 | zero=>exact ZbO T.F_q8 Zc5 fun us A Q hq0=>by obtain ⟨w,_,hd,_⟩:=hq0;have:=w.dep_pos;lia
 | succ n ih =>
  have G_q8:=ih
  refine' Fun.okA T.F_q8 (sc:=?sc12) (body:=?bd12) ?hs12 ?hb12 Zc5 ?hB12 ?hS12
  case hs12=>conv=>lhs;whnf
  case hb12=>conv=>lhs;whnf
  case hB12=>exact fun S cdv A outer s H E hr=>⟨_,(Zg (Z9 (Zq (Zbi hr) (ZK o_ix (pv 0) Zh (fun _ _=>rfl)) Z0 (ZS _)) (Zm (Zv Zh)) ZA)
   (Zg (ZG (i:=1) S.nd rfl (Or.inl rfl) (ZE ZaL (pv 0) (ZM Zh) ZV))
   (Zg (Z9 (Zq o_in (ZK o_ix (pv 0) Zh (fun _ _=>rfl)) (ZD (ZaU (xs:=["row","bag","choice","ring"]) rfl)) (by with_unfolding_all rfl)) (Zm (ZG (i:=1) S.nd rfl (Or.inl rfl) (ZK o_ix (pv 0) Zh (fun _ _=>rfl)))) ZA)
   (Zm (Zv (ZR Zaf Zh (ZF (ZhI rfl) (by rfl) T.n_sum (by decide +kernel) (Za (Zaw (ts:=["_law_part"]) (frs':=[]) (cl:=[]) rfl ⟨rfl,rfl,(by decide +kernel),(by decide +kernel),(fun _ z=>nomatch z),(ZN rfl rfl),(fun _ z=>nomatch z)⟩ (ZaC (pv 1)) (fun _ _ _ _=>Zy (i:=0) nd1 rfl (Or.inl rfl) (.inr rfl)) (fun _ _ _ _=>ZW) (fun _ _ _ _=>by exact (Zp (G_q8.mono (by first | decide | lia)) hr (by rfl) T.M_q8 T.F_q8.kp T.B_q8 .nil ZZ (Za (pv 0) Ze)))) Ze)))))))),(Zn (ZO (Zo (Zl Zbj (Zl ZJ Zc Zi) Z1)) (Zu Zi) Zz)
   (Zn (Zw (ZaG Z5 Zc (ZL Zi) Zx) Zj)
   (Zn (ZO (Zo (Zl ZbT (Zl ZJ Zc Zi) (ZC Za4))) (Zw (Zl ZJ Zc Zi) Zj) Zz)
   (Zu (Zl Zag Zi (Zah ZeN (Zb (Z4 (ZaD Zaj Zc) Zj Z7 (Zr (Zb Zc Zf))) Zf)))))))⟩
  rintro us A Q ⟨w,rfl,hd,ht,q⟩
  refine ⟨rfl,?_⟩
  have hpd:=w.parts_dep
  have hpt:=w.parts_tups
  have hpl:=ZaE w.parts
  have go:∀ l,A l=none->w.tups=1 + tupsL w.parts->aCL (jFix (w.parts.map Wr.toU)) (Zb2 0) Zcr (ZgR (Zdq n) (ZfM (aVar 0) aNil)) l (fun x A2=>xSum [x] A2 fun z A3=>xAdd (.int 1) z A3 (Fg Q)) [none] (updA A l (.lst [])):=fun l hl e=>by
   refine ZaV w.parts Wr.toU (fun w=>.int (w.tups:Nat)) hl (by lia) (fun _ _ _ _=>rfl) (fun x A2 hx he Cy hc=>?_) ?_
   ·walk_at "qd"
    have:=ZaS hx
    have:=Zal hx
    exact ⟨x,rfl,by lia,by lia,hc⟩
   ·walk_at "qd"
    refine ⟨w.parts.map fun w=>((w.tups:Nat):Int),by rw [Zd,YT];rfl,fgx (Ext.new hl) ?_⟩
    rw [ZdV]
    rw [e] at q
    push_cast at q
    exact q
  walk_at "qs"
  rcases w.kinds with ⟨c,rfl⟩ | ⟨k,ps,rfl⟩ | hf
  ·rw [Wr.toU]
   walk_at "qd"
   exact Z8 rfl (fg q)
  ·rw [Wr.toU_many]
   walk_at "qd"
   refine ZP (nbm k) ?_
   walk_at "qd"
   refine ⟨by decide,rfl,rfl,Z8 (ZbC k) ?_⟩
   walk_at "qd"
   exact fun l hl=>go l hl (by simp [Wr.tups,Wr.parts])
  ·rw [Wr.toU_few hf]
   walk_at "qd"
   refine ZP (ZbW hf.1) ?_
   walk_at "qd"
   refine ⟨by decide,rfl,rfl,ZP (Zbk hf.2) ?_⟩
   walk_at "qd"
   refine fun l hl=>go l hl ?_
   cases w with
   | bead c=>exact absurd rfl (hf.1 c)
   | many k ps=>exact absurd rfl (hf.2 k ps)
   | nothing=>rfl
   | side b f=>simp [Wr.tups,Wr.parts,tupsL]
   | pair f g=>simp [Wr.tups,Wr.parts,tupsL]
end
noncomputable def ZeT (n:Nat):ASp:=fun us A Q=>∃ w:Wr,us=[w.toU]/\w.dep<=n/\w.tups<=900/\Q (.int (w.size:Nat)) A
noncomputable def Zgp (n:Nat):ASp:=fun us A Q=>∃ w:Wr,us=[w.toU]/\w.dep<=n/\w.tups<=900/\Q w.keyU A
section
include T
theorem ok_lsize:∀ n:Nat,FnOk P w K mg base CX0 (n + 1) f_qk d_qk ["_law_figure"] (spOf K (ZeT n)):=by
 intro n
 induction n with
 | zero=>exact ZbO T.F_qk ZeP fun us A Q hq0=>by obtain ⟨w,_,hd,_⟩:=hq0;have:=w.dep_pos;lia
 | succ n ih =>
  have G_qk:=ih
  refine' Fun.okA T.F_qk (sc:=?sc13) (body:=?bd13) ?hs13 ?hb13 ZeP ?hB13 ?hS13
  case hs13=>conv=>lhs;whnf
  case hb13=>conv=>lhs;whnf
  case hB13=>exact fun S cdv A outer s H E hr=>⟨_,(Zg (Z9 (Zq (Zbi hr) (ZK o_ix (pv 0) Zh (fun _ _=>rfl)) Z0 (ZS _)) (Zm (Zv Zh)) ZA)
   (Zg (Z9 (Zq o_in (ZK o_ix (pv 0) Zh (fun _ _=>rfl)) (ZD (ZaU (xs:=["row","bag","choice","ring"]) rfl)) (by with_unfolding_all rfl)) (Zm (Zv (ZF (ZhI rfl) (by rfl) T.n_sum (by decide +kernel) (Za (Zaw (ts:=["_law_part"]) (frs':=[]) (cl:=[]) rfl ⟨rfl,rfl,(by decide +kernel),(by decide +kernel),(fun _ z=>nomatch z),(ZN rfl rfl),(fun _ z=>nomatch z)⟩ (ZaC (ZK o_ix (pv 0) Zh (fun _ _=>rfl))) (fun _ _ _ _=>Zy (i:=0) nd1 rfl (Or.inl rfl) (.inr rfl)) (fun _ _ _ _=>ZW) (fun _ _ _ _=>by exact (Zp (G_qk.mono (by first | decide | lia)) hr (by rfl) T.M_qk T.F_qk.kp T.B_qk .nil ZZ (Za (pv 0) Ze)))) Ze)))) ZA)
   (Zm (Zv (ZF (ZhI rfl) (by rfl) T.n_sum (by decide +kernel) (Za (Zaw (ts:=["_law_part"]) (frs':=[]) (cl:=[]) rfl ⟨rfl,rfl,(by decide +kernel),(by decide +kernel),(fun _ z=>nomatch z),(ZN rfl rfl),(fun _ z=>nomatch z)⟩ (ZaC (ZE ZaL (pv 0) (ZM Zh) ZV)) (fun _ _ _ _=>Zy (i:=0) nd1 rfl (Or.inl rfl) (.inr rfl)) (fun _ _ _ _=>ZW) (fun _ _ _ _=>by exact (Zp (G_qk.mono (by first | decide | lia)) hr (by rfl) T.M_qk T.F_qk.kp T.B_qk .nil ZZ (Za (pv 0) Ze)))) Ze)))))),(Zn (ZO (Zo (Zl Zbj (Zl ZJ Zc Zi) Z1)) (Zu Zi) Zz)
   (Zn (ZO (Zo (Zl ZbT (Zl ZJ Zc Zi) (ZC Za4))) (Zu (Zah ZeN (Zb (Z4 (ZaD Zaj (Zl ZJ Zc Zi)) Zj Z7 (Zr (Zb Zc Zf))) Zf))) Zz)
   (Zu (Zah ZeN (Zb (Z4 (ZaD Zaj (ZaG Z5 Zc (ZL Zi) Zx)) Zj Z7 (Zr (Zb Zc Zf))) Zf)))))⟩
  rintro us A Q ⟨w,rfl,hd,ht,q⟩
  refine ⟨rfl,?_⟩
  have hpd:=w.parts_dep
  have hpt:=w.parts_tups
  have hpl:=ZaE w.parts
  have go:∀ l,A l=none->(∀ c,w≠.bead c)->aCL (jFix (w.parts.map Wr.toU)) (Zb2 0) Zcr (ZgR (ZeT n) (ZfM (aVar 0) aNil)) l (fun x A2=>xSum [x] A2 (Fg Q)) [none] (updA A l (.lst [])):=fun l hl hb=>by
   refine ZaV w.parts Wr.toU (fun w=>.int (w.size:Nat)) hl (by lia) (fun _ _ _ _=>rfl) (fun x A2 hx he Cy hc=>?_) ?_
   ·walk_at "qd"
    have:=ZaS hx
    have:=Zal hx
    exact ⟨x,rfl,by lia,by lia,hc⟩
   ·walk_at "qd"
    refine ⟨w.parts.map fun w=>((w.size:Nat):Int),by rw [Zd,YT];rfl,fgx (Ext.new hl) ?_⟩
    rw [Zel,<- w.size_parts hb]
    exact q
  walk_at "qs"
  rcases w.kinds with ⟨c,rfl⟩ | ⟨k,ps,rfl⟩ | hf
  ·rw [Wr.toU]
   walk_at "qd"
   exact Z8 rfl (fg q)
  ·rw [Wr.toU_many]
   walk_at "qd"
   refine ZP (nbm k) ?_
   walk_at "qd"
   refine ⟨by decide,rfl,rfl,Z8 (ZbC k) ?_⟩
   walk_at "qd"
   exact fun l hl=>go l hl (fun c=>by simp)
  ·rw [Wr.toU_few hf]
   walk_at "qd"
   refine ZP (ZbW hf.1) ?_
   walk_at "qd"
   refine ⟨by decide,rfl,rfl,ZP (Zbk hf.2) ?_⟩
   walk_at "qd"
   exact fun l hl=>go l hl hf.1
theorem ok_lkey:∀ n:Nat,FnOk P w K mg base CX0 (n + 2) f_qt d_qt ["_law_figure"] (spOf K (Zgp n)):=by
 intro n
 induction n with
 | zero=>exact ZbO T.F_qt Zgx fun us A Q hq0=>by obtain ⟨w,_,hd,_⟩:=hq0;have:=w.dep_pos;lia
 | succ n ih =>
  have G_qt:=ih
  have G_qk:=ok_lsize (P:=P) (w:=w) (base:=base) T (n + 1)
  refine' Fun.okA T.F_qt (sc:=?sc14) (body:=?bd14) ?hs14 ?hb14 Zgx ?hB14 ?hS14
  case hs14=>conv=>lhs;whnf
  case hb14=>conv=>lhs;whnf
  case hB14=>exact fun S cdv A outer s H E hr=>⟨_,(Zg (ZG (i:=1) S.nd rfl (Or.inl rfl) (ZaH (ZaU (xs:=["nothing","bead","left","right","pair","row","bag","choice","ring"]) rfl)))
   (Zg (ZG (i:=2) S.nd rfl (Or.inl rfl) (ZD (Za (Zp (G_qk.mono (by first | decide | lia)) hr (by rfl) T.M_qk T.F_qk.kp T.B_qk .nil ZZ (Za (pv 0) Ze)) (Za (ZbK Yu PySem.F.slot_list_index PySem.F.type_list_index mt_idxL (pv 1) (Za (ZK o_ix (pv 0) Zh (fun _ _=>rfl)) Ze)) Ze))))
   (Zg (Z9 (Zq (Zbi hr) (ZK o_ix (pv 0) Zh (fun _ _=>rfl)) Z0 (ZS _)) (Zm (Zv (ZR Zaf (pv 2) (ZD (Za (ZK o_ix (pv 0) Zh (fun _ _=>rfl)) Ze))))) ZA)
   (Zg (Z9 (Zq o_in (ZK o_ix (pv 0) Zh (fun _ _=>rfl)) (ZD (ZaU (xs:=["row","bag","choice","ring"]) rfl)) (by with_unfolding_all rfl)) (Zm (Zv (ZR Zaf (pv 2) (Zar Za8 (by rfl) T.n_tuple (by decide +kernel) (Za (Zaw (ts:=["_law_part"]) (frs':=[]) (cl:=[]) rfl ⟨rfl,rfl,(by decide +kernel),(by decide +kernel),(fun _ z=>nomatch z),(ZN rfl rfl),(fun _ z=>nomatch z)⟩ (ZaC (ZK o_ix (pv 0) Zh (fun _ _=>rfl))) (fun _ _ _ _=>Zy (i:=0) nd1 rfl (Or.inl rfl) (.inr rfl)) (fun _ _ _ _=>ZW) (fun _ _ _ _=>by exact (Zp (G_qt.mono (by first | decide | lia)) hr (by rfl) T.M_qt T.F_qt.kp T.B_qt .nil ZZ (Za (pv 0) Ze)))) Ze))))) ZA)
   (Zm (Zv (ZR Zaf (pv 2) (Zar Za8 (by rfl) T.n_tuple (by decide +kernel) (Za (Zaw (ts:=["_law_part"]) (frs':=[]) (cl:=[]) rfl ⟨rfl,rfl,(by decide +kernel),(by decide +kernel),(fun _ z=>nomatch z),(ZN rfl rfl),(fun _ z=>nomatch z)⟩ (ZaC (ZE ZaL (pv 0) (ZM Zh) ZV)) (fun _ _ _ _=>Zy (i:=0) nd1 rfl (Or.inl rfl) (.inr rfl)) (fun _ _ _ _=>ZW) (fun _ _ _ _=>by exact (Zp (G_qt.mono (by first | decide | lia)) hr (by rfl) T.M_qt T.F_qt.kp T.B_qt .nil ZZ (Za (pv 0) Ze)))) Ze))))))))),(Zn (Zw (ZaI Za4) Zj)
   (Zn (Zw (ZC (Zb (Zr (Zb Zc Zf)) (Zb (ZbR Z2 ab_idxL Zc (Zb (Zl ZJ Zc Zi) Zf)) Zf))) Zj)
   (Zn (ZO (Zo (Zl Zbj (Zl ZJ Zc Zi) Z1)) (Zu (Zl Zag Zc (ZC (Zb (Zl ZJ Zc Zi) Zf)))) Zz)
   (Zn (ZO (Zo (Zl ZbT (Zl ZJ Zc Zi) (ZC Za4))) (Zu (Zl Zag Zc (Zah ZaJ (Zb (Z4 (ZaD Zaj (Zl ZJ Zc Zi)) Zj Z7 (Zr (Zb Zc Zf))) Zf)))) Zz)
   (Zu (Zl Zag Zc (Zah ZaJ (Zb (Z4 (ZaD Zaj (ZaG Z5 Zc (ZL Zi) Zx)) Zj Z7 (Zr (Zb Zc Zf))) Zf))))))))⟩
  rintro us A Q ⟨w,rfl,hd,ht,q⟩
  refine ⟨rfl,?_⟩
  have hpd:=w.parts_dep
  have hpt:=w.parts_tups
  have hpl:=ZaE w.parts
  walk_at "qs"
  walk_at "qd"
  refine ⟨by decide,fun pk hpk=>?_⟩
  walk_at "qd"
  refine ⟨w,rfl,hd,ht,?_⟩
  have e0:=Ext.new (o:=.lst [U.str "nothing",.str "bead",.str "left",.str "right",.str "pair",.str "row",.str "bag",.str "choice",.str "ring"]) hpk
  have go:∀ l A2,Ext A A2->A2 l=none->(∀ c,w≠.bead c)->aCL (jFix (w.parts.map Wr.toU)) (Zb2 0) Zcr (ZgR (Zgp n) (ZfM (aVar 0) aNil)) l (fun x A2=>Zdu [x] A2 fun z A3=>xAdd (.tup [.int (w.size:Nat),.int (w.kidx:Nat)]) z A3 (Fg Q)) [none] (updA A2 l (.lst [])):=fun l A2 e hl hb=>by
   refine ZaV w.parts Wr.toU Wr.keyU hl (by lia) (fun _ _ _ _=>rfl) (fun x A2 hx he Cy hc=>?_) ?_
   ·walk_at "qd"
    have:=ZaS hx
    have:=Zal hx
    exact ⟨x,rfl,by lia,by lia,hc⟩
   ·walk_at "qd"
    refine ⟨_,Zd,?_⟩
    walk_at "qd"
    refine ⟨ZQ (by simp only [List.length_cons,List.length_nil,Yb];lia),fgx (e.trans (Ext.new hl)) ?_⟩
    rw [w.keyU_parts hb] at q
    exact q
  rcases w.kinds with ⟨c,rfl⟩ | ⟨k,ps,rfl⟩ | hf
  ·rw [Wr.toU]
   walk_at "qd"
   refine ⟨⟨_,Zd⟩,ZdT,1,Zd,(Wr.bead c).kidx_at.1,(Wr.bead c).kidx_at.2,?_⟩
   walk_at "qd"
   refine ⟨tup2,Z8 rfl ?_⟩
   walk_at "qd"
   exact ⟨tup1,ZQ (by simp),fgx e0 q⟩
  ·rw [Wr.toU_many]
   walk_at "qd"
   refine ⟨⟨_,Zd⟩,ZdT,(Wr.many k ps).kidx,Zd,(Wr.many k ps).kidx_at.1,(Wr.many k ps).kidx_at.2,?_⟩
   walk_at "qd"
   refine ⟨tup2,ZP (nbm k) ?_⟩
   walk_at "qd"
   refine ⟨by decide,rfl,rfl,Z8 (ZbC k) ?_⟩
   walk_at "qd"
   exact fun l hl=>go l _ e0 hl (fun c=>by simp)
  ·rw [Wr.toU_few hf]
   walk_at "qd"
   refine ⟨⟨_,Zd⟩,ZdT,w.kidx,Zd,w.kidx_at.1,w.kidx_at.2,?_⟩
   walk_at "qd"
   refine ⟨tup2,ZP (ZbW hf.1) ?_⟩
   walk_at "qd"
   refine ⟨by decide,rfl,rfl,ZP (Zbk hf.2) ?_⟩
   walk_at "qd"
   exact fun l hl=>go l _ e0 hl hf.1
end
noncomputable def asp_put:ASp:=fun us A Q=>∃ (a:Addr) (z r:Int) (ws:List Wr),us=[.ref a,.int z,.int r]/\A a=some (.lst (ws.map Wr.toU))/\gdL ws=true/\0<=z/\tupsL ws<=94/\r<=94 /\
 ∀ ws':List Wr,gdL ws'=true->ws'.length<=ws.length + 1->((tupsL ws':Int)<=tupsL ws + 1\/(tupsL ws':Int)<=r)->Q .non (updA A a (.lst (ws'.map Wr.toU)))
noncomputable def asp_any:ASp:=fun us A Q=>∃ (a:Addr) (ns:List Int),us=[.ref a]/\A a=some (.lst (ns.map U.int))/\ns.length<=60/\∀ (k:Nat) (ws:List Wr),(Wr.many k ws).gd=true->(Wr.many k ws).tups<=94->ws.length<=ns.length->Q (Wr.many k ws).toU A
section
include T
theorem ok_put : FnOk P w K mg base CX0 99 f_qs d_qs ["_law_stack","_law_cell_here","_law_room"] (spOf K asp_put):=by
 have G_q8:=Zin (P:=P) (w:=w) (base:=base) T 97
 refine' Fun.okA T.F_qs (sc:=?sc15) (body:=?bd15) ?hs15 ?hb15 sc_qs ?hB15 ?hS15
 case hs15=>conv=>lhs;whnf
 case hb15=>conv=>lhs;whnf
 case hB15=>exact fun S cdv A outer s H E hr=>⟨_,(Zg (ZG (i:=3) S.nd rfl (Or.inl rfl) (ZR Zbw (pv 1) Zh))
   (Zg (ZG (i:=4) S.nd rfl (Or.inl rfl) (ZR Zgd (pv 1) Zh))
   (Zg (ZG (i:=5) S.nd rfl (Or.inl rfl) (ZF (c_minA rfl) (by rfl) T.n_min (by decide +kernel) (Za (ZF Zbn (by rfl) T.n_len (by decide +kernel) (Za (pv 0) Ze)) (Za (ZR Zbw (pv 4) Zh) Ze))))
   (Zm (Z9 ((Ze7 (Zq o_lt (pv 3) Zh (ZS _)) (Zdk (Zq (Zbi hr) (ZF Zbn (by rfl) T.n_len (by decide +kernel) (Za (pv 0) Ze)) Zh (ZS _))))).pt (Zm (Za1 (ZbK Yu Y1 Y2 ZaR (pv 0) (Za (ZD (Za Z0 (Za (ZK o_ix (ZaH (ZaU (xs:=["red","ash","blue","redder"]) rfl)) (ZR Zbw (pv 4) Zh) (fun _ _=>rfl)) Ze))) Ze)))) (Zm (Z9 (Zq (Zbi hr) (pv 3) Zh (ZS _)) (Zm (Za1 (ZbK Yu Y1 Y2 ZaR (pv 0) (Za (ZD (Za Z0 Ze)) Ze)))) (Zm (Z9 (Zq o_lt (pv 3) Zh (ZS _)) (Zm (Za1 (ZbK Yu Y1 Y2 ZaR (pv 0) (Za (ZD (Za (ZK o_ix (ZaH (Za Z0 (Za Z0 Ze))) (ZR Zfn (pv 3) Zh) (fun _ _=>rfl)) (Za (Zdw Yu Yal Yam Zdn (pv 0)) Ze))) Ze)))) (Zm (Z9 ((Zcj (Zq (Zbi hr) (pv 3) Zh (ZS _)) (Zcb (Zq o_gt (ZF Zbn (by rfl) T.n_len (by decide +kernel) (Za (pv 0) Ze)) Zh (ZS _))))).pt (Zg (ZG (i:=6) S.nd rfl (Or.inl rfl) (Zdw Yu Yal Yam Zdn (pv 0)))
   (Zm (Za1 (ZbK Yu Y1 Y2 ZaR (pv 0) (Za (ZD (Za Z0 (Za (Zdw Yu Yal Yam Zdn (pv 0)) (Za (pv 6) Ze)))) Ze))))) (Zm (Z9 (Zq o_lt (pv 3) Zh (ZS _)) (Zg (ZG (i:=7) S.nd rfl (Or.inl rfl) (ZK o_ix (pv 0) (ZR Zbw (pv 4) (ZF Zbn (by rfl) T.n_len (by decide +kernel) (Za (pv 0) Ze))) (fun _ _=>rfl)))
   (Zm (Z9 (Zq o_le (ZR Zaf (ZF (ZhI rfl) (by rfl) T.n_sum (by decide +kernel) (Za (Zaw (ts:=["_law_one"]) (frs':=[]) (cl:=[]) rfl ⟨rfl,rfl,(by decide +kernel),(by decide +kernel),(fun _ z=>nomatch z),(ZN rfl rfl),(fun _ z=>nomatch z)⟩ (ZaC (pv 0)) (fun _ _ _ _=>Zy (i:=0) nd1 rfl (Or.inl rfl) (.inr rfl)) (fun _ _ _ _=>ZW) (fun _ _ _ _=>by exact (Zp (G_q8.mono (by first | decide | lia)) hr (by rfl) T.M_q8 T.F_q8.kp T.B_q8 .nil ZZ (Za (pv 0) Ze)))) Ze)) (Zp (G_q8.mono (by first | decide | lia)) hr (by rfl) T.M_q8 T.F_q8.kp T.B_q8 .nil ZZ (Za (pv 7) Ze))) (pv 2) (ZS _)) (Zm (Za1 (ZbK Yu Y1 Y2 ZaR (pv 0) (Za (pv 7) Ze)))) ZA))) (Zg (Zce (i:=8) S.nd rfl (Or.inl rfl) (by with_unfolding_all rfl) (ts:=["_law_k"]) (frs':=[("_law_stack",0)]) (cl:=_) rfl ⟨(by rfl),rfl,(by decide +kernel),(by decide +kernel),(ZaN (by rfl) Zbc),(Zb6 (by rfl) (by rfl)),(ZaN ⟨(by rfl),(by first | exact .inl rfl | exact .inr rfl),(by first | exact .inl rfl | exact .inr rfl),(by rfl)⟩ Zbc)⟩ (Zex rfl T.n_range (Za (pv 5) Ze)) (fun _ _ _ _=>Zy (i:=0) (show List.Nodup (["_law_k","_law_stack"]:List Str) from by decide +kernel) rfl (Or.inl rfl) (.inr rfl)) (fun _ _ _ _=>ZW) (fun _ _ _ _=>by exact (k_bm0 K rfl Yu Yal Yam Zdn (pv 1))))
   (Zm (Za1 (ZbK Yu Y1 Y2 ZaR (pv 0) (Za (ZD (Za (ZK o_ix (ZaH (ZaU (xs:=["row","bag","choice","ring"]) rfl)) (ZR Zbw (pv 3) Zh) (fun _ _=>rfl)) (Za (ZiA rfl (by rfl) T.n_tuple (by rfl) T.n_reversed (pv 8)) Ze))) Ze)))))))))))))))))),(Zn (Zw (Zl ZaY Zc Zi) Zj)
   (Zn (Zw (Zl Zgb Zc Zi) Zj)
   (Zn (Zw (Zah ab_min (Zb (Zah ZaF (Zb Zc Zf)) (Zb (Zl ZaY Zc Zi) Zf))) Zj)
   (ZO (Ze5 (Zo (Zl ZfE Zc Zi)) (Zo (Zl Zbj (Zah ZaF (Zb Zc Zf)) Zi))) (Za3 (ZbR Z2 ZbD Zc (Zb (ZC (Zb Z1 (Zb (Zl ZJ (ZaI Za4) (Zl ZaY Zc Zi)) Zf))) Zf))) (ZO (Zo (Zl Zbj Zc Zi)) (Za3 (ZbR Z2 ZbD Zc (Zb (ZC (Zb Z1 Zf)) Zf))) (ZO (Zo (Zl ZfE Zc Zi)) (Za3 (ZbR Z2 ZbD Zc (Zb (ZC (Zb (Zl ZJ (ZaI (Zb Z1 (Zb Z1 Zf))) (Zl ZcV Zc Zi)) (Zb (Zdx Z2 Zci Zc) Zf))) Zf))) (ZO (Zcq (Zo (Zl Zbj Zc Zi)) (Zo (Zl Zh9 (Zah ZaF (Zb Zc Zf)) Zi))) (Zn (Zw (Zdx Z2 Zci Zc) Zj)
   (Za3 (ZbR Z2 ZbD Zc (Zb (ZC (Zb Z1 (Zb (Zdx Z2 Zci Zc) (Zb Zc Zf)))) Zf)))) (ZO (Zo (Zl ZfE Zc Zi)) (Zn (Zw (Zl ZJ Zc (Zl ZaY Zc (Zah ZaF (Zb Zc Zf)))) Zj)
   (ZO (Zo (Zl ab_le (Zl Zag (Zah ZeN (Zb (Z4 (ZaD Zaj Zc) Zj Z7 (Zr (Zb Zc Zf))) Zf)) (Zr (Zb Zc Zf))) Zc)) (Za3 (ZbR Z2 ZbD Zc (Zb Zc Zf))) Zz)) (Zn (Zw (Z4 (Zgn (Zb Zc Zf)) Zj Z7 (Zdx Z2 Zci Zc)) Zj)
   (Za3 (ZbR Z2 ZbD Zc (Zb (ZC (Zb (Zl ZJ (ZaI Za4) (Zl ZaY Zc Zi)) (Zb (Zjj Zc) Zf))) Zf))))))))))))⟩
 rintro us A Q ⟨a,z,r,ws,rfl,ha,hok0,hz,ht,hr94,q⟩
 refine ⟨rfl,?_⟩
 walk_at "qs"
 walk_at "qd"
 have hl0:=ZaE ws
 have fin:∀ (A3:AHp) (ws0:List Wr) (w:Wr),Ext A A3->gdL ws0=true->ws0.length<=ws.length->w.gd=true->((tupsL ws0 + w.tups:Nat)<=(tupsL ws:Int) + 1\/(tupsL ws0 + w.tups:Nat)<=r)->Fg Q .non (updA A3 a (.lst (ws0.map Wr.toU++[w.toU]))):=fun A3 ws0 w e ho1 hlen ho2 hb=>by
  have:=q (ws0++[w]) (by rw [ZbG,ho1];simp [gdL,ho2]) (by rw [Yj,List.length_singleton];lia) (by rw [Zas];simpa [tupsL] using hb)
  rw [Yo] at this
  exact fgx e.put this
 refine ⟨by decide,⟨by decide,by decide⟩,_,ha,by decide,?_⟩
 by_cases h3:z % 12 < 3
 ·refine Z8 (by simpa using h3) ?_
  walk_at "qd"
  refine ⟨⟨_,ha⟩,by decide,fun p hp=>?_⟩
  walk_at "qd"
  refine ⟨by decide,?_⟩
  obtain ⟨c,hc,hok⟩:=Zfk (z / 12)
  refine ⟨_,_,Zd,hc,?_⟩
  walk_at "qd"
  have e:=Ext.new (o:=.lst [U.str "red",U.str "ash",U.str "blue",U.str "redder"]) hp
  exact ⟨tup2,_,e _ _ ha,Zat (by rw [Yb];lia),fin _ ws (.bead c) e hok0 (Yh _) hok (.inl (by simp only [Wr.tups];lia))⟩
 ·refine ZP (by simpa using h3) ?_
  refine ⟨_,ha,?_⟩
  rw [Yb]
  by_cases h0:ws.length=0
  ·refine Z8 (by simpa using h0) ?_
   walk_at "qd"
   refine ⟨⟨_,ha⟩,by decide,fun p hp=>?_⟩
   walk_at "qd"
   refine ⟨by decide,?_⟩
   obtain ⟨c,hc,hok⟩:=Zfk (z / 12)
   refine ⟨_,_,Zd,hc,?_⟩
   walk_at "qd"
   have e:=Ext.new (o:=.lst [U.str "red",U.str "ash",U.str "blue",U.str "redder"]) hp
   exact ⟨tup2,_,e _ _ ha,Zat (by rw [Yb];lia),fin _ ws (.bead c) e hok0 (Yh _) hok (.inl (by simp only [Wr.tups];lia))⟩
  ·refine ZP (by simpa using h0) ?_
   walk_at "qd"
   by_cases h4:z % 12=3
   ·refine Z8 (by simpa using h4) ?_
    walk_at "qd"
    exact ⟨⟨_,ha⟩,tup1,_,ha,Zat (by rw [Yb];lia),fin _ ws .nothing (Ext.refl A) hok0 (Yh _) rfl (.inl (by simp only [Wr.tups];lia))⟩
   ·refine ZP (by simpa using h4) ?_
    walk_at "qd"
    by_cases h6:z % 12 < 6
    ·refine Z8 (by simpa using h6) ?_
     walk_at "qd"
     refine ⟨⟨_,ha⟩,tup2,fun p hp=>?_⟩
     obtain ⟨b,hb⟩:=side_atU (j:=z % 12 - 4) (by lia) (by lia)
     refine ⟨_,_,Zd,hb,?_⟩
     walk_at "qd"
     have e:=Ext.new (o:=.lst [U.str "left",U.str "right"]) hp
     obtain ⟨ws0,x,rfl⟩:∃ ws0 x,ws=ws0++[x]:=by
      rcases Ybg ws with rfl | ⟨a,b,rfl⟩
      ·exact absurd rfl h0
      ·exact ⟨a,b,by simp⟩
     rw [Yj,List.length_singleton] at hl0
     rw [ZbG,Ye] at hok0
     refine ⟨⟨_,e _ _ ha⟩,ws0.map Wr.toU,x.toU,by rw [e _ _ ha,Yo];rfl,?_⟩
     walk_at "qd"
     refine ⟨tup2,_,Zd,Zat (by rw [Yb];lia),?_⟩
     rw [Zan]
     exact fin _ ws0 (.side b x) e hok0.1 (by rw [Yj];lia) (by have:=hok0.2;simpa [gdL,Wr.gd] using this) (.inl (by rw [Zas];simp only [Wr.tups,tupsL];lia))
    ·refine ZP (by simpa using h6) ?_
     walk_at "qd"
     by_cases h7:z % 12=6
     ·refine Z8 (by simpa using h7) ?_
      refine ⟨_,ha,?_⟩
      rw [Yb]
      by_cases h1:1 < ws.length
      ·refine Z8 (by simp;lia) ?_
       walk_at "qd"
       obtain ⟨ws0,x,y,rfl⟩:∃ ws0 x y,ws=ws0++[x]++[y]:=by
        rcases Ybg ws with rfl | ⟨a,b,rfl⟩
        ·exact absurd rfl h0
        ·rcases Ybg a with rfl | ⟨c,d,rfl⟩
         ·simp at h1
         ·exact ⟨c,d,b,by simp⟩
       simp only [Yj,List.length_singleton] at hl0
       rw [ZbG,ZbG,Ye,Ye] at hok0
       refine ⟨⟨_,ha⟩,(ws0++[x]).map Wr.toU,y.toU,by rw [ha,Yo];rfl,?_⟩
       walk_at "qd"
       refine ⟨⟨_,Zd⟩,⟨_,Zd⟩,ws0.map Wr.toU,x.toU,by rw [Zd,Yo];rfl,?_⟩
       walk_at "qd"
       refine ⟨tup3,_,Zd,Zat (by rw [Yb];lia),?_⟩
       rw [Zan,Zan]
       exact fin _ ws0 (.pair x y) (Ext.refl A) hok0.1.1 (by rw [Yj,Yj];lia) (by have h1:=hok0.1.2;have h2:=hok0.2;simp [gdL] at h1 h2;simp [Wr.gd,h1,h2]) (.inl (by rw [Zas,Zas];simp only [Wr.tups,tupsL];lia))
      ·refine ZP (by simp;lia) ?_
       walk_at "qd"
       refine Z8 (by simp;lia) ?_
       obtain ⟨v,hv,hv2⟩:=Zhy (xs:=ws.map Wr.toU) (i:=z / 12 % ((ws.map Wr.toU).length:Int)) (YaA _ (by rw [Yb];lia)) (Yby _ (by rw [Yb];lia))
       obtain ⟨u,hu,rfl⟩:=Zap hv2
       have hum:=YG hu
       have ht2:=Zal hum
       have hok2:=Zbh hok0 hum
       have hd2:=u.dep_le
       walk_at "qd"
       refine ⟨_,ha,?_⟩
       walk_at "qd"
       refine ⟨by rw [Yb];lia,_,_,ha,hv,?_⟩
       walk_at "qd"
       refine ⟨⟨_,ha⟩,fun l hl=>?_⟩
       walk_at "qc"
       refine ZaV ws Wr.toU (fun w=>.int (w.tups:Nat)) hl (by lia) (fun k A2 _ he=>⟨_,he _ _ ha,rfl⟩) (fun x A2 hx he Cy hc=>?_) ?_
       ·walk_at "qd"
        have:=Zal hx
        have:=x.dep_le
        exact ⟨x,rfl,by lia,by lia,hc⟩
       ·walk_at "qd"
        refine ⟨ws.map fun w=>((w.tups:Nat):Int),by rw [Zd,YT];rfl,u,rfl,by lia,by lia,?_⟩
        walk_at "qd"
        rw [ZdV]
        have e:=Ext.new (o:=.lst (ws.map fun w=>U.int ((w.tups:Nat):Int))) hl
        refine iteB (fun hle=>?_) (fun _=>?_)
        ·walk_at "qd"
         exact ⟨⟨_,e _ _ ha⟩,_,e _ _ ha,Zat (by rw [Yb];lia),fin _ ws u e hok0 (Yh _) hok2 (.inr (by have:=Yay hle;lia))⟩
        ·refine fgx e ?_
         have:=q ws hok0 (by lia) (.inl (by lia))
         rw [Zbo ha] at this
         exact this
     ·refine ZP (by simpa using h7) (ZP rfl ?_)
      walk_at "qd"
      by_cases h8:z % 12 < 8
      ·refine Z8 (by simp;lia) ?_
       obtain ⟨v,hv,hv2⟩:=Zhy (xs:=ws.map Wr.toU) (i:=z / 12 % ((ws.map Wr.toU).length:Int)) (YaA _ (by rw [Yb];lia)) (Yby _ (by rw [Yb];lia))
       obtain ⟨u,hu,rfl⟩:=Zap hv2
       have hum:=YG hu
       have ht2:=Zal hum
       have hok2:=Zbh hok0 hum
       have hd2:=u.dep_le
       walk_at "qd"
       refine ⟨_,ha,?_⟩
       walk_at "qd"
       refine ⟨by rw [Yb];lia,_,_,ha,hv,?_⟩
       walk_at "qd"
       refine ⟨⟨_,ha⟩,fun l hl=>?_⟩
       walk_at "qc"
       refine ZaV ws Wr.toU (fun w=>.int (w.tups:Nat)) hl (by lia) (fun k A2 _ he=>⟨_,he _ _ ha,rfl⟩) (fun x A2 hx he Cy hc=>?_) ?_
       ·walk_at "qd"
        have:=Zal hx
        have:=x.dep_le
        exact ⟨x,rfl,by lia,by lia,hc⟩
       ·walk_at "qd"
        refine ⟨ws.map fun w=>((w.tups:Nat):Int),by rw [Zd,YT];rfl,u,rfl,by lia,by lia,?_⟩
        walk_at "qd"
        rw [ZdV]
        have e:=Ext.new (o:=.lst (ws.map fun w=>U.int ((w.tups:Nat):Int))) hl
        refine iteB (fun hle=>?_) (fun _=>?_)
        ·walk_at "qd"
         exact ⟨⟨_,e _ _ ha⟩,_,e _ _ ha,Zat (by rw [Yb];lia),fin _ ws u e hok0 (Yh _) hok2 (.inr (by have:=Yay hle;lia))⟩
        ·refine fgx e ?_
         have:=q ws hok0 (by lia) (.inl (by lia))
         rw [Zbo ha] at this
         exact this
      ·refine ZP (by simp;lia) ?_
       walk_at "qd"
       refine ⟨by lia,by lia,fun l hl=>?_⟩
       walk_at "qc"
       generalize em:(min ((ws.length:Nat):Int) (z / 12 % 5)).toNat=m
       have hm:m<=ws.length:=by lia
       obtain ⟨ws1,ws2,e12,hl2⟩:∃ ws1 ws2:List Wr,ws=ws1++ws2/\ws2.length=m:=⟨ws.take (ws.length - m),ws.drop (ws.length - m),(YW _ _).symm,by rw [Yai];lia⟩
       subst e12
       have ha':A a=some (.lst (ws1.map Wr.toU++ws2.map Wr.toU)):=by rw [ha,Yo]
       rw [<- hl2,show ws2.length=(ws2.map Wr.toU).length from by rw [Yb]]
       rw [Yj] at hl0
       have hne:a≠l:=neA ha hl
       refine cl_popsA ha' hl (by rw [Yb];lia) ?_
       walk_at "qd"
       refine ⟨⟨_,by rw [Zk hne,Zd]⟩,by decide,fun p hp=>?_⟩
       walk_at "qd"
       obtain ⟨k,hk3,hk⟩:=ZdO (z % 12)
       refine ⟨by decide,_,_,Zd,hk,?_⟩
       have n1:p≠l:=fun e=>by rw [e,Zd] at hp;cases hp
       refine ⟨l,_,rfl,by rw [Zk (Ne.symm n1),Zd],tup2,?_⟩
       have n2:a≠p:=fun e=>by rw [<- e,Zk hne,Zd] at hp;cases hp
       refine ⟨ws1.map Wr.toU,by rw [Zk n2,Zk hne,Zd],Zat (by rw [Yb];lia),?_⟩
       rw [ZbG,Ye] at hok0
       have n3:A p=none:=by rw [Zk n1,Zk (Ne.symm n2)] at hp;exact hp
       have:=fin (updA (updA A l (.lst (ws2.map Wr.toU).reverse)) p (.lst [.str "row",.str "bag",.str "choice",.str "ring"])) ws1 (.many k ws2) ((Ext.new hl).trans (Ext.new (by rw [Zk n1];exact n3))) hok0.1 (by rw [Yj];lia) (by simp only [Wr.gd,Ye,Yy];exact ⟨⟨hk3,by lia⟩,hok0.2⟩) (.inl (by rw [Zas];simp only [Wr.tups];lia))
       rw [YbT]
       rw [Wr.toU_many] at this
       rw [ZbM (A:=A) hne,ZbM (A:=updA A l _) n2,Zan]
       exact this
theorem ok_any:FnOk P w K mg base CX0 100 f_qr d_qr ["_law_cells"] (spOf K asp_any):=by
 have G_qs:=ok_put (P:=P) (w:=w) (base:=base) T
 refine' Fun.okA T.F_qr (sc:=?sc16) (body:=?bd16) ?hs16 ?hb16 sc_qr ?hB16 ?hS16
 case hs16=>conv=>lhs;whnf
 case hb16=>conv=>lhs;whnf
 case hB16=>exact fun S cdv A outer s H E hr=>⟨_,(Zg (ZG (i:=1) S.nd rfl (Or.inl rfl) (ZaH Ze))
   (Zg (ZcN Yan rfl (Zft (by rfl) T.n_enumerate (Za (pv 0) Ze)) (Zb7 (n:=2) rfl (ZT (Zy (i:=2) S.nd rfl (Or.inl rfl)) (ZT (Zy (i:=3) S.nd rfl (Or.inl rfl)) Za5)))
   (Zm (Za1 (Zp (G_qs.mono (by first | decide | lia)) hr (by rfl) T.M_qs T.F_qs.kp T.B_qs .nil ZZ (Za (pv 1) (Za (ZR Zbw (pv 3) (ZR o_pow Zh Zh)) (Za (ZR Zfn Zh (ZR Zfn (ZF Zbn (by rfl) T.n_len (by decide +kernel) (Za (pv 0) Ze)) (pv 2))) Ze)))))))
   (Zm (Zv (ZD (Za (ZK o_ix (ZaH (ZaU (xs:=["row","bag","choice","ring"]) rfl)) (ZR Zbw (ZF Zbn (by rfl) T.n_len (by decide +kernel) (Za (pv 0) Ze)) Zh) (fun _ _=>rfl)) (Za (Zar Za8 (by rfl) T.n_tuple (by decide +kernel) (Za (pv 1) Ze)) Ze))))))),(Zn (Zw (ZaI Zf) Zj)
   (Zn (ZcX (ZbH ZdQ (Zb Zc Zf)) (Za6 (ZU Zj (ZU Zj Zba)))
   (Za3 (Zr (Zb Zc (Zb (Zl ZaY Zc (Zl Zf0 Zi Zi)) (Zb (Zl ZcV Zi (Zl ZcV (Zah ZaF (Zb Zc Zf)) Zc)) Zf))))))
   (Zu (ZC (Zb (Zl ZJ (ZaI Za4) (Zl ZaY (Zah ZaF (Zb Zc Zf)) Zi)) (Zb (Zah ZaJ (Zb Zc Zf)) Zf))))))⟩
 rintro us A Q ⟨a,ns,rfl,ha,hk,q⟩
 refine ⟨rfl,?_⟩
 walk_at "qs"
 walk_at "qd"
 refine ⟨by decide,fun p hp=>?_⟩
 walk_at "qd"
 have hpa:a≠p:=neA ha hp
 refine ⟨⟨_,by rw [Zk hpa];exact ha⟩,?_⟩
 refine Ze3 (ns.map U.int) (fun k ρ A2=>∃ (ws:List Wr) (x y:Option U),ρ=[some (.ref a),some (.ref p),x,y]/\A2=updA A p (.lst (ws.map Wr.toU))/\gdL ws=true/\ws.length<=k/\(tupsL ws:Int)<=93 - ((ns.length:Int) - k))
  ⟨[],_,_,rfl,rfl,rfl,Yh _,by simp [tupsL];lia⟩ (fun k ρ A2 _ hq0=>by obtain ⟨_,_,_,_,e,_⟩:=hq0;rw [e,Zk hpa];exact ha) ?_ ?_
 ·rintro k u ρ A2 hu ⟨ws,x,y,rfl,rfl,hok,hwl,hb⟩
  have hkl:=(Yq.mp hu).1
  rw [Yb] at hkl
  obtain ⟨n,_,rfl⟩:=Zap hu
  walk_at "qd"
  refine ⟨rfl,⟨by decide,by decide,by decide⟩,by decide,_,by rw [Zk hpa];exact ha,?_⟩
  walk_at "qd"
  rw [Yb]
  refine ⟨p,_,_,ws,rfl,Zd,hok,YaA _ (by decide),by lia,by lia,fun ws' hok' hl' hb'=>?_⟩
  exact ⟨ws',_,_,rfl,by rw [Zan],hok',by lia,by lia⟩
 ·rintro ρ A2 ⟨ws,x,y,rfl,rfl,hok,hwl,hb⟩
  rw [Yb] at hb hwl
  walk_at "qd"
  refine ⟨by decide,fun p1 hp1=>?_⟩
  have e1:=Ext.new (o:=.lst [U.str "row",U.str "bag",U.str "choice",U.str "ring"]) hp1
  obtain ⟨k,hk3,hk2⟩:=ZdO ((ns.map U.int).length:Int)
  refine ⟨_,e1 _ _ (by rw [Zk hpa];exact ha),?_⟩
  walk_at "qd"
  refine ⟨by decide,_,_,Zd,hk2,_,e1 _ _ Zd,tup2,?_⟩
  refine fgx ((Ext.new hp).trans e1) ?_
  have:=q k ws (by simp only [Wr.gd,Ye,Yy];exact ⟨⟨hk3,by lia⟩,hok⟩) (by simp only [Wr.tups];lia) hwl
  rw [Wr.toU_many] at this
  exact this
end
noncomputable def asp_with:ASp:=fun us A Q=>∃ (w:Wr) (x:U) (ps:List U),us=[w.toU,x]/\(x=.tup ps\/∃ l,x=.ref l/\A l=some (.lst ps))/\ps.length<=1000/\(∀ c,w≠.bead c)/\Q (w.wthU ps) A
section
include T
theorem ZeR:FnOk P w K mg base CX0 1 f_qg d_qg ["_law_figure"] (spOf K Zca):=by
 refine' Fun.okA T.F_qg (sc:=?sc17) (body:=?bd17) ?hs17 ?hb17 Zg7 ?hB17 ?hS17
 case hs17=>conv=>lhs;whnf
 case hb17=>conv=>lhs;whnf
 case hB17=>exact fun S cdv A outer s H E hr=>⟨_,(Zg (Z9 (Zq (Zbi hr) (ZK o_ix (pv 0) Zh (fun _ _=>rfl)) Z0 (ZS _)) (Zm (Zv (ZD Ze))) ZA)
   (Zg (Z9 (Zq o_in (ZK o_ix (pv 0) Zh (fun _ _=>rfl)) (ZD (ZaU (xs:=["row","bag","choice","ring"]) rfl)) (by with_unfolding_all rfl)) (Zm (Zv (ZK o_ix (pv 0) Zh (fun _ _=>rfl)))) ZA)
   (Zm (Zv (ZE ZaL (pv 0) (ZM Zh) ZV))))),(Zn (ZO (Zo (Zl Zbj (Zl ZJ Zc Zi) Z1)) (Zu (ZC Zf)) Zz)
   (Zn (ZO (Zo (Zl ZbT (Zl ZJ Zc Zi) (ZC Za4))) (Zu (Zl ZJ Zc Zi)) Zz)
   (Zu (ZaG Z5 Zc (ZL Zi) Zx))))⟩
 rintro us A Q ⟨w,rfl,q⟩
 refine ⟨rfl,?_⟩
 walk_at "qs"
 rcases w.kinds with ⟨c,rfl⟩ | ⟨k,ps,rfl⟩ | hf
 ·rw [Wr.toU]
  walk_at "qd"
  exact Z8 rfl ⟨by decide,fg q⟩
 ·rw [Wr.toU_many]
  walk_at "qd"
  refine ZP (nbm k) ?_
  walk_at "qd"
  exact ⟨by decide,rfl,rfl,Z8 (ZbC k) (fg q)⟩
 ·rw [Wr.toU_few hf]
  walk_at "qd"
  refine ZP (ZbW hf.1) ?_
  walk_at "qd"
  exact ⟨by decide,rfl,rfl,ZP (Zbk hf.2) (fg q)⟩
theorem ok_with:FnOk P w K mg base CX0 1 f_qp d_qp ["_law_figure","_law_parts_here"] (spOf K asp_with):=by
 refine' Fun.okA T.F_qp (sc:=?sc18) (body:=?bd18) ?hs18 ?hb18 ZhQ ?hB18 ?hS18
 case hs18=>conv=>lhs;whnf
 case hb18=>conv=>lhs;whnf
 case hB18=>exact fun S cdv A outer s H E hr=>⟨_,(Zg (Z9 (Zq o_in (ZK o_ix (pv 0) Zh (fun _ _=>rfl)) (ZD (ZaU (xs:=["row","bag","choice","ring"]) rfl)) (by with_unfolding_all rfl)) (Zm (Zv (ZD (Za (ZK o_ix (pv 0) Zh (fun _ _=>rfl)) (Za (Zar Za8 (by rfl) T.n_tuple (by decide +kernel) (Za (pv 1) Ze)) Ze))))) ZA)
   (Zm (Zv (ZR Zaf (ZD (Za (ZK o_ix (pv 0) Zh (fun _ _=>rfl)) Ze)) (Zar Za8 (by rfl) T.n_tuple (by decide +kernel) (Za (pv 1) Ze)))))),(Zn (ZO (Zo (Zl ZbT (Zl ZJ Zc Zi) (ZC Za4))) (Zu (ZC (Zb (Zl ZJ Zc Zi) (Zb (Zah ZaJ (Zb Zc Zf)) Zf)))) Zz)
   (Zu (Zl Zag (ZC (Zb (Zl ZJ Zc Zi) Zf)) (Zah ZaJ (Zb Zc Zf)))))⟩
 rintro us A Q ⟨w,x,ps,rfl,hx,hn,hb,q⟩
 refine ⟨rfl,?_⟩
 walk_at "qs"
 have hT:∀ R:AVK,R (.tup ps) A->Zdu [x] A R:=fun R h=>by
  rcases hx with rfl | ⟨l,rfl,hl⟩
  ·exact h
  ·exact ⟨ps,hl,h⟩
 rcases w.kinds with ⟨c,rfl⟩ | ⟨k,qs,rfl⟩ | hf
 ·exact absurd rfl (hb c)
 ·rw [Wr.toU_many]
  walk_at "qd"
  refine ⟨by decide,rfl,rfl,Z8 (ZbC k) ?_⟩
  walk_at "qd"
  exact hT _ ⟨tup2,fg q⟩
 ·rw [Wr.toU_few hf]
  walk_at "qd"
  refine ⟨by decide,rfl,rfl,ZP (Zbk hf.2) ?_⟩
  walk_at "qd"
  refine ⟨tup1,hT _ ?_⟩
  walk_at "qd"
  rw [wthU_few hf] at q
  exact ⟨ZQ (by simp only [List.length_cons,List.length_nil];lia),fg q⟩
end
noncomputable def optU:Option Wr->U
 | some v=>v.toU
 | none=>.non
noncomputable def asp_top:ASp:=fun us A Q=>∃ (w:Wr) (wd:Str) (i:Int),us=[w.toU,.str wd,.int i]/\w.gd=true/\Q (optU (topAct w wd i)) A
noncomputable def asp_done (n:Nat):ASp:=fun us A Q=>∃ (w:Wr) (wd:Str) (p:List Int) (i:Int),us=[w.toU,.str wd,.tup (p.map U.int),.int i]/\w.gd=true/\w.tups<=96/\p.length < n/\Q (optU (w.act wd i p)) A
theorem many_or (w:Wr):(∃ k ps,w=.many k ps)\/∀ k ps,w≠.many k ps:=by
 cases w with
 | many k ps=>exact .inl ⟨k,ps,rfl⟩
 | _=>exact .inr fun k ps h=>by cases h
theorem nm_bcr {w:Wr} (h:∀ k ps,w≠.many k ps):inU (.str w.name) [.str "bag",.str "choice"]=false/\decide (w.name=Str.ofString "ring")=false:=by
 have key:∀ x∈[Str.ofString "nothing",Str.ofString "left",Str.ofString "right",Str.ofString "pair",Str.ofString "bead"],inU (.str x) [.str "bag",.str "choice"]=false/\decide (x=Str.ofString "ring")=false:=by decide +kernel
 cases w with
 | nothing=>exact key _ (.head _)
 | bead c=>exact key _ (.tail _ (.tail _ (.tail _ (.tail _ (.head _)))))
 | side b f =>
  cases b
  ·exact key _ (.tail _ (.head _))
  ·exact key _ (.tail _ (.tail _ (.head _)))
 | pair f g=>exact key _ (.tail _ (.tail _ (.tail _ (.head _))))
 | many k ps=>exact absurd rfl (h k ps)
section
include T
theorem ok_top : FnOk P w K mg base CX0 3 f_q9 d_q9 ["_law_figure","_law_word","_law_at"] (spOf K asp_top):=by
 have G_qg:=ZeR (P:=P) (w:=w) (base:=base) T
 refine' Fun.okA T.F_q9 (sc:=?sc19) (body:=?bd19) ?hs19 ?hb19 ZfL ?hB19 ?hS19
 case hs19=>conv=>lhs;whnf
 case hb19=>conv=>lhs;whnf
 case hB19=>exact fun S cdv A outer s H E hr=>⟨_,(Zg (ZG (i:=3) S.nd rfl (Or.inl rfl) (Zp (G_qg.mono (by first | decide | lia)) hr (by rfl) T.M_qg T.F_qg.kp T.B_qg .nil ZZ (Za (pv 0) Ze)))
   (Zg (Z9 ((Zcj (Zq (Zbi hr) (pv 1) Z0 (ZS _)) (Zcj (Zq (Zbi hr) (ZK o_ix (pv 0) Zh (fun _ _=>rfl)) Z0 (ZS _)) (Zcb (ZfP o_le o_lt Zh (pv 2) (ZF Zbn (by rfl) T.n_len (by decide +kernel) (Za (pv 3) Ze))))))).pt (Zm (Zv (ZD (Za (ZK o_ix (pv 0) Zh (fun _ _=>rfl)) (Za (ZR Zaf (ZE ZaL (pv 3) (ZM (pv 2)) ZV) (ZE ZaL (pv 3) ZV (ZM (pv 2)))) Ze))))) ZA)
   (Zg (Z9 ((Zcj (Zq (Zbi hr) (pv 1) Z0 (ZS _)) (Zcj (Zq o_in (ZK o_ix (pv 0) Zh (fun _ _=>rfl)) (ZD (Za Z0 (Za Z0 Ze))) (by with_unfolding_all rfl)) (Zcb (ZfP o_le o_lt Zh (pv 2) (ZR Zfn (ZF Zbn (by rfl) T.n_len (by decide +kernel) (Za (pv 3) Ze)) Zh)))))).pt (Zm (Zv (ZD (Za (ZK o_ix (pv 0) Zh (fun _ _=>rfl)) (Za (ZR Zaf (ZR Zaf (ZE ZaL (pv 3) ZV (ZM (pv 2))) (ZD (Za (ZK o_ix (pv 3) (ZR Zaf (pv 2) Zh) (fun _ _=>rfl)) (Za (ZK o_ix (pv 3) (pv 2) (fun _ _=>rfl)) Ze)))) (ZE ZaL (pv 3) (ZM (ZR Zaf (pv 2) Zh)) ZV)) Ze))))) ZA)
   (Zm (Zv ZcL))))),(Zn (Zw (Zr (Zb Zc Zf)) Zj)
   (Zn (Zgg (Zcq (Zo (Zl Zbj Zc Z1)) (Zcq (Zo (Zl Zbj (Zl ZJ Zc Zi) Z1)) (Zo (Zgm ab_le ZfE Zi Zc (Zah ZaF (Zb Zc Zf)))))) (Zu (ZC (Zb (Zl ZJ Zc Zi) (Zb (Zl Zag (ZaG Z5 Zc (ZL Zc) Zx) (ZaG Z5 Zc Zx (ZL Zc))) Zf)))) Zz)
   (Zn (Zgg (Zcq (Zo (Zl Zbj Zc Z1)) (Zcq (Zo (Zl ZbT (Zl ZJ Zc Zi) (ZC (Zb Z1 (Zb Z1 Zf))))) (Zo (Zgm ab_le ZfE Zi Zc (Zl ZcV (Zah ZaF (Zb Zc Zf)) Zi))))) (Zu (ZC (Zb (Zl ZJ Zc Zi) (Zb (Zl Zag (Zl Zag (ZaG Z5 Zc Zx (ZL Zc)) (ZC (Zb (Zl ZJ Zc (Zl Zag Zc Zi)) (Zb (Zl ZJ Zc Zc) Zf)))) (ZaG Z5 Zc (ZL (Zl Zag Zc Zi)) Zx)) Zf)))) Zz)
   (Zu ZcG))))⟩
 rintro us A Q ⟨w,wd,i,rfl,hg,q⟩
 refine ⟨rfl,?_⟩
 walk_at "qs"
 walk_at "qd"
 refine ⟨w,rfl,?_⟩
 rcases many_or w with ⟨k,ps,rfl⟩ | hn
 ·have hk3 : k<=3/\ps.length < 64:=by simp only [Wr.gd,Ye,Yy] at hg;exact hg.1
  rw [Wr.toU_many]
  simp only [Wr.parts]
  by_cases t1:wd="turn"/\k=3/\0<=i/\i < (ps.length:Int)
  ·refine if_yes (fun B hB=>?_) ?_
   ·walk_at "qd"
    rw [Yb]
    obtain ⟨c1,c2,c3,c4⟩:=t1
    subst c2
    refine Z8 (Yak c1) (Z8 (by decide +kernel) (Z8 (Yak c3) ?_))
    rw [Yak c4]
    exact hB
   ·obtain ⟨hw,k3,h0,hl⟩:=t1
    obtain ⟨j,rfl⟩:=YaZ h0
    walk_at "qg"
    rw [ZcD (by rw [Yb];lia),Zbp (by rw [Yb];lia)]
    refine ⟨ZQ (by simp;lia),tup2,fg ?_⟩
    have e:topAct (.many k ps) wd (j:Nat)=some (.many k (turnL ps j)):=if_pos ⟨hw,k3,h0,hl⟩
    rw [e,optU,Wr.toU_many,turnL,Yo,Yag,Yaf] at q
    exact q
  ·refine if_no (fun B hB=>?_) ?_
   ·walk_at "qd"
    rw [Yb]
    refine iteB (fun c1=>iteB (fun c2=>iteB (fun c3=>?_) fun _=>hB) fun _=>hB) fun _=>hB
    have c2:k=3:=by
     obtain h | h | h | h:k=0\/k=1\/k=2\/k=3:=by lia
     all_goals first | exact h | (subst h;revert c2;decide +kernel)
    rw [YQ fun c4=>t1 ⟨Yay c1,c2,Yay c3,c4⟩]
    exact hB
   ·walk_at "qd"
    by_cases t2:wd="swap"/\(k=1\/k=2)/\0<=i/\i < (ps.length:Int) - 1
    ·refine if_yes (fun B hB=>?_) ?_
     ·walk_at "qd"
      rw [Yb]
      obtain ⟨c1,c2,c3,c4⟩:=t2
      have c2:inU (.str (Za2 k)) [.str "bag",.str "choice"]=true:=by
       rcases c2 with h | h
       all_goals (subst h;decide +kernel)
      refine Z8 (Yak c1) ⟨tup2,rfl,rfl,Z8 c2 (Z8 (Yak c3) ?_)⟩
      rw [Yak c4]
      exact hB
     ·obtain ⟨hs,k12,h0,hl⟩:=t2
      obtain ⟨j,rfl⟩:=YaZ h0
      have hj1:j + 1 < ps.length:=by lia
      obtain ⟨x,hx⟩:∃ x,ps[j]? = some x:=⟨_,Yg (by lia)⟩
      obtain ⟨y,hy⟩:∃ y,ps[j + 1]? = some y:=⟨_,Yg hj1⟩
      have hxU:(ps.map Wr.toU)[j]? = some x.toU:=by rw [Yl,hx];rfl
      have hyU:(ps.map Wr.toU)[j + 1]? = some y.toU:=by rw [Yl,hy];rfl
      walk_at "qg"
      rw [ZcD (by rw [Yb];lia),show (j:Int) + 2=((j + 2:Nat):Int) from rfl,Zbp (by rw [Yb];lia)]
      refine ⟨_,Zam (j:=j + 1) hyU,_,Zam hxU,tup2,ZQ (by simp;lia),ZQ (by simp;lia),tup2,fg ?_⟩
      have es:swAt ps j=ps.take j++[y,x]++ps.drop (j + 2):=by
       have e1:(ps.drop (j + 1)).take 1=[y]:=by rw [List.take_one,List.head?_drop,hy];rfl
       have e2:(ps.drop j).take 1=[x]:=by rw [List.take_one,List.head?_drop,hx];rfl
       unfold swAt;rw [e1,e2];simp
      have e:topAct (.many k ps) wd (j:Nat)=some (.many k (swAt ps j)):=Zgk t1 ⟨hs,k12,h0,hl⟩
      rw [e,optU,Wr.toU_many,es] at q
      simpa using q
    ·refine if_no (fun B hB=>?_) ?_
     ·walk_at "qd"
      rw [Yb]
      refine iteB (fun c1=>⟨tup2,rfl,rfl,iteB (fun c2=>iteB (fun c3=>?_) fun _=>hB) fun _=>hB⟩) fun _=>hB
      have c2:k=1\/k=2:=by
       obtain h | h | h | h:k=1\/k=2\/k=0\/k=3:=by lia
       all_goals first | exact .inl h | exact .inr h | (subst h;revert c2;decide +kernel)
      rw [YQ fun c4=>t2 ⟨Yay c1,c2,Yay c3,c4⟩]
      exact hB
     ·walk_at "qd"
      rw [top_none t1 t2] at q
      exact fg q
 ·obtain ⟨rest,e⟩:∃ rest,w.toU=.tup (.str w.name::rest):=by
   rcases w.kinds with ⟨c,rfl⟩ | ⟨k,ps,rfl⟩ | hf
   ·exact ⟨_,rfl⟩
   ·exact absurd rfl (hn k ps)
   ·exact ⟨_,Wr.toU_few hf⟩
  have hno:topAct w wd i=none:=by
   cases w with
   | many k ps=>exact absurd rfl (hn k ps)
   | _=>rfl
  rw [hno] at q
  obtain ⟨b1,b2⟩:=nm_bcr hn
  rw [e]
  refine if_no (fun B hB=>?_) ?_
  ·walk_at "qd"
   exact iteB (fun _=>ZP b2 hB) fun _=>hB
  ·walk_at "qd"
   refine if_no (fun B hB=>?_) ?_
   ·walk_at "qd"
    exact iteB (fun _=>⟨tup2,rfl,rfl,ZP b1 hB⟩) fun _=>hB
   ·walk_at "qd"
    exact fg q
theorem ok_done : ∀ n:Nat,FnOk P w K mg base CX0 (n + 4) f_qm d_qm ["_law_figure","_law_word","_law_path_here","_law_at"] (spOf K (asp_done n)):=by
 intro n
 induction n with
 | zero=>exact ZbO T.F_qm Zey fun us A Q hq0=>by obtain ⟨w,_,_,_,_,_,_,hd,_⟩:=hq0;lia
 | succ n ih =>
  have G_qm:=ih
  have G_qg:=ZeR (P:=P) (w:=w) (base:=base) T
  have G_qp:=ok_with (P:=P) (w:=w) (base:=base) T
  have G_q9:=ok_top (P:=P) (w:=w) (base:=base) T
  refine' Fun.okA T.F_qm (sc:=?sc20) (body:=?bd20) ?hs20 ?hb20 Zey ?hB20 ?hS20
  case hs20=>conv=>lhs;whnf
  case hb20=>conv=>lhs;whnf
  case hB20=>exact fun S cdv A outer s H E hr=>⟨_,(Zg (Z9 (Zq (Zbi hr) (ZF Zbn (by rfl) T.n_len (by decide +kernel) (Za (pv 2) Ze)) Zh (ZS _)) (Zm (Zv (Zp (G_q9.mono (by first | decide | lia)) hr (by rfl) T.M_q9 T.F_q9.kp T.B_q9 .nil ZZ (Za (pv 0) (Za (pv 1) (Za (pv 3) Ze)))))) ZA)
   (Zg (ZG (i:=4) S.nd rfl (Or.inl rfl) (Zp (G_qg.mono (by first | decide | lia)) hr (by rfl) T.M_qg T.F_qg.kp T.B_qg .nil ZZ (Za (pv 0) Ze)))
   (Zg (Z9 ((Ze7 (Zq o_lt (ZK o_ix (pv 2) Zh (fun _ _=>rfl)) Zh (ZS _)) (Zdk (Zq o_ge (ZK o_ix (pv 2) Zh (fun _ _=>rfl)) (ZF Zbn (by rfl) T.n_len (by decide +kernel) (Za (pv 4) Ze)) (ZS _))))).pt (Zm (Zv ZcL)) ZA)
   (Zg (ZG (i:=5) S.nd rfl (Or.inl rfl) (Zp (G_qm.mono (by first | decide | lia)) hr (by rfl) T.M_qm T.F_qm.kp T.B_qm .nil ZZ (Za (ZK o_ix (pv 4) (ZK o_ix (pv 2) Zh (fun _ _=>rfl)) (fun _ _=>rfl)) (Za (pv 1) (Za (ZE ZaL (pv 2) (ZM Zh) ZV) (Za (pv 3) Ze))))))
   (Zg (Z9 (Zq Zis (pv 5) ZcL (ZS _)) (Zm (Zv ZcL)) ZA)
   (Zm (Zv (Zp (G_qp.mono (by first | decide | lia)) hr (by rfl) T.M_qp T.F_qp.kp T.B_qp .nil ZZ (Za (pv 0) (Za (ZR Zaf (ZR Zaf (ZE ZaL (pv 4) ZV (ZM (ZK o_ix (pv 2) Zh (fun _ _=>rfl)))) (ZD (Za (pv 5) Ze))) (ZE ZaL (pv 4) (ZM (ZR Zaf (ZK o_ix (pv 2) Zh (fun _ _=>rfl)) Zh)) ZV)) Ze)))))))))),(Zn (ZO (Zo (Zl Zbj (Zah ZaF (Zb Zc Zf)) Zi)) (Zu (Zr (Zb Zc (Zb Zc (Zb Zc Zf))))) Zz)
   (Zn (Zw (Zr (Zb Zc Zf)) Zj)
   (Zn (ZO (Ze5 (Zo (Zl ZfE (Zl ZJ Zc Zi) Zi)) (Zo (Zl ab_ge (Zl ZJ Zc Zi) (Zah ZaF (Zb Zc Zf))))) (Zu ZcG) Zz)
   (Zn (Zw (Zr (Zb (Zl ZJ Zc (Zl ZJ Zc Zi)) (Zb Zc (Zb (ZaG Z5 Zc (ZL Zi) Zx) (Zb Zc Zf))))) Zj)
   (Zn (ZO (Zo (Zl Ziu Zc ZcG)) (Zu ZcG) Zz)
   (Zu (Zr (Zb Zc (Zb (Zl Zag (Zl Zag (ZaG Z5 Zc Zx (ZL (Zl ZJ Zc Zi))) (ZC (Zb Zc Zf))) (ZaG Z5 Zc (ZL (Zl Zag (Zl ZJ Zc Zi) Zi)) Zx)) Zf)))))))))⟩
  rintro us A Q ⟨w,wd,p,i,rfl,hg,ht,hn,q⟩
  refine ⟨rfl,?_⟩
  walk_at "qs"
  walk_at "qd"
  rw [Yb]
  cases p with
  | nil=>exact Z8 rfl ⟨w,wd,i,rfl,hg,fg q⟩
  | cons k p =>
   refine ZP (YQ (by simp only [List.length_cons];lia)) ⟨w,rfl,?_⟩
   rw [YE]
   have hno:w.prt k=none->Q .non A:=fun h=>by
    have e:w.act wd i (k::p)=none:=by show (match w.prt k with | some v=>(v.act wd i p).map (w.setP k) | none=>none)=_;rw [h]
    rw [e] at q;exact q
   walk_at "qd"
   by_cases h0:k < 0
   ·refine Z8 (Yak h0) ?_
    walk_at "qd"
    exact fg (hno (by unfold Wr.prt;rw [if_neg (by lia)]))
   ·refine ZP (YQ h0) ?_
    rw [Yb]
    by_cases hl:(w.parts.length:Int)<=k
    ·exact Z8 (Yak hl) (fg (hno (by unfold Wr.prt;rw [if_neg (by lia)])))
    ·refine ZP (YQ hl) ?_
     obtain ⟨j,rfl⟩:=YaZ (show 0<=k by lia)
     have hj:j < w.parts.length:=by lia
     obtain ⟨v,hv⟩:∃ v,w.parts[j]? = some v:=⟨_,Yg hj⟩
     have hvU:(w.parts.map Wr.toU)[j]? = some v.toU:=by rw [Yl,hv];rfl
     have hvm:=YG hv
     have hpt:=w.parts_tups
     have hvt:=Zal hvm
     have hpl:=ZaE w.parts
     have hwb:∀ c,w≠.bead c:=fun c h=>by subst h;simp [Wr.parts] at hj
     have e:w.act wd i ((j:Int)::p)=(v.act wd i p).map (w.setP j):=by show (match w.prt j with | some v=>(v.act wd i p).map (w.setP j) | none=>none)=_;rw [ZhV hv]
     rw [e] at q
     walk_at "qg"
     refine ⟨_,Zam hvU,v,wd,p,i,rfl,Zbh (w.gd_parts hg).1 hvm,by lia,by simp only [List.length_cons] at hn;lia,?_⟩
     cases hr:v.act wd i p with
     | none =>
      rw [hr] at q
      exact Z8 rfl (fg q)
     | some x =>
      rw [hr] at q
      obtain ⟨xs,ex⟩:=x.toU_tup
      simp only [optU]
      refine ZP (by rw [ex];rfl) ?_
      walk_at "qg"
      rw [ZcD (by rw [Yb];lia),show (j:Int) + 1=((j + 1:Nat):Int) from rfl,Zbp (by rw [Yb];lia)]
      refine ⟨tup1,ZQ (by simp;lia),ZQ (by simp;lia),w,_,_,rfl,.inl rfl,by simp;lia,hwb,fg ?_⟩
      have es:(w.setP j x).toU=w.wthU ((w.parts.map Wr.toU).take j++[x.toU]++(w.parts.map Wr.toU).drop (j + 1)):=by
       unfold Wr.setP
       rw [wth_toU hwb (by rw [Yaz])]
       congr 1
       rw [Int.toNat_natCast,List.set_eq_take_append_cons_drop,if_pos hj,Yo,YE,Yaf,Yag]
       simp
      rw [<- es]
      exact q
end
theorem i_add {X:Cx}:PIp X .Add (ipI fun i j=>i + j):=ip_add
theorem ZfY {K:YFr}:AbR K (ipI fun i j=>i + j) (xI fun i j=>.int (i + j)):=fun x y u w A H Q' Q hu hw g h k=>by
 unfold xI at h
 split at h
 ·cases hu;cases hw
  exact ⟨_,_,rfl,rfl,k _ _ _ _ (.refl H) g (.int _) h⟩
 ·exact h.elim
noncomputable def whM (W:Nat->ASt->AHp->Prop) (b:AS) (D:ZbS) (m:Nat) (ρ:ASt) (A1:AHp):Prop:=∃ N:ASt->AHp->Prop,(∀ ρ' A',N ρ' A'->∃ m',m' < m/\W m' ρ' A')/\b { D with nx:=N,ct:=N,bk:=D.nx } ρ A1
theorem ZhA {W:Nat->ASt->AHp->Prop} {b:AS} {D:ZbS} {m:Nat} {ρ:ASt} {A:AHp} (h:b { D with nx:=fun ρ' A'=>∃ m',m' < m/\W m' ρ' A',ct:=fun ρ' A'=>∃ m',m' < m/\W m' ρ' A',bk:=D.nx } ρ A):whM W b D m ρ A:=⟨_,fun _ _ h=>h,h⟩
theorem ZfF {c:AT} {b:AS} {D:ZbS} {ρ:ASt} {A:AHp} (W:Nat->ASt->AHp->Prop) (m:Nat) (h0:W m ρ A) (hs:∀ m ρ A,W m ρ A->c ρ A fun k A1=>if k=true then whM W b D m ρ A1 else D.nx ρ A1):Zi4 c b D ρ A:=⟨W,⟨m,h0⟩,hs⟩
theorem q_neK {w v:Wr} {A:AHp} {Q:AVK}:(xNe w.keyU v.keyU A Q)=(Zbg true w.keyU v.keyU A Q):=by
 obtain ⟨a,e⟩:=w.keyU_tup
 obtain ⟨b,e'⟩:=v.keyU_tup
 rw [e,e'];rfl
theorem neK {w v:Wr} {A:AHp} {Q:AVK} (h1:w.ok=true) (h2:v.ok=true) (hd:w.dep<=189) (h:Q (.bl (!w.like v)) A):Zbg true w.keyU v.keyU A Q :=
 ⟨w.keyD,v.keyD,w.duK,v.duK,w.canK h1,v.canK h2,YH w.deepK (by lia),by rw [if_pos rfl,w.eqvK];exact h⟩
theorem lineB {n:Nat} (h:n<=100000):n<=sizeLine:=YH h (by decide)
noncomputable def mU (m:Str × Int):U:=.tup [.str m.1,.int m.2]
noncomputable def kU (w:Wr):U:=.tup [w.pl.keyU,w.toU]
/-- the moves,and the parts behind them -/
noncomputable def Mvd (k:Nat) (ps gs rs:List Wr) (ms:List (Str × Int)):Prop:=topW (.many k ps) ms=some (.many k rs)/\rs.map Wr.pl=gs.map Wr.pl/\rs.Perm ps/\ms.length + rs.length<=rs.length * rs.length
noncomputable def Few (ps:List Wr):Prop:=gdL ps=true/\tupsL ps<=96/\depL ps<=95/\ps.length<=64
theorem Few.mem {ps:List Wr} {w:Wr} (h:Few ps) (hw:w∈ps):w.gd=true/\w.tups<=96/\w.dep<=95:=by
 obtain ⟨h1,h2,h3,_⟩:=h
 have:=Zal hw
 have:=ZaS hw
 exact ⟨Zbh h1 hw,by lia,by lia⟩
theorem Few.ok {ps:List Wr} {w:Wr} (h:Few ps) (hw:w∈ps):okW w:=by
 obtain ⟨h1,h2,h3⟩:=h.mem hw
 exact ZiD h1 h2 h3
theorem pour_lst {α β:Type} (F:α->β) (p m s:List α) (x:α):insL (((p++m++x::s).map F).eraseIdx (p.length + m.length)) p.length (F x)=(p++x::m++s).map F:=by
 have e:(p++m++x::s).eraseIdx (p.length + m.length)=p++(m++s):=by
  rw [List.eraseIdx_append_of_length_le (by rw [Yj];exact Yh _),Yj,Yci,List.eraseIdx_cons_zero,YM]
 rw [er_map,e,ins_map]
 congr 1
 unfold insL
 rw [List.take_left,List.drop_left,YM]
 rfl
theorem ZhB {w v:Wr} (hw:w.ok=true) (h:(!w.like v)=true):w≠v:=fun e=>by
 subst e
 rw [w.like_self hw] at h
 cases h
noncomputable def PourI (A:AHp) (l1 l2 l3:Addr) (k:Nat) (ps gs:List Wr) (j:Nat) (ρ:ASt) (A2:AHp):Prop:=Ext A A2/\A2 l3=some (.lst (gs.map fun w=>w.pl.keyU))/\∃ (zs:List Wr) (ms:List (Str × Int)) (r4 r5 r6:Option U),ρ=[some (.tup (ps.map Wr.toU)),some (.tup (gs.map Wr.toU)),some (.ref l1),some (.ref l2),r4,r5,r6]/\A2 l1=some (.lst (zs.map kU))/\A2 l2=some (.lst (ms.map mU))/\zs.Perm ps/\(zs.map Wr.pl).take j=(gs.map Wr.pl).take j/\topW (.many k ps) ms=some (.many k zs)/\ms.length<=j * (ps.length - 1)
noncomputable def PourW (A2:AHp) (l1 l2:Addr) (ps gs zs:List Wr) (g:Wr) (j mm:Nat) (ρ:ASt) (A3:AHp):Prop:=A3=A2/\∃ f:Nat,mm=100 - f/\ρ=[some (.tup (ps.map Wr.toU)),some (.tup (gs.map Wr.toU)),some (.ref l1),some (.ref l2),some (.int j),some g.pl.keyU,some (.int f)]/\j<=f/\∃ i,f<=i/\(zs.map Wr.pl)[i]? = some g.pl
noncomputable def asp_pour (t:Addr):ASp:=fun us A Q=>∃ (k:Nat) (ps gs:List Wr),us=[.tup (ps.map Wr.toU),.tup (gs.map Wr.toU)]/\(k=1\/k=2)/\Few ps/\Few gs/\(ps.map Wr.pl).Perm (gs.map Wr.pl)/\Cp t A /\
 ∀ (l l2:Addr) (ms:List (Str × Int)) (rs:List Wr) (A':AHp),Ext A A'->A l=none->A l2=none->A' l=some (.lst (ms.map mU))->A' l2=some (.lst (rs.map Wr.toU))->Mvd k ps gs rs ms->Q (.tup [.ref l,.ref l2]) A'
section
include T
theorem ok_pour (hBA_qb:base.BuiltinsAt mg t_qb):FnOk P w K mg base CX0 11 f_q1 d_q1 ["parts","goals"] (spOf K (asp_pour t_qb)):=by
 have G_q6:=ZbN (P:=P) (w:=w) (base:=base) T hBA_qb
 refine' Fun.okA T.F_q1 (sc:=?sc21) (body:=?bd21) ?hs21 ?hb21 ZcQ ?hB21 ?hS21
 case hs21=>conv=>lhs;whnf
 case hb21=>conv=>lhs;whnf
 case hB21=>exact fun S cdv A outer s H E hr=>⟨_,(Zg (Zce (i:=2) S.nd rfl (Or.inl rfl) (by with_unfolding_all rfl) (ts:=["part"]) (frs':=[]) (cl:=[]) rfl ⟨rfl,rfl,(by decide +kernel),(by decide +kernel),(fun _ z=>nomatch z),(ZN rfl rfl),(fun _ z=>nomatch z)⟩ (ZaC (pv 0)) (fun _ _ _ _=>Zy (i:=0) nd1 rfl (Or.inl rfl) (.inr rfl)) (fun _ _ _ _=>ZW) (fun _ _ _ _=>by exact (ZD (Za (Zp (G_q6.mono (by first | decide | lia)) hr (by rfl) T.M_q6 T.F_q6.kp T.B_q6 .nil ZZ (Za (pv 0) Ze)) (Za (pv 0) Ze)))))
   (Zg (ZG (i:=3) S.nd rfl (Or.inl rfl) (ZaH Ze))
   (Zg (ZcN Yan rfl (Zft (by rfl) T.n_enumerate (Za (Zaw (ts:=["part"]) (frs':=[]) (cl:=[]) rfl ⟨rfl,rfl,(by decide +kernel),(by decide +kernel),(fun _ z=>nomatch z),(ZN rfl rfl),(fun _ z=>nomatch z)⟩ (ZaC (pv 1)) (fun _ _ _ _=>Zy (i:=0) nd1 rfl (Or.inl rfl) (.inr rfl)) (fun _ _ _ _=>ZW) (fun _ _ _ _=>by exact (Zp (G_q6.mono (by first | decide | lia)) hr (by rfl) T.M_q6 T.F_q6.kp T.B_q6 .nil ZZ (Za (pv 0) Ze)))) Ze)) (Zb7 (n:=2) rfl (ZT (Zy (i:=4) S.nd rfl (Or.inl rfl)) (ZT (Zy (i:=5) S.nd rfl (Or.inl rfl)) Za5)))
   (Zg (ZG (i:=6) S.nd rfl (Or.inl rfl) (pv 4))
   (Zg (Zcx Yan (Zq (Zg8 hr) (ZK o_ix (ZK o_ix (pv 2) (pv 6) (fun _ _=>rfl)) Zh (fun _ _=>rfl)) (pv 5) (ZS _)) (Zm (ps_aug (i:=6) S.nd rfl (Or.inl rfl) Zh i_add)))
   (Zg (Za1 (ZbK Yu PySem.F.slot_list_insert PySem.F.type_list_insert ZiT (pv 2) (Za (pv 4) (Za (ZbK Yu Yal Yam Zf8 (pv 2) (Za (pv 6) Ze)) Ze))))
   (Zm (Za1 (ZbK Yu Ybw Ybx Zfm (pv 3) (Za (Zaw (ts:=["i"]) (frs':=[]) (cl:=[]) rfl ⟨rfl,rfl,(by decide +kernel),(by decide +kernel),(fun _ z=>nomatch z),(ZN rfl rfl),(fun _ z=>nomatch z)⟩ (ZhC rfl T.n_range (Za (ZR Zfn (pv 6) Zh) (Za (ZR Zfn (pv 4) Zh) (Za (pe_un un_neg Zh) Ze)))) (fun _ _ _ _=>Zy (i:=0) nd1 rfl (Or.inl rfl) (.inr rfl)) (fun _ _ _ _=>ZW) (fun _ _ _ _=>by exact (ZD (Za Z0 (Za (pv 0) Ze))))) Ze))))))))
   (Zm (Zv (ZD (Za (pv 3) (Za (Zaw (ts:=["key","part"]) (frs':=[]) (cl:=[]) rfl ⟨rfl,rfl,(by decide +kernel),(by decide +kernel),(fun _ z=>nomatch z),(ZN rfl rfl),(fun _ z=>nomatch z)⟩ (ZaC (pv 2)) (fun _ _ _ _=>Zdc K rfl 2 rfl (ZT (Zy (i:=0) (show List.Nodup (["key","part"]:List Str) from by decide +kernel) rfl (Or.inl rfl) (.inr rfl)) (ZT (Zy (i:=1) (show List.Nodup (["key","part"]:List Str) from by decide +kernel) rfl (Or.inl rfl) (.inr rfl)) Za5)) (by rfl) (by rfl)) (fun _ _ _ _=>ZW) (fun _ _ _ _=>by exact (pv 1))) Ze)))))))),(Zn (Zw (Z4 (ZaD Zaj Zc) Zj Z7 (ZC (Zb (Zr (Zb Zc Zf)) (Zb Zc Zf)))) Zj)
   (Zn (Zw (ZaI Zf) Zj)
   (Zn (ZcX (ZbH ZdQ (Zb (Z4 (ZaD Zaj Zc) Zj Z7 (Zr (Zb Zc Zf))) Zf)) (Za6 (ZU Zj (ZU Zj Zba)))
   (Zn (Zw Zc Zj)
   (Zn (Zcy (Zo (Zl ZgI (Zl ZJ (Zl ZJ Zc Zc) Zi) Zc)) (ab_aug Zi ZfY))
   (Zn (Za3 (ZbR Z2 ab_mins Zc (Zb Zc (Zb (ZbR Z2 Zi0 Zc (Zb Zc Zf)) Zf))))
   (Za3 (ZbR Z2 Zd2 Zc (Zb (Z4 (ab_jrng3 (Zb (Zl ZcV Zc Zi) (Zb (Zl ZcV Zc Zi) (Zb (ab_un ab_neg Zi) Zf)))) Zj Z7 (ZC (Zb Z1 (Zb Zc Zf)))) Zf)))))))
   (Zu (ZC (Zb Zc (Zb (Z4 (ZaD Zaj Zc) (Za6 (ZU Zj (ZU Zj Zba))) Z7 Zc) Zf)))))))⟩
 rintro us A Q ⟨k,ps,gs,rfl,hk,fp,fq,hpm,hC,q⟩
 refine ⟨rfl,?_⟩
 walk_at "qs"
 walk_at "qd"
 intro l1 hl1
 walk_at "qc"
 refine ZaV ps Wr.toU kU hl1 (by have:=fp.2.2.2;lia) (fun _ _ _ _=>rfl) (fun x A2 hx he Cy hc=>?_) ?_
 ·walk_at "qd"
  refine ⟨x,rfl,fp.ok hx,he _ _ hC,?_⟩
  walk_at "qd"
  exact ⟨tup2,hc⟩
 walk_at "qd"
 refine ⟨by decide,fun l2 hl2 l3 hl3=>?_⟩
 have n12:l1≠l2:=neA Zd hl2
 have e1:Ext A (updA (updA A l1 (.lst (ps.map kU))) l2 (.lst [])):=(Ext.new hl1).trans (Ext.new hl2)
 have a1:(updA (updA A l1 (.lst (ps.map kU))) l2 (.lst [])) l1=some (.lst (ps.map kU)):=by rw [Zk n12,Zd]
 have a2:(updA (updA A l1 (.lst (ps.map kU))) l2 (.lst [])) l2=some (.lst []):=Zd
 generalize updA (updA A l1 (.lst (ps.map kU))) l2 (.lst [])=A0 at hl3 e1 a1 a2 ⊢
 refine ZaV gs Wr.toU (fun w=>w.pl.keyU) hl3 (by have:=fq.2.2.2;lia) (fun _ _ _ _=>rfl) (fun x A2 hx he Cy hc=>?_) ?_
 ·walk_at "qd"
  exact ⟨x,rfl,fq.ok hx,he _ _ (e1 _ _ hC),hc⟩
 have hl2':A l2=none:=by
  rw [Zk n12.symm] at hl2;exact hl2
 have n13:l1≠l3:=neA a1 hl3
 have n23:l2≠l3:=neA a2 hl3
 replace e1:=e1.trans (Ext.new (o:=.lst (gs.map fun w=>w.pl.keyU)) hl3)
 replace a1:=Ext.new (o:=.lst (gs.map fun w=>w.pl.keyU)) hl3 _ _ a1
 replace a2:=Ext.new (o:=.lst (gs.map fun w=>w.pl.keyU)) hl3 _ _ a2
 have a3:(updA A0 l3 (.lst (gs.map fun w=>w.pl.keyU))) l3=some (.lst (gs.map fun w=>w.pl.keyU)):=Zd
 generalize updA A0 l3 (.lst (gs.map fun w=>w.pl.keyU))=A1 at e1 a1 a2 a3 ⊢
 walk_at "qd"
 have hlen:ps.length=gs.length:=by have:=hpm.length_eq;rwa [Yb,Yb] at this
 have hl64:=fp.2.2.2
 refine ⟨⟨_,a3⟩,Ze3 (gs.map fun w=>w.pl.keyU) (PourI A l1 l2 l3 k ps gs)
  ⟨e1,a3,ps,[],_,_,_,rfl,a1,a2,List.Perm.refl _,rfl,rfl,YY _⟩ (fun j ρ A2 _ h=>h.2.1) (fun j u ρ A2 hu h=>?_) (fun ρ A2 h=>?_)⟩
 ·obtain ⟨e2,b3,zs,ms,r4,r5,r6,rfl,b1,b2,hzp,htk,htw,hml⟩:=h
  obtain ⟨g,hg,rfl⟩:=Zap hu
  walk_at "qd"
  have hj:=(Yq.mp hg).1
  have hzl:=hzp.length_eq
  obtain ⟨j0,hj0,hz0⟩:=next_in (zs:=zs.map Wr.pl) (gs:=gs.map Wr.pl) (n:=j) (g:=g.pl) ((hzp.map _).trans hpm) htk (by rw [Yl,hg];rfl)
  refine ⟨rfl,ZfF (PourW A2 l1 l2 ps gs zs g j) _ ⟨rfl,j,rfl,rfl,Yh _,j0,hj0,hz0⟩ ?_⟩
  rintro mm ρ A3 ⟨rfl,f,rfl,rfl,hjf,i,hfi,hi⟩
  have hil:=(Yq.mp hi).1
  rw [Yb] at hil
  obtain ⟨x,hx⟩:∃ x,zs[f]? = some x:=⟨_,Yg (by lia)⟩
  have hxk:(zs.map kU)[f]? = some (kU x):=by rw [Yl,hx];rfl
  obtain ⟨x1,x2,x3⟩:=fp.mem (hzp.mem_iff.mp (YG hx))
  obtain ⟨y1,y2,y3⟩:=fq.mem (YG hg)
  have hpx:=x.pl_gd x1
  have hpg:=g.pl_gd y1
  have hxd:=x.pl_dep
  walk_at "qd"
  refine ⟨_,_,b1,Zam hxk,?_⟩
  show xIx (.tup [x.pl.keyU,x.toU]) (.int 0) A3 _
  walk_at "qg"
  rw [q_neK]
  refine neK (x.pl.gd_ok hpx) (g.pl.gd_ok hpg) (by lia) ⟨_,rfl,iteB (fun hb=>?_) fun hb=>?_⟩
  ·refine ZhA ?_
   walk_at "qd"
   have hne:=ZhB (x.pl.gd_ok hpx) hb
   refine ⟨_,?_,rfl,f + 1,rfl,by push_cast;rfl,by lia,i,?_,hi⟩
   ·lia
   ·rcases Nat.lt_or_eq_of_le hfi with h | h
    ·exact h
    ·subst h
     rw [Yl,hx] at hi
     exact absurd (Y3 hi) hne
  ·have hlk:x.pl.like g.pl=true:=by simpa using hb
   have hpe:=x.pl.like_eq g.pl (x.pl.gd_nrm hpx) (g.pl.gd_nrm hpg) hlk
   obtain ⟨p,m,s,rfl,hp1,hm1,hp2⟩:=cut_at hjf hx
   have hzl':=hzl
   simp only [Yj,List.length_cons] at hzl'
   walk_at "qd"
   have hA:updA (updA A3 l1 (.lst (((p++m++x::s).map kU).eraseIdx ((f:Int)).toNat))) l1 (.lst (insL (((p++m++x::s).map kU).eraseIdx ((f:Int)).toNat) ((j:Int)).toNat (kU x)))=updA A3 l1 (.lst ((p++x::m++s).map kU)):=by
    rw [Zan,Int.toNat_natCast,Int.toNat_natCast,<- pour_lst kU p m s x,hp1,hm1,show j + (f - j)=f by lia]
   have c2:(updA A3 l1 (.lst ((p++x::m++s).map kU))) l2=some (.lst (ms.map mU)):=by rw [Zk n12.symm];exact b2
   refine ⟨⟨_,b1⟩,⟨_,b1⟩,_,kU x,b1,by lia,by rw [Yb];lia,by rw [Yb];lia,by rw [Int.toNat_natCast];exact hxk,_,Zd,by lia,?_,?_,?_⟩
   ·rw [Yb7 (by rw [Yb,Int.toNat_natCast];lia),Yb];lia
   ·rw [Yb7 (by rw [Yb,Int.toNat_natCast];lia),Yb];lia
   rw [hA]
   refine ⟨⟨_,c2⟩,trivial,⟨by lia,by lia,by lia,by lia⟩,fun l4 hl4=>?_⟩
   have c1:(updA A3 l1 (.lst ((p++x::m++s).map kU))) l1=some (.lst ((p++x::m++s).map kU)):=Zd
   have c3:(updA A3 l1 (.lst ((p++x::m++s).map kU))) l3=some (.lst (gs.map fun w=>w.pl.keyU)):=by rw [Zk n13.symm];exact b3
   have e3:Ext A (updA A3 l1 (.lst ((p++x::m++s).map kU))):=fun b o hb=>by rw [Zk (neA hb hl1)];exact e2 _ _ hb
   generalize updA A3 l1 (.lst ((p++x::m++s).map kU))=A4 at c1 c2 c3 e3 hl4 ⊢
   rw [show ((f:Int) - 1 - ((j:Int) - 1)).toNat=f - j by lia]
   walk_at "qc"
   refine ZaV (List.range (f - j)) (fun (i:Nat)=>U.int ((f:Int) - 1 - (i:Int))) (fun (i:Nat)=>mU (("swap":Str),(f:Int) - 1 - (i:Int))) hl4 (by rw [Yax];lia) (fun _ _ _ _=>rfl) (fun y A5 hy he Cy hc=>?_) ?_
   ·walk_at "qd"
    exact ⟨tup2,hc⟩
   walk_at "qd"
   have hw:(List.range (f - j)).map (fun (i:Nat)=>mU (("swap":Str),(f:Int) - 1 - (i:Int)))=(Zea (f - j) f).map mU:=by unfold Zea;rw [YT];rfl
   rw [hw]
   have hdl:(Zea (f - j) f).length=f - j:=by unfold Zea;rw [Yb,Yax]
   have n14:l1≠l4:=neA c1 hl4
   have n24:l2≠l4:=neA c2 hl4
   have n34:l3≠l4:=neA c3 hl4
   have hb1:j * (ps.length - 1)<=64 * 63:=YbA (by lia) (by lia)
   refine ⟨ms.map mU,_,by rw [Zk n24];exact c2,Zd,lineB (by rw [Yb,Yb];lia),fun b o hb=>?_,?_,p++x::m++s,ms++Zea (f - j) f,_,_,_,rfl,?_,by rw [Zd,Yo],?_,?_,?_,?_⟩
   ·rw [Zk (neA hb hl2'),Zk (neA (e3 _ _ hb) hl4)];exact e3 _ _ hb
   ·rw [Zk n23.symm,Zk n34];exact c3
   ·rw [Zk n12,Zk n14];exact c1
   ·refine List.Perm.trans ?_ hzp
    rw [YM,YM,List.cons_append]
    exact (YdI.symm).append_left p
   ·have e1:(p++x::m++s).map Wr.pl=p.map Wr.pl++(x.pl::(m++s).map Wr.pl):=by simp
    have e2:(gs.map Wr.pl).take (j + 1)=(gs.map Wr.pl).take j++[g.pl]:=by rw [YbZ,Yl,hg];rfl
    have e3:(p++m++x::s).map Wr.pl=p.map Wr.pl++(m++x::s).map Wr.pl:=by rw [YM,Yo]
    have hpl:(p.map Wr.pl).length=j:=by rw [Yb,hp1]
    rw [e3,List.take_left' hpl] at htk
    rw [e1,e2,<- htk,List.take_append,hpl,Yao (by lia),show j + 1 - j=1 by lia,<- hpe]
    rfl
   ·rw [Zgi htw]
    have:=ZiR hk p x (f - j) m s hm1
    rw [hp1,show j + (f - j)=f by lia] at this
    exact this
   ·rw [Yj,hdl,Nat.succ_mul]
    lia
 ·obtain ⟨e2,b3,zs,ms,r4,r5,r6,rfl,b1,b2,hzp,htk,htw,hml⟩:=h
  rw [Yb] at htk hml
  rw [Yao (by rw [Yb,hzp.length_eq];lia),Yao (by rw [Yb];lia)] at htk
  walk_at "qd"
  refine ⟨⟨_,b1⟩,fun l5 hl5=>?_⟩
  walk_at "qc"
  refine Zbr (zs.map kU) (zs.map Wr.toU) (by rw [Yb,Yb]) hl5 (by rw [Yb,hzp.length_eq];lia) (fun i A3 _ he=>⟨_,he _ _ b1,rfl⟩) (fun i u y A3 hu hy he=>?_) ?_
  ·obtain ⟨x,hx,rfl⟩:=Zap hu
   rw [Yl,hx] at hy
   cases hy
   refine ⟨_,_,rfl,fun Cy hc=>?_⟩
   walk_at "qd"
   exact hc
  ·refine ⟨tup2,fg (q l2 l5 ms zs _ (e2.trans (Ext.new hl5)) hl2' (e2.none hl5) (by rw [Zk (neA b2 hl5)];exact b2) Zd ⟨htw,htk,hzp,?_⟩)⟩
   have hzl:=hzp.length_eq
   rw [hzl]
   rw [<- hlen] at hml
   have:ps.length * ps.length=ps.length * (ps.length - 1) + ps.length:=by
    cases ps.length with
    | zero=>rfl
    | succ n=>rw [Ydi,Nat.mul_succ]
   lia
end
theorem kd_likeP (vs us:List Wr):PyData.eqv (.list (vs.map Wr.keyD)) (.list (us.map Wr.keyD))=Zbs vs us:=by
 rw [<- Zbq,<- Zbq,<- eqvKL vs us]
 simp only [PyData.eqv]
theorem kDUs {A:AHp}:∀ vs:List Wr,DUs A (vs.map Wr.keyU) (vs.map Wr.keyD)
 | []=>.nil
 | v::vs=>.cons v.duK (kDUs vs)
noncomputable def BegI (A1:AHp) (l1 l2:Addr) (ps gs qs:List Wr) (mm:Nat) (ρ:ASt) (A2:AHp):Prop:=Ext A1 A2/\∃ f:Nat,mm=100 - f/\ρ=[some (.tup (ps.map Wr.toU)),some (.tup (gs.map Wr.toU)),some (.ref l1),some (.ref l2),some (.int f),none]/\∃ i,f<=i/\(i < ps.length\/i=0)/\turnL qs i=gs.map Wr.pl
noncomputable def ZiU (t:Addr):ASp:=fun us A Q=>∃ ps gs:List Wr,us=[.tup (ps.map Wr.toU),.tup (gs.map Wr.toU)]/\Few ps/\Few gs/\(∃ r,(r < ps.length\/r=0)/\turnL (ps.map Wr.pl) r=gs.map Wr.pl)/\Cp t A /\
 ∀ (l:Addr) (ms:List (Str × Int)) (rs:List Wr) (A':AHp),Ext A A'->A l=none->A' l=some (.lst (ms.map mU))->Mvd 3 ps gs rs ms->Q (.tup [.ref l,.tup (rs.map Wr.toU)]) A'
section
include T
theorem ok_begun (hBA_qb:base.BuiltinsAt mg t_qb):FnOk P w K mg base CX0 11 f_q4 d_q4 ["parts","goals"] (spOf K (ZiU t_qb)):=by
 have G_q6:=ZbN (P:=P) (w:=w) (base:=base) T hBA_qb
 refine' Fun.okA T.F_q4 (sc:=?sc22) (body:=?bd22) ?hs22 ?hb22 Zdf ?hB22 ?hS22
 case hs22=>conv=>lhs;whnf
 case hb22=>conv=>lhs;whnf
 case hB22=>exact fun S cdv A outer s H E hr=>⟨_,(Zg (Zce (i:=2) S.nd rfl (Or.inl rfl) (by with_unfolding_all rfl) (ts:=["part"]) (frs':=[]) (cl:=[]) rfl ⟨rfl,rfl,(by decide +kernel),(by decide +kernel),(fun _ z=>nomatch z),(ZN rfl rfl),(fun _ z=>nomatch z)⟩ (ZaC (pv 0)) (fun _ _ _ _=>Zy (i:=0) nd1 rfl (Or.inl rfl) (.inr rfl)) (fun _ _ _ _=>ZW) (fun _ _ _ _=>by exact (Zp (G_q6.mono (by first | decide | lia)) hr (by rfl) T.M_q6 T.F_q6.kp T.B_q6 .nil ZZ (Za (pv 0) Ze))))
   (Zg (Zce (i:=3) S.nd rfl (Or.inl rfl) (by with_unfolding_all rfl) (ts:=["part"]) (frs':=[]) (cl:=[]) rfl ⟨rfl,rfl,(by decide +kernel),(by decide +kernel),(fun _ z=>nomatch z),(ZN rfl rfl),(fun _ z=>nomatch z)⟩ (ZaC (pv 1)) (fun _ _ _ _=>Zy (i:=0) nd1 rfl (Or.inl rfl) (.inr rfl)) (fun _ _ _ _=>ZW) (fun _ _ _ _=>by exact (Zp (G_q6.mono (by first | decide | lia)) hr (by rfl) T.M_q6 T.F_q6.kp T.B_q6 .nil ZZ (Za (pv 0) Ze))))
   (Zg (ZG (i:=4) S.nd rfl (Or.inl rfl) Zh)
   (Zg (Zcx Yan (Zq (Zg8 hr) (ZR Zaf (ZE ZaL (pv 2) (ZM (pv 4)) ZV) (ZE ZaL (pv 2) ZV (ZM (pv 4)))) (pv 3) (ZS _)) (Zm (ps_aug (i:=4) S.nd rfl (Or.inl rfl) Zh i_add)))
   (Zg (ZG (i:=5) S.nd rfl (Or.inl rfl) (pe_ifExp (Zq (Zbi hr) (pv 4) Zh (ZS _)) (ZaH Ze) (ZaH (Za (ZD (Za Z0 (Za (pv 4) Ze))) Ze))))
   (Zm (Zv (ZD (Za (pv 5) (Za (ZR Zaf (ZE ZaL (pv 0) (ZM (pv 4)) ZV) (ZE ZaL (pv 0) ZV (ZM (pv 4)))) Ze)))))))))),(Zn (Zw (Z4 (ZaD Zaj Zc) Zj Z7 (Zr (Zb Zc Zf))) Zj)
   (Zn (Zw (Z4 (ZaD Zaj Zc) Zj Z7 (Zr (Zb Zc Zf))) Zj)
   (Zn (Zw Zi Zj)
   (Zn (Zcy (Zo (Zl ZgI (Zl Zag (ZaG Z5 Zc (ZL Zc) Zx) (ZaG Z5 Zc Zx (ZL Zc))) Zc)) (ab_aug Zi ZfY))
   (Zn (Zw (ab_if (Zo (Zl Zbj Zc Zi)) (ZaI Zf) (ZaI (Zb (ZC (Zb Z1 (Zb Zc Zf))) Zf))) Zj)
   (Zu (ZC (Zb Zc (Zb (Zl Zag (ZaG Z5 Zc (ZL Zc) Zx) (ZaG Z5 Zc Zx (ZL Zc))) Zf)))))))))⟩
 rintro us A Q ⟨ps,gs,rfl,fp,fq,⟨r0,hr0,hr1⟩,hC,q⟩
 refine ⟨rfl,?_⟩
 have eP:∀ zs:List Wr,zs.map (fun w=>w.pl.keyU)=(zs.map Wr.pl).map Wr.keyU:=fun zs=>by rw [YT];rfl
 walk_at "qs"
 walk_at "qd"
 intro l1 hl1
 walk_at "qc"
 refine ZaV ps Wr.toU (fun w=>w.pl.keyU) hl1 (by have:=fp.2.2.2;lia) (fun _ _ _ _=>rfl) (fun x A2 hx he Cy hc=>?_) ?_
 ·walk_at "qd"
  exact ⟨x,rfl,fp.ok hx,he _ _ hC,hc⟩
 have e1:=Ext.new (o:=.lst (ps.map fun w=>w.pl.keyU)) hl1
 have a1:(updA A l1 (.lst (ps.map fun w=>w.pl.keyU))) l1=some (.lst (ps.map fun w=>w.pl.keyU)):=Zd
 generalize updA A l1 (.lst (ps.map fun w=>w.pl.keyU))=A0 at e1 a1 ⊢
 walk_at "qd"
 intro l2 hl2
 walk_at "qc"
 refine ZaV gs Wr.toU (fun w=>w.pl.keyU) hl2 (by have:=fq.2.2.2;lia) (fun _ _ _ _=>rfl) (fun x A2 hx he Cy hc=>?_) ?_
 ·walk_at "qd"
  exact ⟨x,rfl,fq.ok hx,he _ _ (e1 _ _ hC),hc⟩
 replace e1:=e1.trans (Ext.new (o:=.lst (gs.map fun w=>w.pl.keyU)) hl2)
 replace a1:=Ext.new (o:=.lst (gs.map fun w=>w.pl.keyU)) hl2 _ _ a1
 have a2:(updA A0 l2 (.lst (gs.map fun w=>w.pl.keyU))) l2=some (.lst (gs.map fun w=>w.pl.keyU)):=Zd
 generalize updA A0 l2 (.lst (gs.map fun w=>w.pl.keyU))=A1 at e1 a1 a2 ⊢
 rw [eP] at a1 a2
 have gP1:gdL (ps.map Wr.pl)=true:=by rw [<- Zai];exact Zdb ps fp.1
 have gP2:gdL (gs.map Wr.pl)=true:=by rw [<- Zai];exact Zdb gs fq.1
 have dP1:depL (ps.map Wr.pl)<=95:=by rw [<- Zai,ZbB];exact fp.2.2.1
 have dP2:depL (gs.map Wr.pl)<=95:=by rw [<- Zai,ZbB];exact fq.2.2.1
 have hlp:(ps.map Wr.pl).length=ps.length:=Yb _
 have hl64:=fp.2.2.2
 generalize hqs:ps.map Wr.pl=qs at a1 gP1 dP1 hlp hr1
 walk_at "qd"
 refine ZfF (BegI A1 l1 l2 ps gs qs) _ ⟨Ext.refl _,0,rfl,rfl,r0,YY _,hr0,hr1⟩ ?_
 rintro mm ρ A2 ⟨e2,f,rfl,rfl,i,hfi,hi0,hi1⟩
 have b1:=e2 _ _ a1
 have b2:=e2 _ _ a2
 walk_at "qd"
 refine ⟨_,b1,fun p1 hp1=>⟨_,by rw [Zk (neA b1 hp1)];exact b1,fun p2 hp2=>?_⟩⟩
 rw [Zbp (by rw [Yb];lia)] at hp2 ⊢
 rw [ZcD (by rw [Yb];lia)]
 have n12:p1≠p2:=neA Zd hp2
 refine ⟨_,_,by rw [Zk n12,Zd],Zd,ZQ (by simp;lia),fun p3 hp3=>?_⟩
 have et:(qs.map Wr.keyU).drop f++(qs.map Wr.keyU).take f=(turnL qs f).map Wr.keyU:=by unfold turnL;rw [Yo,Yag,Yaf]
 rw [et]
 have e3:=(Ext.new (o:=.lst ((qs.map Wr.keyU).drop f)) hp1).trans ((Ext.new (o:=.lst ((qs.map Wr.keyU).take f)) hp2).trans (Ext.new (o:=.lst ((turnL qs f).map Wr.keyU)) hp3))
 have a3:(updA (updA (updA A2 p1 (.lst ((qs.map Wr.keyU).drop f))) p2 (.lst ((qs.map Wr.keyU).take f))) p3 (.lst ((turnL qs f).map Wr.keyU))) p3=some (.lst ((turnL qs f).map Wr.keyU)):=Zd
 generalize (updA (updA (updA A2 p1 (.lst ((qs.map Wr.keyU).drop f))) p2 (.lst ((qs.map Wr.keyU).take f))) p3 (.lst ((turnL qs f).map Wr.keyU)))=A3 at e3 a3 ⊢
 have gt:=Zcv (ZX qs f).symm gP1
 have dt:depL (turnL qs f)<=95:=by rw [ZcB (ZX qs f)];exact dP1
 have k1:=Zh4 (Zeq _ gt) dt
 have k2:=Zh4 (Zeq _ gP2) dP2
 refine ⟨.list ((turnL qs f).map Wr.keyD),.list ((gs.map Wr.pl).map Wr.keyD),.lst a3 (kDUs _),.lst (e3 _ _ b2) (kDUs _),k1.1,k2.1,k1.2,?_⟩
 rw [if_pos rfl,kd_likeP]
 refine ⟨_,rfl,iteB (fun hb=>?_) fun hb=>?_⟩
 ·refine ZhA ?_
  walk_at "qd"
  have hne:f≠i:=fun e=>by
   subst e
   rw [(Ze1 gt gP2).mpr hi1] at hb
   cases hb
  exact ⟨_,(by lia:100 - (f + 1) < 100 - f),e2.trans e3,f + 1,rfl,by push_cast;rfl,i,by lia,hi0,hi1⟩
 ·have hf1:turnL qs f=gs.map Wr.pl:=(Ze1 gt gP2).mp (by simpa using hb)
  have hf0:f < ps.length\/f=0:=by lia
  have hmap:(turnL ps f).map Wr.pl=gs.map Wr.pl:=by
   rw [<- hf1,<- hqs]
   unfold turnL
   rw [Yo,Yag,Yaf]
  have eU:(ps.map Wr.toU).drop f++(ps.map Wr.toU).take f=(turnL ps f).map Wr.toU:=by unfold turnL;rw [Yo,Yag,Yaf]
  have e4:=e1.trans (e2.trans e3)
  walk_at "qd"
  have hls:(turnL ps f).length=ps.length:=Zaq ps f
  have hn2:ps.length<=ps.length * ps.length:=Nat.le_mul_self _
  refine iteB (fun h0=>⟨by decide,fun p hp=>?_⟩) fun h0=>⟨tup2,tup1,fun p hp=>?_⟩
  ·walk_at "qg"
   rw [Zbp (by rw [Yb];lia),ZcD (by rw [Yb];lia)]
   refine ⟨ZQ (by simp;lia),?_⟩
   rw [eU]
   refine ⟨tup2,fg (q p [] (turnL ps f) _ (e4.trans (Ext.new hp)) (e4.none hp) Zd ⟨?_,hmap,ZX ps f,by rw [hls];simpa using hn2⟩)⟩
   have:f=0:=by simpa using h0
   subst this
   rw [Zcd]
   rfl
  ·have hf:f≠0:=by simpa using h0
   have hf2:f < ps.length:=by lia
   walk_at "qg"
   rw [Zbp (by rw [Yb];lia),ZcD (by rw [Yb];lia)]
   refine ⟨ZQ (by simp;lia),?_⟩
   rw [eU]
   refine ⟨tup2,fg (q p [(("turn":Str),(f:Int))] (turnL ps f) _ (e4.trans (Ext.new hp)) (e4.none hp) Zd ⟨?_,hmap,ZX ps f,?_⟩)⟩
   ·have e:topAct (.many 3 ps) "turn" (f:Int)=some (.many 3 (turnL ps f)):=if_pos ⟨rfl,rfl,by lia,by lia⟩
    rw [ZcP e]
    rfl
   ·rw [hls]
    have:2 * ps.length<=ps.length * ps.length:=YbA (by lia) (Yh _)
    simp only [List.length_singleton]
    lia
end
noncomputable def asp_mvd (t:Addr):ASp:=fun us A Q=>∃ a b:Wr,us=[a.toU,b.toU]/\a.gd=true/\b.gd=true/\a.tups<=96/\a.dep<=95/\a.pl=b.pl/\Cp t A /\
 ∀ (l:Addr) (ms:List (Str × Int)) (rs:List Wr) (x:U) (A':AHp),Ext A A'->A l=none->A' l=some (.lst (ms.map mU))->(x=.tup (rs.map Wr.toU)\/∃ l2,x=.ref l2/\A l2=none/\A' l2=some (.lst (rs.map Wr.toU)))->topW a ms=some (a.wth rs)->rs.map Wr.pl=b.parts.map Wr.pl->rs.Perm a.parts->ms.length + rs.length<=rs.length * rs.length->Q (.tup [.ref l,x]) A'
theorem few_of {w:Wr} (hg:w.gd=true) (ht:w.tups<=96) (hd:w.dep<=95):Few w.parts:=by
 have h1:=w.gd_parts hg
 have h2:=w.parts_tups
 have h3:=w.parts_dep
 exact ⟨h1.1,by lia,by lia,by have:=h1.2;lia⟩
section
include T
theorem ok_mvd (hBA_qb:base.BuiltinsAt mg t_qb):FnOk P w K mg base CX0 12 f_q3 d_q3 ["part","goal"] (spOf K (asp_mvd t_qb)):=by
 have G_q1:=ok_pour (P:=P) (w:=w) (base:=base) T hBA_qb
 have G_q4:=ok_begun (P:=P) (w:=w) (base:=base) T hBA_qb
 have G_q7:=ZbZ (P:=P) (w:=w) (base:=base) T
 refine' Fun.okA T.F_q3 (sc:=?sc23) (body:=?bd23) ?hs23 ?hb23 Zdh ?hB23 ?hS23
 case hs23=>conv=>lhs;whnf
 case hb23=>conv=>lhs;whnf
 case hB23=>exact fun S cdv A outer s H E hr=>⟨_,(Zg (Z9 (Zq o_in (ZK o_ix (pv 0) Zh (fun _ _=>rfl)) (ZD (Za Z0 (Za Z0 Ze))) (by with_unfolding_all rfl)) (Zm (Zv (Zp (G_q1.mono (by first | decide | lia)) hr (by rfl) T.M_q1 T.F_q1.kp T.B_q1 .nil ZZ (Za (Zp (G_q7.mono (by first | decide | lia)) hr (by rfl) T.M_q7 T.F_q7.kp T.B_q7 .nil ZZ (Za (pv 0) Ze)) (Za (Zp (G_q7.mono (by first | decide | lia)) hr (by rfl) T.M_q7 T.F_q7.kp T.B_q7 .nil ZZ (Za (pv 1) Ze)) Ze))))) ZA)
   (Zg (Z9 (Zq (Zbi hr) (ZK o_ix (pv 0) Zh (fun _ _=>rfl)) Z0 (ZS _)) (Zm (Zv (Zp (G_q4.mono (by first | decide | lia)) hr (by rfl) T.M_q4 T.F_q4.kp T.B_q4 .nil ZZ (Za (Zp (G_q7.mono (by first | decide | lia)) hr (by rfl) T.M_q7 T.F_q7.kp T.B_q7 .nil ZZ (Za (pv 0) Ze)) (Za (Zp (G_q7.mono (by first | decide | lia)) hr (by rfl) T.M_q7 T.F_q7.kp T.B_q7 .nil ZZ (Za (pv 1) Ze)) Ze))))) ZA)
   (Zm (Zv (ZD (Za (ZaH Ze) (Za (Zp (G_q7.mono (by first | decide | lia)) hr (by rfl) T.M_q7 T.F_q7.kp T.B_q7 .nil ZZ (Za (pv 0) Ze)) Ze))))))),(Zn (ZO (Zo (Zl ZbT (Zl ZJ Zc Zi) (ZC (Zb Z1 (Zb Z1 Zf))))) (Zu (Zr (Zb (Zr (Zb Zc Zf)) (Zb (Zr (Zb Zc Zf)) Zf)))) Zz)
   (Zn (ZO (Zo (Zl Zbj (Zl ZJ Zc Zi) Z1)) (Zu (Zr (Zb (Zr (Zb Zc Zf)) (Zb (Zr (Zb Zc Zf)) Zf)))) Zz)
   (Zu (ZC (Zb (ZaI Zf) (Zb (Zr (Zb Zc Zf)) Zf))))))⟩
 rintro us A Q ⟨a,b,rfl,ga,gb,ta,da,hp,hC,q⟩
 refine ⟨rfl,?_⟩
 have tb:b.tups<=96:=by rw [<- b.pl_tups,<- hp,a.pl_tups];exact ta
 have db:b.dep<=95:=by rw [<- b.pl_dep,<- hp,a.pl_dep];exact da
 have fa:=few_of ga ta da
 have fb:=few_of gb tb db
 obtain ⟨hb,hl,hal⟩:=Wr.alt_of hp
 obtain ⟨rest,eh⟩:=a.toU_hd
 walk_at "qs"
 rw [eh]
 walk_at "qd"
 rw [<- eh]
 refine ⟨tup2,rfl,rfl,?_⟩
 have stay:a.parts.map Wr.pl=b.parts.map Wr.pl->([]:List U).length<=sizeLine/\∀ p,A p=none->Zca [a.toU] (updA A p (.lst [])) fun x A1=>[U.ref p,x].length<=sizeLine/\Fg Q (.tup [.ref p,x]) A1:=fun he =>
  ⟨by decide,fun p hp=>⟨a,rfl,tup2,fg (q p [] a.parts _ _ (Ext.new hp) hp Zd (.inl rfl) (by rw [Zgq];rfl) he (List.Perm.refl _) (by simpa using Nat.le_mul_self _))⟩⟩
 rcases many_or a with ⟨k,ps,rfl⟩ | hm
 ·have hg2:=ga
  simp only [Wr.gd,Ye,Yy] at hg2
  obtain ⟨gs,rfl⟩:∃ gs,b=.many k gs:=⟨b.parts,hb⟩
  rw [show (Wr.many k ps).name=Za2 k from rfl]
  by_cases k12:k=1\/k=2
  ·refine Z8 (by rcases k12 with h | h;all_goals (subst h;decide +kernel)) ?_
   unfold Alt at hal
   rw [if_pos (show (Wr.many k ps).kd=1\/(Wr.many k ps).kd=2 from k12)] at hal
   exact ⟨_,rfl,_,rfl,k,ps,gs,rfl,k12,fa,fb,hal,hC,fun l l2 ms rs A' e hl hl2 a1 a2 ⟨m1,m2,m3,m4⟩=>fg (q l ms rs _ A' e hl a1 (.inr ⟨l2,rfl,hl2,a2⟩) m1 m2 m3 m4)⟩
  ·refine ZP (by obtain h | h:k=0\/k=3:=(by lia);all_goals (subst h;decide +kernel)) ?_
   unfold Alt at hal
   rw [if_neg (show ¬ ((Wr.many k ps).kd=1\/(Wr.many k ps).kd=2) from k12)] at hal
   by_cases k0:k=0
   ·subst k0
    exact ZP (by decide +kernel) (stay hal)
   ·obtain rfl:k=3:=by lia
    rw [if_neg (show ¬ ((Wr.many 3 ps).kd=0) from k0)] at hal
    obtain ⟨r,hr1,hr2⟩:=hal
    rw [Yb] at hr1
    exact Z8 (by decide +kernel) ⟨_,rfl,_,rfl,ps,gs,rfl,fa,fb,⟨r,hr1,hr2⟩,hC,fun l ms rs A' e hl a1 ⟨m1,m2,m3,m4⟩=>fg (q l ms rs _ A' e hl a1 (.inl rfl) m1 m2 m3 m4)⟩
 ·have hn:=nm_bcr hm
  refine ZP hn.1 (ZP hn.2 (stay ?_))
  have hk0:a.kd=0:=by
   cases a with
   | many k ps=>exact absurd rfl (hm k ps)
   | _=>rfl
  unfold Alt at hal
  rw [hk0,if_neg (by decide),if_pos rfl] at hal
  exact hal
end
noncomputable def asp_qu (t:Addr):ASp:=fun us A Q=>∃ a b:Wr,us=[a.toU,b.toU]/\a.gd=true/\b.gd=true/\a.tups<=96/\a.dep<=95/\b.tups<=96/\b.dep<=95/\Cp t A/\(a.pl≠b.pl->Q .non A) /\
 (a.pl=b.pl->∀ (l:Addr) (ss:List Stq) (A':AHp),Ext A A'->A l=none->A' l=some (.lst (ss.map Stq.toU))->Zbb a ss=some b->ss.length<=10000->(∀ s∈ss,s.p.length<=96/\(s.wd="swap"\/s.wd="turn"))->Q (.ref l) A')
/-- what is still to be led -/
noncomputable def tkOk (t:Tk):Prop:=t.a.gd=true/\t.b.gd=true/\t.a.pl=t.b.pl/\t.p.length + t.a.dep<=95
theorem ZiY : ∀ {ms:List (Str × Int)} {w v:Wr},topW w ms=some v->∀ m∈ms,m.1="swap"\/m.1="turn"
 | [],_,_,_,m,hm=>by cases hm
 | n :: ms, w,v,h,m,hm=>by
  have h':(match topAct w n.1 n.2 with | some x=>topW x ms | none=>none)=some v:=h
  cases e:topAct w n.1 n.2 with
  | none=>rw [e] at h';cases h'
  | some u =>
   rw [e] at h'
   rcases Yv.mp hm with rfl | hm
   ·cases w with
    | many k ps =>
     unfold topAct at e
     simp only at e
     split at e
     ·rename_i c;exact .inr c.1
     ·split at e
      ·rename_i c;exact .inl c.1
      ·cases e
    | _=>cases e
   ·exact ZiY h' m hm
theorem sq_kids {p:List Int} {rs bs:List Wr}:sqL ((kids p rs bs).map Tk.a)=sqL rs/\tupsL ((kids p rs bs).map Tk.a)=tupsL rs:=by
 have e:(kids p rs bs).map Tk.a=rs:=by
  unfold kids
  rw [YT]
  exact ZbP rs .nothing
 rw [e]
 exact ⟨rfl,rfl⟩
noncomputable def Wpt (A:AHp) (a b:Wr) (ls lw:Addr) (m:Nat) (ρ:ASt) (A2:AHp):Prop:=Ext A A2/\∃ (st:List Tk) (ss:List Stq) (c:Wr) (r4 r5 r6 r7 r8 r9 r10 r11:Option U),ρ=[some a.toU,some b.toU,some (.ref ls),some (.ref lw),r4,r5,r6,r7,r8,r9,r10,r11]/\A2 ls=some (.lst (ss.map Stq.toU))/\A2 lw=some (.lst (st.reverse.map Tk.toU))/\Vd st c b/\Zbb a ss=some c/\(∀ t∈st,tkOk t)/\ss.length + sqL (st.map Tk.a)<=9216/\tupsL (st.map Tk.a)=m/\m<=96/\∀ s∈ss,s.p.length<=96/\(s.wd="swap"\/s.wd="turn")
noncomputable def WayI (A:AHp) (a b:Wr) (ls lw l5:Addr) (x:U) (ss2:List Stq) (st:List Tk) (t:Tk) (rs:List Wr) (k:Nat) (ρ:ASt) (A7:AHp):Prop:=Ext A A7/\A7 ls=some (.lst (ss2.map Stq.toU))/\A7 lw=some (.lst ((st.reverse++(kids t.p rs t.b.parts).take k).map Tk.toU))/\seqU A7 x (rs.map Wr.toU)/\∃ q9 q10 q11:Option U,ρ=[some a.toU,some b.toU,some (.ref ls),some (.ref lw),some (.tup (t.p.map U.int)),some t.a.toU,some t.b.toU,some (.ref l5),some x,q9,q10,q11]
section
include T
theorem ok_qu (hBA_qb:base.BuiltinsAt mg t_qb):FnOk P w K mg base CX0 14 f_qu d_qu ["one","other"] (spOf K (asp_qu t_qb)):=by
 have G_q6:=ZbN (P:=P) (w:=w) (base:=base) T hBA_qb
 have G_q3:=ok_mvd (P:=P) (w:=w) (base:=base) T hBA_qb
 have G_q7:=ZbZ (P:=P) (w:=w) (base:=base) T
 refine' Fun.okA T.F_qu (sc:=?sc24) (body:=?bd24) ?hs24 ?hb24 sc_qu ?hB24 ?hS24
 case hs24=>conv=>lhs;whnf
 case hb24=>conv=>lhs;whnf
 case hB24=>exact fun S cdv A outer s H E hr=>⟨_,(Zg (Z9 (Zq (Zg8 hr) (Zp (G_q6.mono (by first | decide | lia)) hr (by rfl) T.M_q6 T.F_q6.kp T.B_q6 .nil ZZ (Za (pv 0) Ze)) (Zp (G_q6.mono (by first | decide | lia)) hr (by rfl) T.M_q6 T.F_q6.kp T.B_q6 .nil ZZ (Za (pv 1) Ze)) (ZS _)) (Zm (Zv ZcL)) ZA)
   (Zg (ZG (i:=2) S.nd rfl (Or.inl rfl) (ZaH Ze))
   (Zg (ZG (i:=3) S.nd rfl (Or.inl rfl) (ZaH (Za (ZD (Za (ZD Ze) (Za (pv 0) (Za (pv 1) Ze)))) Ze)))
   (Zg (Zcx Yan (Zgv (pv 3) (fun _=>rfl)) (Zg (Zhk (Zdw Yu Yal Yam Zdn (pv 3)) (Zb7 (n:=3) rfl (ZT (Zy (i:=4) S.nd rfl (Or.inr rfl)) (ZT (Zy (i:=5) S.nd rfl (Or.inl rfl)) (ZT (Zy (i:=6) S.nd rfl (Or.inl rfl)) Za5)))))
   (Zg (Zhk (Zp (G_q3.mono (by first | decide | lia)) hr (by rfl) T.M_q3 T.F_q3.kp T.B_q3 .nil ZZ (Za (pv 5) (Za (pv 6) Ze))) (Zb7 (n:=2) rfl (ZT (Zy (i:=7) S.nd rfl (Or.inl rfl)) (ZT (Zy (i:=8) S.nd rfl (Or.inl rfl)) Za5))))
   (Zg (Za1 (ZbK Yu Ybw Ybx Zfm (pv 2) (Za (Zaw (ts:=["word","i"]) (frs':=[("path",4)]) (cl:=_) rfl ⟨(by rfl),rfl,(by decide +kernel),(by decide +kernel),(ZaN (by rfl) Zbc),(Zb6 (by rfl) (by rfl)),(ZaN ⟨(by rfl),(by first | exact .inl rfl | exact .inr rfl),(by first | exact .inl rfl | exact .inr rfl),(by rfl)⟩ Zbc)⟩ (ZaC (pv 7)) (fun _ _ _ _=>Zdc K rfl 2 rfl (ZT (Zy (i:=0) (show List.Nodup (["word","i","path"]:List Str) from by decide +kernel) rfl (Or.inl rfl) (.inr rfl)) (ZT (Zy (i:=1) (show List.Nodup (["word","i","path"]:List Str) from by decide +kernel) rfl (Or.inl rfl) (.inr rfl)) Za5)) (by rfl) (by rfl)) (fun _ _ _ _=>ZW) (fun _ _ _ _=>by exact (ZD (Za (pv 0) (Za (pv 2) (Za (pv 1) Ze)))))) Ze)))
   (Zm (ZcN Yan rfl (pj_ez (by rfl) T.n_enumerate (by rfl) T.n_zip (Za (pv 8) (Za (Zp (G_q7.mono (by first | decide | lia)) hr (by rfl) T.M_q7 T.F_q7.kp T.B_q7 .nil ZZ (Za (pv 6) Ze)) Ze))) (Zb7 (n:=2) rfl (ZT (Zy (i:=9) S.nd rfl (Or.inl rfl)) (ZT (Zb7 (n:=2) rfl (ZT (Zy (i:=10) S.nd rfl (Or.inl rfl)) (ZT (Zy (i:=11) S.nd rfl (Or.inl rfl)) Za5))) Za5)))
   (Zm (Za1 (ZbK Yu Y1 Y2 ZaR (pv 3) (Za (ZD (Za (ZR Zaf (pv 4) (ZD (Za (pv 9) Ze))) (Za (pv 10) (Za (pv 11) Ze)))) Ze))))))))))
   (Zm (Zv (pv 2))))))),(Zn (ZO (Zo (Zl ZgI (Zr (Zb Zc Zf)) (Zr (Zb Zc Zf)))) (Zu ZcG) Zz)
   (Zn (Zw (ZaI Zf) Zj)
   (Zn (Zw (ZaI (Zb (ZC (Zb (ZC Zf) (Zb Zc (Zb Zc Zf)))) Zf)) Zj)
   (Zn (Zcy (ab_tru Zc) (Zn (Zw (Zdx Z2 Zci Zc) (Za6 (ZU Zj (ZU Zj (ZU Zj Zba)))))
   (Zn (Zw (Zr (Zb Zc (Zb Zc Zf))) (Za6 (ZU Zj (ZU Zj Zba))))
   (Zn (Za3 (ZbR Z2 Zd2 Zc (Zb (Z4 (ZaD Zaj Zc) (Za6 (ZU Zj (ZU Zj Zba))) Z7 (ZC (Zb Zc (Zb Zc (Zb Zc Zf))))) Zf)))
   (ZcX (ZbH ab_yez (Zb Zc (Zb (Zr (Zb Zc Zf)) Zf))) (Za6 (ZU Zj (ZU (Za6 (ZU Zj (ZU Zj Zba))) Zba)))
   (Za3 (ZbR Z2 ZbD Zc (Zb (ZC (Zb (Zl Zag Zc (ZC (Zb Zc Zf))) (Zb Zc (Zb Zc Zf)))) Zf))))))))
   (Zu Zc)))))⟩
 rintro us A Q ⟨a,b,rfl,ga,gb,ta,da,tb,db,hC,q1,q2⟩
 refine ⟨rfl,?_⟩
 walk_at "qs"
 walk_at "qd"
 have gpa:=a.pl_gd ga
 have gpb:=b.pl_gd gb
 have hpd:=a.pl_dep
 refine ⟨a,rfl,ZiD ga ta da,hC,b,rfl,ZiD gb tb db,hC,?_⟩
 dsimp only
 rw [q_neK]
 refine neK (a.pl.gd_ok gpa) (b.pl.gd_ok gpb) (by lia) ⟨_,rfl,iteB (fun hb=>?_) fun hb=>?_⟩
 ·exact fg (q1 (ZhB (a.pl.gd_ok gpa) hb))
 have hpe:a.pl=b.pl:=a.pl.like_eq b.pl (a.pl.gd_nrm gpa) (b.pl.gd_nrm gpb) (by simpa using hb)
 replace q2:=q2 hpe
 walk_at "qd"
 refine ⟨by decide,fun ls hls=>⟨by decide,tup3,tup1,fun lw hlw=>?_⟩⟩
 have nsw:ls≠lw:=neA Zd hlw
 have hlw':A lw=none:=by rw [Zk nsw.symm] at hlw;exact hlw
 have hsq:a.tups * a.tups<=9216:=YbA ta ta
 refine ZfF (Wpt A a b ls lw) a.tups ⟨(Ext.new hls).trans (Ext.new hlw),[⟨[],a,b⟩],[],a,_,_,_,_,_,_,_,_,rfl,by rw [Zk nsw,Zd];rfl,Zd,.cons rfl (.nil b),rfl,fun t ht=>?_,by simpa [sqL] using hsq,by simp [tupsL],ta,fun s hs=>by cases hs⟩ ?_
 ·rw [YJ.mp ht]
  exact ⟨ga,gb,hpe,by show 0 + a.dep<=95;lia⟩
 rintro m ρ A2 ⟨e2,st,ss,c,r4,r5,r6,r7,r8,r9,r10,r11,rfl,b1,b2,hv,hw,hok,hsm,htm,hm96,hss⟩
 walk_at "qd"
 refine ⟨_,b2,iteB (fun hb=>?_) fun hb=>?_⟩
 ·refine ZhA ?_
  cases st with
  | nil=>cases hb
  | cons t st =>
  rw [Yad,Yo] at b2
  walk_at "qd"
  refine ⟨⟨_,b2⟩,_,t.toU,b2,?_⟩
  obtain ⟨t1,t2,t3,t4⟩:=hok t YaF
  have c1:(updA A2 lw (.lst (st.reverse.map Tk.toU))) ls=some (.lst (ss.map Stq.toU)):=by rw [Zk nsw];exact b1
  have c2:(updA A2 lw (.lst (st.reverse.map Tk.toU))) lw=some (.lst (st.reverse.map Tk.toU)):=Zd
  have e3:Ext A (updA A2 lw (.lst (st.reverse.map Tk.toU))):=fun x o hx=>by rw [Zk (neA hx hlw')];exact e2 _ _ hx
  generalize updA A2 lw (.lst (st.reverse.map Tk.toU))=A3 at c1 c2 e3 ⊢
  simp only [Tk.toU]
  walk_at "qd"
  have hta:t.a.tups<=96:=by simp only [YE,tupsL] at htm;lia
  refine ⟨rfl,t.a,t.b,rfl,t1,t2,hta,by lia,t3,e3 _ _ hC,fun l5 ms rs x A4 e4 hl5 c5 hx htw hrp hpm hml=>?_⟩
  have n5s:ls≠l5:=neA c1 hl5
  have n5w:lw≠l5:=neA c2 hl5
  have hx':seqU A4 x (rs.map Wr.toU)/\∀ l2,x=.ref l2->ls≠l2/\lw≠l2:=by
   rcases hx with rfl | ⟨l2,rfl,h1,h2⟩
   ·exact ⟨rfl,fun l2 h=>by cases h⟩
   ·exact ⟨h2,fun l3 h=>by cases h;exact ⟨neA c1 h1,neA c2 h1⟩⟩
  obtain ⟨sx,nx⟩:=hx'
  replace c1:=e4 _ _ c1
  replace c2:=e4 _ _ c2
  obtain ⟨hb1,hb2,_⟩:=Wr.alt_of t3
  have hrl:rs.length=t.a.parts.length:=hpm.length_eq
  have hgp:=t.a.gd_parts t1
  have hpt:=t.a.parts_tups
  have hpd:=t.a.parts_dep
  have htr:=Zbx hpm
  have hsl:=sq_le rs
  have hmsq:ms.length + sqL rs<=t.a.tups * t.a.tups:=by
   have:tupsL rs * tupsL rs<=t.a.tups * t.a.tups:=YbA (by lia) (by lia)
   lia
  obtain ⟨hat,hv2⟩:=vd_step hv hb1 hb2 hrl
  simp only [YE,tupsL,sqL] at htm hsm
  walk_at "qd"
  refine ⟨rfl,⟨_,c1⟩,⟨_,c5⟩,fun l6 hl6=>?_⟩
  walk_at "qc"
  refine Zbr (ms.map mU) ((ms.map (mvS t.p)).map Stq.toU) (by rw [Yb,Yb,Yb]) hl6 (by rw [Yb];lia) (fun i A5 _ he=>⟨_,he _ _ c5,rfl⟩) (fun i u y A5 hu hy he=>?_) ?_
  ·obtain ⟨x,hx,rfl⟩:=Zap hu
   rw [Yl,Yl,hx] at hy
   cases hy
   refine ⟨_,_,rfl,fun Cy hc=>?_⟩
   walk_at "qd"
   exact ⟨tup3,hc⟩
  have n6s:ls≠l6:=neA c1 hl6
  have n6w:lw≠l6:=neA c2 hl6
  have e5:=e4.trans (Ext.new (o:=.lst ((ms.map (mvS t.p)).map Stq.toU)) hl6)
  have c6:(updA A4 l6 (.lst ((ms.map (mvS t.p)).map Stq.toU))) l6=some (.lst ((ms.map (mvS t.p)).map Stq.toU)):=Zd
  replace c1:=Ext.new (o:=.lst ((ms.map (mvS t.p)).map Stq.toU)) hl6 _ _ c1
  replace c2:=Ext.new (o:=.lst ((ms.map (mvS t.p)).map Stq.toU)) hl6 _ _ c2
  have sx2:seqU (updA A4 l6 (.lst ((ms.map (mvS t.p)).map Stq.toU))) x (rs.map Wr.toU):=by
   cases x with
   | ref l2=>exact Ext.new hl6 _ _ (show A4 l2=some (.lst (rs.map Wr.toU)) from sx)
   | _=>exact sx
  generalize updA A4 l6 (.lst ((ms.map (mvS t.p)).map Stq.toU))=A5 at c1 c2 c6 sx2 e5 ⊢
  walk_at "qd"
  refine ⟨_,_,c1,c6,lineB (by rw [Yb,Yb,Yb];lia),t.b,rfl,?_⟩
  rw [<- Yo]
  have hs1:∀ s∈ss++ms.map (mvS t.p),s.p.length<=96/\(s.wd="swap"\/s.wd="turn"):=fun s hs=>by
   rcases Yaa.mp hs with h | h
   ·exact hss s h
   ·obtain ⟨m1,hm1,rfl⟩:=Yt.mp h
    exact ⟨by show t.p.length<=96;lia,ZiY htw m1 hm1⟩
  have hw2:Zbb a (ss++ms.map (mvS t.p))=some (c.put t.p (t.a.wth rs)):=by rw [ZeF hw];exact Zgo hat htw
  have hsl2:(ss++ms.map (mvS t.p)).length=ss.length + ms.length:=by rw [Yj,Yb]
  generalize ss++ms.map (mvS t.p)=ss2 at hs1 hw2 hsl2 ⊢
  have d1:(updA A5 ls (.lst (ss2.map Stq.toU))) ls=some (.lst (ss2.map Stq.toU)):=Zd
  have d2:(updA A5 ls (.lst (ss2.map Stq.toU))) lw=some (.lst (st.reverse.map Tk.toU)):=by rw [Zk nsw.symm];exact c2
  have e6:Ext A (updA A5 ls (.lst (ss2.map Stq.toU))):=fun y o hy=>by rw [Zk (neA hy hls)];exact e5 _ _ (e3 _ _ hy)
  have sx3:seqU (updA A5 ls (.lst (ss2.map Stq.toU))) x (rs.map Wr.toU):=by
   cases x with
   | ref l2=>exact (Zk (nx l2 rfl).1.symm).trans (show A5 l2=some (.lst (rs.map Wr.toU)) from sx2)
   | _=>exact sx2
  generalize updA A5 ls (.lst (ss2.map Stq.toU))=A6 at d1 d2 e6 sx3 ⊢
  have hbl:t.b.parts.length=rs.length:=by lia
  refine ⟨⟨_,_,sx3,rfl⟩,ZgP (ezU (rs.map Wr.toU) (t.b.parts.map Wr.toU)) (WayI A a b ls lw l5 x ss2 st t rs)
   ⟨e6,d1,by simpa using d2,sx3,_,_,_,rfl⟩ (fun k ρ A7 _ h=>⟨_,_,h.2.2.2.1,rfl,rfl⟩) (fun k u ρ A7 hu h=>?_) (fun ρ A7 h=>?_)⟩
  ·obtain ⟨f1,f2,f3,f4,q9,q10,q11,rfl⟩:=h
   unfold ezU at hu
   rw [Zc1,ZfN] at hu
   have hk:k < rs.length:=by
    rcases Nat.lt_or_ge k rs.length with h | h
    ·exact h
    ·rw [YV (show (rs.map Wr.toU).length<=k by rw [Yb];exact h)] at hu;cases hu
   have hr:rs[k]? = some rs[k]:=Yg hk
   have hbk:t.b.parts[k]? = some t.b.parts[k]:=Yg (by lia)
   rw [Yl,Yl,hr,hbk] at hu
   cases hu
   have hstl:=ZaE (st.map Tk.a)
   rw [Yb] at hstl
   walk_at "qd"
   refine ⟨rfl,rfl,⟨_,f3⟩,tup1,ZQ (by simp;lia),tup3,_,f3,Zat (by rw [Yb,Yj,Y5,YL,ZdL];lia),fun y o hy=>by rw [Zk (neA hy hlw')];exact f1 _ _ hy,by rw [Zk nsw];exact f2,?_,?_,_,_,_,rfl⟩
   ·rw [Zd,ZeK hr hbk,<- YM,Yo (l₂:=[_])]
    simp only [YE,YbN,Tk.toU,Yo]
   ·cases x with
    | ref l2=>exact (Zk (nx l2 rfl).2.symm).trans (show A7 l2=some (.lst (rs.map Wr.toU)) from f4)
    | _=>exact f4
  ·obtain ⟨f1,f2,f3,f4,q9,q10,q11,rfl⟩:=h
   rw [show (ezU (rs.map Wr.toU) (t.b.parts.map Wr.toU)).length=(kids t.p rs t.b.parts).length by unfold ezU;rw [Zd3,Ziq,Yb,Yb,ZdL];lia,Yaj] at f3
   obtain ⟨sk1,sk2⟩:=sq_kids (p:=t.p) (rs:=rs) (bs:=t.b.parts)
   have hm2:tupsL (((kids t.p rs t.b.parts).reverse++st).map Tk.a)=tupsL rs + tupsL (st.map Tk.a):=by rw [Yo,Zas,Ybj,Zbx (Yca _),sk2]
   refine ⟨_,?_,f1,(kids t.p rs t.b.parts).reverse++st,ss2,_,_,_,_,_,_,_,_,_,rfl,f2,by rw [Yc4,YbT];exact f3,hv2,hw2,fun y hy=>?_,?_,rfl,?_,hs1⟩
   ·rw [hm2];lia
   ·rcases Yaa.mp hy with h | h
    ·obtain ⟨n,hn⟩:=YaP.mp (YdG.mp h)
     obtain ⟨h1,rfl⟩:=kids_get hn
     have hr:rs[n]? = some rs[n]:=Yg h1
     have hbk:t.b.parts[n]? = some t.b.parts[n]:=Yg (by lia)
     rw [Yn,hr,Yn,hbk]
     have hrm:rs[n]∈t.a.parts:=hpm.mem_iff.mp (YaY h1)
     refine ⟨Zbh hgp.1 hrm,Zbh (t.b.gd_parts t2).1 (YaY _),?_,?_⟩
     ·have:=congrArg (fun l=>l[n]?) hrp
      simp only [Yl,hr,hbk] at this
      exact Y3 this
     ·have:=ZaS hrm
      show (t.p++[(n:Int)]).length + rs[n].dep<=95
      rw [Yj,List.length_singleton]
      lia
    ·exact hok y (Yaw _ h)
   ·rw [Yo,Zfr,Ybj,sqL_rev,sk1,hsl2]
    lia
   ·rw [hm2];lia
 ·cases st with
  | nil =>
   cases hv
   exact fg (q2 ls ss A2 e2 hls b1 hw (by lia) hss)
  | cons t st=>rw [Yad] at hb;simp at hb
end
noncomputable def asp_next:ASp:=fun us A Q=>∃ (c:Addr) (ns:List Int),us=[.ref c]/\A c=some (.lst (ns.map U.int))/\∀ (z:Int) (ms:List Int),0<=z->Q (.int z) (updA A c (.lst (ms.map U.int)))
noncomputable def Zi8 (n:Nat):ASp:=fun us A Q=>∃ (w:Wr) (c:Addr) (ns:List Int),us=[w.toU,.ref c]/\A c=some (.lst (ns.map U.int))/\w.gd=true/\w.dep<=n/\w.tups<=95/\∀ (v:Wr) (ms:List Int),Lk w v->Q v.toU (updA A c (.lst (ms.map U.int)))
theorem nin_nb (k:Nat):inU (.str (Za2 k)) [.str (Str.ofString "nothing"),.str (Str.ofString "bead")]=false:=by
 match k with
 | 0=>decide +kernel
 | 1=>decide +kernel
 | 2=>decide +kernel
 | _ + 3=>show inU (.str "ring") [.str (Str.ofString "nothing"),.str (Str.ofString "bead")]=false;decide +kernel
theorem Zhm (k:Nat):inU (.str (Za2 k)) [.str (Str.ofString "left"),.str (Str.ofString "right"),.str (Str.ofString "pair")]=false:=by
 match k with
 | 0=>decide +kernel
 | 1=>decide +kernel
 | 2=>decide +kernel
 | _ + 3=>show inU (.str "ring") [.str (Str.ofString "left"),.str (Str.ofString "right"),.str (Str.ofString "pair")]=false;decide +kernel
theorem few_nlp {w:Wr} (h:w.few):w=.nothing\/inU (.str w.name) [.str (Str.ofString "nothing"),.str (Str.ofString "bead")]=false/\inU (.str w.name) [.str (Str.ofString "left"),.str (Str.ofString "right"),.str (Str.ofString "pair")]=true:=by
 cases w with
 | nothing=>exact .inl rfl
 | bead c=>exact absurd rfl (h.1 c)
 | side b f =>
  cases b
  ·exact .inr ⟨(by show inU (.str "left") [.str (Str.ofString "nothing"),.str (Str.ofString "bead")]=false;decide +kernel),(by show inU (.str "left") [.str (Str.ofString "left"),.str (Str.ofString "right"),.str (Str.ofString "pair")]=true;decide +kernel)⟩
  ·exact .inr ⟨(by show inU (.str "right") [.str (Str.ofString "nothing"),.str (Str.ofString "bead")]=false;decide +kernel),(by show inU (.str "right") [.str (Str.ofString "left"),.str (Str.ofString "right"),.str (Str.ofString "pair")]=true;decide +kernel)⟩
 | pair f g=>exact .inr ⟨(by show inU (.str "pair") [.str (Str.ofString "nothing"),.str (Str.ofString "bead")]=false;decide +kernel),(by show inU (.str "pair") [.str (Str.ofString "left"),.str (Str.ofString "right"),.str (Str.ofString "pair")]=true;decide +kernel)⟩
 | many k ps=>exact absurd rfl (h.2 k ps)
theorem Zik {n:Nat} {c l:Addr} {Q:AVK} {A:AHp} {ps:List Wr} {ns:List Int} {x0:Option U} (hc:A c=some (.lst (ns.map U.int))) (hl:A l=none) (hg:gdL ps=true) (hd:depL ps<=n) (ht:tupsL ps<=95)
  (hq:∀ (vs:List Wr) (ms:List Int),Lks ps vs->Q (.ref l) (updA (updA A c (.lst (ms.map U.int))) l (.lst (vs.map Wr.toU)))) :
  aCL (jFix (ps.map Wr.toU)) (Zb2 0) Zcr (ZgR (Zi8 n) (ZfM (aVar 0) (ZfM (aVar 1) aNil))) l Q [x0,some (.ref c)] (updA A l (.lst [])):=by
 have hne:c≠l:=neA hc hl
 have hlen:=ZaE ps
 refine Zi7 (ps.map Wr.toU) (fun k ys A2=>∃ (vs:List Wr) (ms:List Int),k<=ps.length/\ys=vs.map Wr.toU/\Lks (ps.take k) vs/\A2=updA (updA A c (.lst (ms.map U.int))) l (.lst ys)) ⟨[],ns,YY _,rfl,Lks.nil,by rw [Zbo hc]⟩ (by rw [Yb];lia) ?_ (fun _ _ _ _ _=>rfl) ?_ ?_
 ·rintro k ys A2 ⟨vs,ms,hk,rfl,L,_⟩
  have:=L.len
  rw [YL] at this
  rw [Yb];lia
 ·rintro k u ys A2 hu ⟨vs,ms,hk,rfl,L,rfl⟩ Cy hC
  obtain ⟨x,hx,rfl⟩:=Zap hu
  have hm:=YG hx
  have h1:=ZaS hm
  have h2:=Zal hm
  rw [q_call,Zjw,q_var0,Zjw,q_var1,q_nil]
  refine ⟨x,c,ms,rfl,by rw [Zk hne,Zd],Zbh hg hm,by lia,by lia,fun v ms' Lv=>?_⟩
  rw [ZbM (A:=updA A c _) (Ne.symm hne),Zan]
  refine hC _ _ Zd ⟨vs++[v],ms',?_,by rw [Yo];rfl,?_,by rw [Zan]⟩
  ·exact (Yq.mp hx).1
  ·have:=L.snoc Lv
   rw [Ybc,hx]
   exact this
 ·rintro ys A2 ⟨vs,ms,hk,rfl,L,rfl⟩
  rw [Yb,Yaj] at L
  exact hq vs ms L
section
include T
theorem ok_next:FnOk P w K mg base CX0 1 f_qn d_qn ["_law_cells"] (spOf K asp_next):=by
 refine' Fun.okA T.F_qn (sc:=?sc25) (body:=?bd25) ?hs25 ?hb25 ZiH ?hB25 ?hS25
 case hs25=>conv=>lhs;whnf
 case hb25=>conv=>lhs;whnf
 case hB25=>exact fun S cdv A outer s H E hr=>⟨_,(Zg (Z9 (Zq (Zbi hr) (ZF Zbn (by rfl) T.n_len (by decide +kernel) (Za (pv 0) Ze)) Zh (ZS _)) (Zm (Zv Zh)) ZA)
   (Zm (Zv (ZR Zbw (ZbK Yu Yal Yam Zf8 (pv 0) (Za Zh Ze)) (ZR o_pow Zh Zh))))),(Zn (ZO (Zo (Zl Zbj (Zah ZaF (Zb Zc Zf)) Zi)) (Zu Zi) Zz)
   (Zu (Zl ZaY (ZbR Z2 ab_mpop0 Zc (Zb Zi Zf)) (Zl Zf0 Zi Zi))))⟩
 rintro us A Q ⟨c,ns,rfl,hc,q⟩
 refine ⟨rfl,?_⟩
 walk_at "qs"
 walk_at "qd"
 refine ⟨_,hc,?_⟩
 rw [Yb]
 cases ns with
 | nil =>
  refine Z8 rfl ?_
  have:=q 0 [] (YcB 0)
  rw [Zbo hc] at this
  exact fg this
 | cons n ns =>
  refine ZP (YQ (by simp only [List.length_cons];lia)) ?_
  exact ⟨⟨_,hc⟩,_,_,hc,⟨by decide,by decide,by decide⟩,show (0:Int) < 10 ^ Int.toNat 9 by decide,fg (q _ ns (YaA _ (by decide)))⟩
end
section
include T
theorem ok_shk:∀ n:Nat,FnOk P w K mg base CX0 (n + 2) f_qa d_qa ["_law_figure","_law_cells"] (spOf K (Zi8 n)):=by
 intro n
 induction n with
 | zero=>exact ZbO T.F_qa ZcF fun us A Q hq0=>by obtain ⟨w,_,_,_,_,_,hd,_⟩:=hq0;have:=w.dep_pos;lia
 | succ n ih =>
  have G_qa:=ih
  have G_qn:=ok_next (P:=P) (w:=w) (base:=base) T
  refine' Fun.okA T.F_qa (sc:=?sc26) (body:=?bd26) ?hs26 ?hb26 ZcF ?hB26 ?hS26
  case hs26=>conv=>lhs;whnf
  case hb26=>conv=>lhs;whnf
  case hB26=>exact fun S cdv A outer s H E hr=>⟨_,(Zg (Z9 (Zq o_in (ZK o_ix (pv 0) Zh (fun _ _=>rfl)) (ZD (Za Z0 (Za Z0 Ze))) (by with_unfolding_all rfl)) (Zm (Zv (pv 0))) ZA)
   (Zg (Z9 (Zq o_in (ZK o_ix (pv 0) Zh (fun _ _=>rfl)) (ZD (ZaU (xs:=["left","right","pair"]) rfl)) (by with_unfolding_all rfl)) (Zm (Zv (ZR Zaf (ZD (Za (ZK o_ix (pv 0) Zh (fun _ _=>rfl)) Ze)) (Zar Za8 (by rfl) T.n_tuple (by decide +kernel) (Za (Zaw (ts:=["_law_part"]) (frs':=[("_law_cells",1)]) (cl:=_) rfl ⟨(by rfl),rfl,(by decide +kernel),(by decide +kernel),(ZaN (by rfl) Zbc),(Zb6 (by rfl) (by rfl)),(ZaN ⟨(by rfl),(by first | exact .inl rfl | exact .inr rfl),(by first | exact .inl rfl | exact .inr rfl),(by rfl)⟩ Zbc)⟩ (ZaC (ZE ZaL (pv 0) (ZM Zh) ZV)) (fun _ _ _ _=>Zy (i:=0) (show List.Nodup (["_law_part","_law_cells"]:List Str) from by decide +kernel) rfl (Or.inl rfl) (.inr rfl)) (fun _ _ _ _=>ZW) (fun _ _ _ _=>by exact (Zp (G_qa.mono (by first | decide | lia)) hr (by rfl) T.M_qa T.F_qa.kp T.B_qa .nil ZZ (Za (pv 0) (Za (pv 1) Ze))))) Ze))))) ZA)
   (Zg (Zce (i:=2) S.nd rfl (Or.inl rfl) (by with_unfolding_all rfl) (ts:=["_law_part"]) (frs':=[("_law_cells",1)]) (cl:=_) rfl ⟨(by rfl),rfl,(by decide +kernel),(by decide +kernel),(ZaN (by rfl) Zbc),(Zb6 (by rfl) (by rfl)),(ZaN ⟨(by rfl),(by first | exact .inl rfl | exact .inr rfl),(by first | exact .inl rfl | exact .inr rfl),(by rfl)⟩ Zbc)⟩ (ZaC (ZK o_ix (pv 0) Zh (fun _ _=>rfl))) (fun _ _ _ _=>Zy (i:=0) (show List.Nodup (["_law_part","_law_cells"]:List Str) from by decide +kernel) rfl (Or.inl rfl) (.inr rfl)) (fun _ _ _ _=>ZW) (fun _ _ _ _=>by exact (Zp (G_qa.mono (by first | decide | lia)) hr (by rfl) T.M_qa T.F_qa.kp T.B_qa .nil ZZ (Za (pv 0) (Za (pv 1) Ze)))))
   (Zg (Z9 ((Zcj (Zq o_in (ZK o_ix (pv 0) Zh (fun _ _=>rfl)) (ZD (ZaU (xs:=["bag","choice","ring"]) rfl)) (by with_unfolding_all rfl)) (Zcb (Zq o_gt (ZF Zbn (by rfl) T.n_len (by decide +kernel) (Za (pv 2) Ze)) Zh (ZS _))))).pt (Zg (ZG (i:=3) S.nd rfl (Or.inl rfl) (Zp (G_qn.mono (by first | decide | lia)) hr (by rfl) T.M_qn T.F_qn.kp T.B_qn .nil ZZ (Za (pv 1) Ze)))
   (Zg (ZG (i:=4) S.nd rfl (Or.inl rfl) (ZR Zbw (pv 3) (ZF Zbn (by rfl) T.n_len (by decide +kernel) (Za (pv 2) Ze))))
   (Zg (ZG (i:=2) S.nd rfl (Or.inl rfl) (ZR Zaf (ZE ZaL (pv 2) (ZM (pv 4)) ZV) (ZE ZaL (pv 2) ZV (ZM (pv 4)))))
   (Zm (Z9 (Zq (Zg8 hr) (ZK o_ix (pv 0) Zh (fun _ _=>rfl)) Z0 (ZS _)) (Zg (ZG (i:=5) S.nd rfl (Or.inl rfl) (ZR Zbw (ZR Zgd (pv 3) Zh) (ZF Zbn (by rfl) T.n_len (by decide +kernel) (Za (pv 2) Ze))))
   (Zg (ZG (i:=6) S.nd rfl (Or.inl rfl) (Zhb rfl (by rfl) T.n_list (by rfl) T.n_reversed (ZE ZaL (pv 2) ZV (ZM (pv 5)))))
   (Zm (ZG (i:=2) S.nd rfl (Or.inl rfl) (ZR Zaf (ZR Zaf (ZaH (Za (ZK o_ix (pv 2) (pv 5) (fun _ _=>rfl)) Ze)) (pv 6)) (ZE ZaL (pv 2) (ZM (ZR Zaf (pv 5) Zh)) ZV)))))) ZA))))) ZA)
   (Zm (Zv (ZD (Za (ZK o_ix (pv 0) Zh (fun _ _=>rfl)) (Za (Zar Za8 (by rfl) T.n_tuple (by decide +kernel) (Za (pv 2) Ze)) Ze))))))))),(Zn (ZO (Zo (Zl ZbT (Zl ZJ Zc Zi) (ZC (Zb Z1 (Zb Z1 Zf))))) (Zu Zc) Zz)
   (Zn (ZO (Zo (Zl ZbT (Zl ZJ Zc Zi) (ZC Za4))) (Zu (Zl Zag (ZC (Zb (Zl ZJ Zc Zi) Zf)) (Zah ZaJ (Zb (Z4 (ZaD Zaj (ZaG Z5 Zc (ZL Zi) Zx)) Zj Z7 (Zr (Zb Zc (Zb Zc Zf)))) Zf)))) Zz)
   (Zn (Zw (Z4 (ZaD Zaj (Zl ZJ Zc Zi)) Zj Z7 (Zr (Zb Zc (Zb Zc Zf)))) Zj)
   (Zn (ZO (Zcq (Zo (Zl ZbT (Zl ZJ Zc Zi) (ZC Za4))) (Zo (Zl Zh9 (Zah ZaF (Zb Zc Zf)) Zi))) (Zn (Zw (Zr (Zb Zc Zf)) Zj)
   (Zn (Zw (Zl ZaY Zc (Zah ZaF (Zb Zc Zf))) Zj)
   (Zn (Zw (Zl Zag (ZaG Z5 Zc (ZL Zc) Zx) (ZaG Z5 Zc Zx (ZL Zc))) Zj)
   (ZO (Zo (Zl ZgI (Zl ZJ Zc Zi) Z1)) (Zn (Zw (Zl ZaY (Zl Zgb Zc Zi) (Zah ZaF (Zb Zc Zf))) Zj)
   (Zn (Zw (Zg5 (ZaG Z5 Zc Zx (ZL Zc))) Zj)
   (Zw (Zl Zag (Zl Zag (ZaI (Zb (Zl ZJ Zc Zc) Zf)) Zc) (ZaG Z5 Zc (ZL (Zl Zag Zc Zi)) Zx)) Zj))) Zz)))) Zz)
   (Zu (ZC (Zb (Zl ZJ Zc Zi) (Zb (Zah ZaJ (Zb Zc Zf)) Zf))))))))⟩
  rintro us A Q ⟨w,c,ns,rfl,hc,hg,hd,ht,q⟩
  refine ⟨rfl,?_⟩
  have hpd:=w.parts_dep
  have hpt:=w.parts_tups
  have hpl:=ZaE w.parts
  walk_at "qs"
  rcases w.kinds with ⟨cl,rfl⟩ | ⟨k,ps,rfl⟩ | hf
  ·rw [Wr.toU]
   walk_at "qd"
   refine ⟨tup2,rfl,rfl,Z8 (by decide +kernel) ?_⟩
   have:=q _ ns (Lk.refl hg)
   rw [Zbo hc] at this
   exact fg this
  ·rw [Wr.toU_many]
   walk_at "qd"
   have hg2:=hg
   simp only [Wr.gd,Ye,Yy] at hg2
   simp only [Wr.parts,Wr.tups,Wr.dep] at hpd hpt hpl ht hd
   refine ⟨tup2,rfl,rfl,ZP (nin_nb k) ⟨tup3,rfl,rfl,ZP (Zhm k) fun l hl=>?_⟩⟩
   walk_at "qc"
   refine Zik hc hl hg2.2 (by lia) (by lia) fun vs ms L=>?_
   walk_at "qd"
   have hne:c≠l:=neA hc hl
   have hl1:updA A c (.lst (ms.map U.int)) l=none:=by rw [Zk (Ne.symm hne)];exact hl
   have hvl:vs.length < 64:=by rw [L.len];exact hg2.1.2
   have fin:∀ (rs:List Wr) (ms':List Int) (A2:AHp),Ext (updA A c (.lst (ms'.map U.int))) A2->Alk k vs rs->Fg Q (.tup [.str (Za2 k),.tup (rs.map Wr.toU)]) A2:=fun rs ms' A2 e a=>by
    have:=q _ ms' (L.many hg a)
    rw [Wr.toU_many] at this
    exact fgx e this
   refine ⟨tup3,rfl,rfl,?_⟩
   by_cases k0:k=0
   ·subst k0
    refine ZP (by decide +kernel) ?_
    exact ⟨_,Zd,tup2,fin vs ms _ (Ext.new hl1) (Alk.refl _ _)⟩
   refine Z8 (by obtain h | h | h:k=1\/k=2\/k=3:=(by lia);all_goals (subst h;decide +kernel)) ⟨_,Zd,?_⟩
   rw [Yb]
   by_cases h1:1 < vs.length
   ·refine Z8 (Yak (by lia)) ⟨c,ms,rfl,by rw [Zk hne,Zd],fun z ms' hz=>?_⟩
    have eA:updA (updA (updA A c (.lst (ms.map U.int))) l (.lst (vs.map Wr.toU))) c (.lst (ms'.map U.int))=updA (updA A c (.lst (ms'.map U.int))) l (.lst (vs.map Wr.toU)):=by rw [ZbM (A:=updA A c _) (Ne.symm hne),Zan]
    rw [eA]
    have hl2:updA A c (.lst (ms'.map U.int)) l=none:=by rw [Zk (Ne.symm hne)];exact hl
    have e0:=Ext.new (o:=.lst (vs.map Wr.toU)) hl2
    have hl3:updA (updA A c (.lst (ms'.map U.int))) l (.lst (vs.map Wr.toU)) l=some (.lst (vs.map Wr.toU)):=Zd
    generalize updA (updA A c (.lst (ms'.map U.int))) l (.lst (vs.map Wr.toU))=A3 at e0 hl3 ⊢
    walk_at "qd"
    refine ⟨_,hl3,?_⟩
    rw [Yb]
    walk_at "qd"
    have hvp:(0:Int) < (vs.length:Int):=by lia
    obtain ⟨t,ht0,ht1⟩:∃ t:Nat,z % (vs.length:Int)=(t:Int)/\t < vs.length:=⟨(z % (vs.length:Int)).toNat,(Yc5 (YaA _ (by lia))).symm,by have:=Yby z hvp;have:=YaA z (show (vs.length:Int)≠0 by lia);lia⟩
    rw [ht0]
    walk_at "qd"
    refine ⟨hvp,_,hl3,fun p1 hp1=>⟨_,by rw [Zk (neA hl3 hp1)];exact hl3,fun p2 hp2=>?_⟩⟩
    rw [Zbp (by rw [Yb];lia)] at hp2 ⊢
    rw [ZcD (by rw [Yb];lia)]
    have n12:p1≠p2:=neA Zd hp2
    refine ⟨_,_,by rw [Zk n12,Zd],Zd,ZQ (by simp;lia),fun p3 hp3=>?_⟩
    have et:(vs.map Wr.toU).drop t++(vs.map Wr.toU).take t=(turnL vs t).map Wr.toU:=by unfold turnL;rw [Yo,Yag,Yaf]
    rw [et]
    have e1:=(Ext.new (o:=.lst ((vs.map Wr.toU).drop t)) hp1).trans ((Ext.new (o:=.lst ((vs.map Wr.toU).take t)) hp2).trans (Ext.new (o:=.lst ((turnL vs t).map Wr.toU)) hp3))
    have a3:(updA (updA (updA A3 p1 (.lst ((vs.map Wr.toU).drop t))) p2 (.lst ((vs.map Wr.toU).take t))) p3 (.lst ((turnL vs t).map Wr.toU))) p3=some (.lst ((turnL vs t).map Wr.toU)):=Zd
    generalize (updA (updA (updA A3 p1 (.lst ((vs.map Wr.toU).drop t))) p2 (.lst ((vs.map Wr.toU).take t))) p3 (.lst ((turnL vs t).map Wr.toU)))=A4 at e1 a3 ⊢
    have hul:(turnL vs t).length=vs.length:=Zaq vs t
    have hup:=ZX vs t
    by_cases k3:k=3
    ·subst k3
     refine ZP (by decide +kernel) ?_
     exact ⟨_,a3,tup2,fin _ ms' _ (e0.trans e1) (by unfold Alk;rw [if_neg (by lia),if_neg (by lia)];exact .inr ⟨t,ht1,rfl⟩)⟩
    ·refine Z8 (by obtain h | h:k=1\/k=2:=(by lia);all_goals (subst h;decide +kernel)) ?_
     generalize turnL vs t=us at hul hup a3 ⊢
     refine ⟨⟨by decide,by decide⟩,_,a3,?_⟩
     rw [Yb]
     walk_at "qd"
     obtain ⟨j,hj0,hj1⟩:∃ j:Nat,z / 64 % (us.length:Int)=(j:Int)/\j < us.length:=⟨(z / 64 % (us.length:Int)).toNat,(Yc5 (YaA _ (by lia))).symm,by have:=Yby (z / 64) (show (0:Int) < us.length by lia);have:=YaA (z / 64) (show (us.length:Int)≠0 by lia);lia⟩
     rw [hj0]
     walk_at "qd"
     refine ⟨by lia,_,a3,fun p4 hp4=>⟨p4,_,rfl,Zd,fun p5 hp5=>?_⟩⟩
     rw [ZcD (by rw [Yb];lia)] at hp5 ⊢
     have e4:=(Ext.new (o:=.lst ((us.map Wr.toU).take j)) hp4).trans (Ext.new (o:=.lst ((us.map Wr.toU).take j).reverse) hp5)
     have a5:updA (updA A4 p4 (.lst ((us.map Wr.toU).take j))) p5 (.lst ((us.map Wr.toU).take j).reverse) p5=some (.lst ((us.map Wr.toU).take j).reverse):=Zd
     generalize updA (updA A4 p4 (.lst ((us.map Wr.toU).take j))) p5 (.lst ((us.map Wr.toU).take j).reverse)=A5 at e4 a5 ⊢
     obtain ⟨x,hx⟩:∃ x,us[j]? = some x:=⟨_,Yg hj1⟩
     have hxU:(us.map Wr.toU)[j]? = some x.toU:=by rw [Yl,hx];rfl
     refine ⟨_,_,e4 _ _ a3,Zam hxU,tup1,fun p6 hp6=>⟨_,_,Zd,by rw [Zk (neA a5 hp6)];exact a5,ZQ (by simp;lia),fun p7 hp7=>?_⟩⟩
     have e5:=(Ext.new (o:=.lst [x.toU]) hp6).trans (Ext.new (o:=.lst ([x.toU]++((us.map Wr.toU).take j).reverse)) hp7)
     have a7:updA (updA A5 p6 (.lst [x.toU])) p7 (.lst ([x.toU]++((us.map Wr.toU).take j).reverse)) p7=some (.lst ([x.toU]++((us.map Wr.toU).take j).reverse)):=Zd
     generalize updA (updA A5 p6 (.lst [x.toU])) p7 (.lst ([x.toU]++((us.map Wr.toU).take j).reverse))=A6 at e5 a7 ⊢
     refine ⟨_,e5 _ _ (e4 _ _ a3),fun p8 hp8=>?_⟩
     have ej:((j:Int) + 1)=((j + 1:Nat):Int):=by lia
     rw [ej,Zbp (by rw [Yb];lia)]
     refine ⟨_,_,by rw [Zk (neA a7 hp8)];exact a7,Zd,ZQ (by simp;lia),fun p9 hp9=>?_⟩
     have et2:[x.toU]++((us.map Wr.toU).take j).reverse++(us.map Wr.toU).drop (j + 1)=([x]++(us.take j).reverse++us.drop (j + 1)).map Wr.toU:=by simp only [Yo,Ybj,Yaf,Yag,YE,YbN]
     rw [et2]
     have e6:=(Ext.new (o:=.lst ((us.map Wr.toU).drop (j + 1))) hp8).trans (Ext.new (o:=.lst (([x]++(us.take j).reverse++us.drop (j + 1)).map Wr.toU)) hp9)
     refine ⟨_,Zd,tup2,fin _ ms' _ (e0.trans (e1.trans (e4.trans (e5.trans e6)))) ?_⟩
     unfold Alk
     rw [if_pos (by lia)]
     exact hup.symm.trans (Zjr hx)
   ·refine ZP (YQ (by lia)) ?_
    exact ⟨_,Zd,tup2,fin vs ms _ (Ext.new hl1) (Alk.refl _ _)⟩
  ·rw [Wr.toU_few hf]
   walk_at "qd"
   rcases few_nlp hf with rfl | hn
   ·simp only [Wr.name]
    refine ⟨tup2,rfl,rfl,Z8 (by decide +kernel) ?_⟩
    have:=q _ ns (Lk.refl hg)
    rw [Zbo hc] at this
    exact fg this
   ·refine ⟨tup2,rfl,rfl,ZP hn.1 ⟨tup3,rfl,rfl,Z8 hn.2 ⟨tup1,fun l hl=>?_⟩⟩⟩
    walk_at "qc"
    refine Zik hc hl (w.gd_parts hg).1 (by lia) (by lia) fun vs ms L=>?_
    walk_at "qd"
    have hne:c≠l:=neA hc hl
    have hl1:updA A c (.lst (ms.map U.int)) l=none:=by rw [Zk (Ne.symm hne)];exact hl
    have hvl:=L.len
    obtain ⟨v,Lv,ev⟩:=L.few hf
    have:=q v ms Lv
    rw [ev] at this
    exact ⟨_,Zd,ZQ (by rw [Yb];simp only [List.length_cons,List.length_nil];lia),fgx (Ext.new hl1) this⟩
end
noncomputable def ZfR:Pos:=⟨195,46,195,112⟩
noncomputable def Cl (t:Addr) (A:AHp):Prop:=A t=some (tblO ZfR "_law_plain.<locals>.<lambda>")
noncomputable def asp_lpl (t:Addr) (n:Nat):ASp:=fun us A Q=>∃ w:Wr,us=[w.toU]/\w.gd=true/\w.dep<=n/\w.tups<=95/\Cl t A/\Q w.pl.toU A
theorem Ziy {A:AHp}:∀ vs:List Wr,DUs A (vs.map Wr.keyU) (vs.map Wr.keyD)
 | []=>.nil
 | v::vs=>.cons v.duK (Ziy vs)
noncomputable def klT (qs:List Wr) (ads:List Addr):U->List U
 | .ref a=>(turnL qs (ads.idxOf a)).map Wr.keyU
 | _=>[]
noncomputable def dlT (qs:List Wr) (ads:List Addr):U->List PyData
 | .ref a=>(turnL qs (ads.idxOf a)).map Wr.keyD
 | _=>[]
theorem Zia {l l1:Addr} {A:AHp} {qs:List Wr} {Q:AVK} {x0:Option U} (a0:A l=some (.lst (qs.map Wr.toU))) (hl:A l1=none) (hn:qs.length<=1000)
  (hq:∀ (ads:List Addr) (A2:AHp),ads.length=qs.length->ads.Nodup->Ext A A2->A2 l1=some (.lst (ads.map U.ref))->(∀ (i:Nat) (a:Addr),ads[i]? = some a->A2 a=some (.lst ((turnL qs i).map Wr.toU)))->Q (.ref l1) A2) :
  aCL (jFix (rngU 0 qs.length)) (Zb2 0) Zcr (aOp xAdd (aSl xSl (aVar 1) (aPart (aVar 0)) Zd7) (aSl xSl (aVar 1) Zd7 (aPart (aVar 0)))) l1 Q [x0,some (.ref l)] (updA A l1 (.lst [])):=by
 refine Zi7 (rngU 0 qs.length) (fun k ys A2=>∃ ads:List Addr,ads.length=k/\ys=ads.map U.ref/\ads.Nodup/\Ext A A2/\A2 l1=some (.lst ys)/\∀ (i:Nat) (a:Addr),ads[i]? = some a->A2 a=some (.lst ((turnL qs i).map Wr.toU))/\a≠l1)
  ⟨[],rfl,rfl,List.nodup_nil,Ext.new hl,Zd,fun i a h=>by simp at h⟩ (by rw [rngU_len];lia) ?_ (fun _ _ _ _ _=>rfl) ?_ ?_
 ·rintro k ys A2 ⟨ads,h,rfl,_⟩
  rw [Yb];exact h
 ·rintro k u ys A2 hu ⟨ads,hk,rfl,hnd,e,a1,hat⟩ Cy hC
  rw [Zb9] at hu
  by_cases hlt:k < qs.length
  ·rw [if_pos hlt] at hu
   cases hu
   have ek:(0:Int) + (k:Int)=(k:Int):=by lia
   rw [ek]
   walk_at "qd"
   refine ⟨_,e _ _ a0,fun p1 hp1=>⟨_,by rw [Zk (neA (e _ _ a0) hp1)];exact e _ _ a0,fun p2 hp2=>?_⟩⟩
   rw [Zbp (by rw [Yb];lia)] at hp2 ⊢
   rw [ZcD (by rw [Yb];lia)]
   have n12:p1≠p2:=neA Zd hp2
   refine ⟨_,_,by rw [Zk n12,Zd],Zd,ZQ (by simp;lia),fun p3 hp3=>?_⟩
   have et:(qs.map Wr.toU).drop k++(qs.map Wr.toU).take k=(turnL qs k).map Wr.toU:=by unfold turnL;rw [Yo,Yag,Yaf]
   rw [et]
   have e1:=(Ext.new (o:=.lst ((qs.map Wr.toU).drop k)) hp1).trans ((Ext.new (o:=.lst ((qs.map Wr.toU).take k)) hp2).trans (Ext.new (o:=.lst ((turnL qs k).map Wr.toU)) hp3))
   have h3n:A2 p3=none:=Ext.none ((Ext.new (o:=.lst ((qs.map Wr.toU).drop k)) hp1).trans (Ext.new (o:=.lst ((qs.map Wr.toU).take k)) hp2)) hp3
   have a3:(updA (updA (updA A2 p1 (.lst ((qs.map Wr.toU).drop k))) p2 (.lst ((qs.map Wr.toU).take k))) p3 (.lst ((turnL qs k).map Wr.toU))) p3=some (.lst ((turnL qs k).map Wr.toU)):=Zd
   generalize (updA (updA (updA A2 p1 (.lst ((qs.map Wr.toU).drop k))) p2 (.lst ((qs.map Wr.toU).take k))) p3 (.lst ((turnL qs k).map Wr.toU)))=A3 at e1 a3 ⊢
   have h3l:p3≠l1:=fun z=>by rw [z,a1] at h3n;cases h3n
   refine hC _ _ (e1 _ _ a1) ⟨ads++[p3],by rw [Yj,hk];rfl,by rw [Yo];rfl,?_,?_,Zd,?_⟩
   ·rw [List.nodup_append]
    refine ⟨hnd,by simp,fun a ha b hb=>?_⟩
    rw [YJ] at hb
    subst hb
    obtain ⟨i,hi⟩:=YaP.mp ha
    intro z
    subst z
    rw [(hat i _ hi).1] at h3n;cases h3n
   ·intro b o hb
    rw [Zk (neA hb hl)]
    exact e1 _ _ (e _ _ hb)
   ·intro i a hi
    by_cases c:i < ads.length
    ·rw [YaI c] at hi
     obtain ⟨h1,h2⟩:=hat i a hi
     exact ⟨by rw [Zk h2];exact e1 _ _ h1,h2⟩
    ·have hil:=(Yq.mp hi).1
     rw [Yj,List.length_singleton] at hil
     have:i=ads.length:=by lia
     subst this
     rw [YaD (Yh _),Yci] at hi
     simp at hi
     subst hi
     rw [hk]
     exact ⟨by rw [Zk h3l];exact a3,h3l⟩
  ·rw [if_neg hlt] at hu;cases hu
 ·rintro ys A2 ⟨ads,hk,rfl,hnd,e,a1,hat⟩
  rw [rngU_len] at hk
  exact hq ads A2 hk hnd e a1 fun i a h=>(hat i a h).1
section
include T
theorem ok_lpl (hBA_qe:base.BuiltinsAt mg t_qe):∀ n:Nat,FnOk P w K mg base CX0 (n + 103) f_qe d_qe ["_law_figure"] (spOf K (asp_lpl t_qe n)):=by
 intro n
 induction n with
 | zero=>exact ZbO T.F_qe Zdy fun us A Q hq0=>by obtain ⟨w,_,_,hd,_⟩:=hq0;have:=w.dep_pos;lia
 | succ n ih =>
  have G_qe:=ih
  have G_qt:=ok_lkey (P:=P) (w:=w) (base:=base) T 95
  refine' Fun.okL T.F_qe T.C_qe (sc:=?sc27) (body:=?bd27) ?hs27 ?hb27 Zdy ?hB27 ?hS27
  case hs27=>conv=>lhs;whnf
  case hb27=>conv=>lhs;whnf
  case hB27=>exact fun S A outer s H E hr=>⟨_,(Zg (Z9 (Zq o_in (ZK o_ix (pv 0) Zh (fun _ _=>rfl)) (ZD (Za Z0 (Za Z0 Ze))) (by with_unfolding_all rfl)) (Zm (Zv (pv 0))) ZA)
   (Zg (Z9 (Zq o_in (ZK o_ix (pv 0) Zh (fun _ _=>rfl)) (ZD (ZaU (xs:=["left","right","pair"]) rfl)) (by with_unfolding_all rfl)) (Zm (Zv (ZR Zaf (ZD (Za (ZK o_ix (pv 0) Zh (fun _ _=>rfl)) Ze)) (Zar Za8 (by rfl) T.n_tuple (by decide +kernel) (Za (Zaw (ts:=["_law_part"]) (frs':=[]) (cl:=[]) rfl ⟨rfl,rfl,(by decide +kernel),(by decide +kernel),(fun _ z=>nomatch z),(ZN rfl rfl),(fun _ z=>nomatch z)⟩ (ZaC (ZE ZaL (pv 0) (ZM Zh) ZV)) (fun _ _ _ _=>Zy (i:=0) nd1 rfl (Or.inl rfl) (.inr rfl)) (fun _ _ _ _=>ZW) (fun _ _ _ _=>by exact (Zp (G_qe.mono (by first | decide | lia)) hr (by rfl) T.M_qe T.F_qe.kp T.B_qe .nil ZZ (Za (pv 0) Ze)))) Ze))))) ZA)
   (Zg (ZG (i:=1) S.nd rfl (Or.inr rfl) (Zaw (ts:=["_law_part"]) (frs':=[]) (cl:=[]) rfl ⟨rfl,rfl,(by decide +kernel),(by decide +kernel),(fun _ z=>nomatch z),(ZN rfl rfl),(fun _ z=>nomatch z)⟩ (ZaC (ZK o_ix (pv 0) Zh (fun _ _=>rfl))) (fun _ _ _ _=>Zy (i:=0) nd1 rfl (Or.inl rfl) (.inr rfl)) (fun _ _ _ _=>ZW) (fun _ _ _ _=>by exact (Zp (G_qe.mono (by first | decide | lia)) hr (by rfl) T.M_qe T.F_qe.kp T.B_qe .nil ZZ (Za (pv 0) Ze)))))
   (Zg (Z9 (Zq o_in (ZK o_ix (pv 0) Zh (fun _ _=>rfl)) (ZD (Za Z0 (Za Z0 Ze))) (by with_unfolding_all rfl)) (Zm (ZG (i:=1) S.nd rfl (Or.inr rfl) (pe_sortF (G_qt.mono (by first | decide | lia)) hr (by rfl) T.n_sorted (by rfl) T.M_qt T.B_qt (pv 1)))) ZA)
   (Zg (Z9 ((Zcj (Zq (Zbi hr) (ZK o_ix (pv 0) Zh (fun _ _=>rfl)) Z0 (ZS _)) (Zcb (Zq o_gt (ZF Zbn (by rfl) T.n_len (by decide +kernel) (Za (pv 1) Ze)) Zh (ZS _))))).pt (Zg (Zce (i:=2) S.nd rfl (Or.inl rfl) (by with_unfolding_all rfl) (ts:=["_law_k"]) (frs':=[("_law_parts_here",1)]) (cl:=_) rfl ⟨(by rfl),rfl,(by decide +kernel),(by decide +kernel),(ZaN (by rfl) Zbc),(Zb6 (by rfl) (by rfl)),(ZaN ⟨(by rfl),(by first | exact .inl rfl | exact .inr rfl),(by first | exact .inl rfl | exact .inr rfl),(by rfl)⟩ Zbc)⟩ (Zex rfl T.n_range (Za (ZF Zbn (by rfl) T.n_len (by decide +kernel) (Za (pv 1) Ze)) Ze)) (fun _ _ _ _=>Zy (i:=0) (show List.Nodup (["_law_k","_law_parts_here"]:List Str) from by decide +kernel) rfl (Or.inl rfl) (.inr rfl)) (fun _ _ _ _=>ZW) (fun _ _ _ _=>by exact (ZR (k_addW K rfl) (ZE (k_slW K rfl) (pv 1) (ZM (pv 0)) ZV) (ZE (k_slW K rfl) (pv 1) ZV (ZM (pv 0))))))
   (Zm (ZG (i:=1) S.nd rfl (Or.inr rfl) (pe_minL (N:=["_law_turn"]) (y:="_law_turn") (qual:="_law_plain.<locals>.<lambda>") rfl hr (by rfl) T.n_min (pv 2) rfl T.H_qe (by rfl) hBA_qe T.Z_qe (by show (Str.ofString "_law_plain"++".<locals>."++"<lambda>":Str)=_;decide +kernel) ⟨rfl,rfl,rfl,by decide +kernel,rfl,by decide +kernel,by decide +kernel⟩ rfl rfl (fun _ _ _ _=>rfl) (fun fl c s H hr=>⟨_,(Zaw (ts:=["_law_part"]) (frs':=[]) (cl:=[]) rfl ⟨rfl,rfl,(by decide +kernel),(by decide +kernel),(fun _ z=>nomatch z),(ZN rfl rfl),(fun _ z=>nomatch z)⟩ (ZaC (pv 0)) (fun _ _ _ _=>Zy (i:=0) nd1 rfl (Or.inl rfl) (.inr rfl)) (fun _ _ _ _=>ZW) (fun _ _ _ _=>by exact (Zp (G_qt.mono (by first | decide | lia)) hr (by rfl) T.M_qt T.F_qt.kp T.B_qt .nil ZZ (Za (pv 0) Ze)))),(Z4 (ZaD Zaj Zc) Zj Z7 (Zr (Zb Zc Zf)))⟩))))) ZA)
   (Zm (Zv (ZD (Za (ZK o_ix (pv 0) Zh (fun _ _=>rfl)) (Za (Zar Za8 (by rfl) T.n_tuple (by decide +kernel) (Za (pv 1) Ze)) Ze)))))))))),(Zn (ZO (Zo (Zl ZbT (Zl ZJ Zc Zi) (ZC (Zb Z1 (Zb Z1 Zf))))) (Zu Zc) Zz)
   (Zn (ZO (Zo (Zl ZbT (Zl ZJ Zc Zi) (ZC Za4))) (Zu (Zl Zag (ZC (Zb (Zl ZJ Zc Zi) Zf)) (Zah ZaJ (Zb (Z4 (ZaD Zaj (ZaG Z5 Zc (ZL Zi) Zx)) Zj Z7 (Zr (Zb Zc Zf))) Zf)))) Zz)
   (Zn (Zw (Z4 (ZaD Zaj (Zl ZJ Zc Zi)) Zj Z7 (Zr (Zb Zc Zf))) Zj)
   (Zn (ZO (Zo (Zl ZbT (Zl ZJ Zc Zi) (ZC (Zb Z1 (Zb Z1 Zf))))) (Zw (ab_sortF Zc) Zj) Zz)
   (Zn (ZO (Zcq (Zo (Zl Zbj (Zl ZJ Zc Zi) Z1)) (Zo (Zl Zh9 (Zah ZaF (Zb Zc Zf)) Zi))) (Zn (Zw (Z4 (Zgn (Zb (Zah ZaF (Zb Zc Zf)) Zf)) Zj Z7 (Zl Zag (ZaG Z5 Zc (ZL Zc) Zx) (ZaG Z5 Zc Zx (ZL Zc)))) Zj)
   (Zw (ab_minL Zc) Zj)) Zz)
   (Zu (ZC (Zb (Zl ZJ Zc Zi) (Zb (Zah ZaJ (Zb Zc Zf)) Zf)))))))))⟩
  rintro us A Q ⟨w,rfl,hg,hd,ht,hC,q⟩
  refine ⟨rfl,?_⟩
  have hpd:=w.parts_dep
  have hpt:=w.parts_tups
  have hpl:=ZaE w.parts
  walk_at "qs"
  rcases w.kinds with ⟨cl,rfl⟩ | ⟨k,ps,rfl⟩ | hf
  ·rw [Wr.toU]
   walk_at "qd"
   exact ⟨tup2,rfl,rfl,Z8 (by decide +kernel) (fg q)⟩
  ·rw [Wr.toU_many]
   walk_at "qd"
   have hg2:=hg
   simp only [Wr.gd,Ye,Yy] at hg2
   simp only [Wr.parts,Wr.tups,Wr.dep] at hpd hpt hpl ht hd
   refine ⟨tup2,rfl,rfl,ZP (nin_nb k) ⟨tup3,rfl,rfl,ZP (Zhm k) fun l hl=>?_⟩⟩
   walk_at "qc"
   refine ZaV ps Wr.toU (fun w=>w.pl.toU) hl (by lia) (fun _ _ _ _=>rfl) (fun x A2 hx he Cy hc=>?_) ?_
   ·walk_at "qd"
    have:=ZaS hx
    have:=Zal hx
    exact ⟨x,rfl,Zbh hg2.2 hx,by lia,by lia,he _ _ hC,hc⟩
   ·walk_at "qd"
    have eq:ps.map (fun w=>w.pl.toU)=(plnL ps).map Wr.toU:=by rw [Zai,YT];rfl
    rw [eq]
    have hqg:=Zdb ps hg2.2
    have hql:(plnL ps).length=ps.length:=by rw [Zai,Yb]
    have hqd:=ZbB ps
    have hqt:=ZcM ps
    have hqr:Q (.tup [.str (Za2 k),.tup ((arr k (plnL ps)).map Wr.toU)]) A:=by rw [Wr.pl,Wr.toU_many] at q;exact q
    generalize plnL ps=qs at hqg hql hqd hqt hqr ⊢
    have e0:=Ext.new (o:=.lst (qs.map Wr.toU)) hl
    have a0:updA A l (.lst (qs.map Wr.toU)) l=some (.lst (qs.map Wr.toU)):=Zd
    have hC0:Cl t_qe (updA A l (.lst (qs.map Wr.toU))):=e0 _ _ hC
    generalize updA A l (.lst (qs.map Wr.toU))=A0 at e0 a0 hC0 ⊢
    have hko:=Zeq qs hqg
    have hkd:depL qs<=95:=by have:=ZfB qs;lia
    refine ⟨tup2,rfl,rfl,?_⟩
    by_cases k12:k=1\/k=2
    ·refine Z8 (by rcases k12 with h | h;all_goals (subst h;decide +kernel)) ?_
     refine ⟨l,qs.map Wr.toU,byW qs Wr.keyU .non,byW qs Wr.keyD .none,rfl,a0,by rw [Yb];lia,?_,?_,?_,?_,fun D hD=>?_⟩
     ·rw [Zeb hqg,Zeb hqg];exact Ziy qs
     ·rw [Zeb hqg]
      refine ⟨fun d hd'=>?_,fun d hd' e he=>?_⟩
      ·obtain ⟨w,hw,rfl⟩:=Yt.mp hd'
       have:=ZaS hw
       have h2:=w.deepK
       exact ⟨w.canK (Zie hko hw),by lia⟩
      ·obtain ⟨w,hw,rfl⟩:=Yt.mp hd'
       obtain ⟨v,hv,rfl⟩:=Yt.mp he
       exact w.okK v
     ·intro u hu
      obtain ⟨w,hw,rfl⟩:=Yt.mp hu
      rw [Zh6 hqg hw]
      obtain ⟨r,e⟩:=w.keyD_head
      rw [e];rfl
     ·intro u hu
      obtain ⟨w,hw,rfl⟩:=Yt.mp hu
      rw [Zh6 hqg hw]
      have:=ZaS hw
      have:=Zal hw
      exact ⟨w,rfl,by lia,by lia,rfl,Ext.refl _⟩
     ·rw [Zeb hqg,(srt_of (d:=Wr.nothing) true Wr.toU).2 (fun x _=>x.plainK) fun x _ y _=>x.okK y]
      have ea:srtK Wr.keyD Wr.nothing true qs=arr k qs:=by unfold arr;rw [if_pos k12]
      rw [ea]
      refine ZP (by rcases k12 with h | h;all_goals (subst h;decide +kernel)) ?_
      exact ZP rfl ⟨_,Zd,tup2,fgx (e0.trans (Ext.new hD)) hqr⟩
    ·refine ZP (by obtain h | h:k=0\/k=3:=(by lia);all_goals (subst h;decide +kernel)) ?_
     by_cases k0:k=0
     ·subst k0
      refine ZP (by decide +kernel) (ZP rfl ?_)
      exact ⟨_,a0,tup2,fgx e0 hqr⟩
     ·obtain rfl:k=3:=by lia
      have ea:arr 3 qs=Zbe Wr.keyD qs:=by unfold arr;rw [if_neg (by lia),if_neg (by lia)]
      refine Z8 (by decide +kernel) ⟨_,a0,?_⟩
      rw [Yb]
      by_cases h1:1 < qs.length
      ·refine Z8 (Yak (by lia)) ⟨_,a0,?_⟩
       rw [Yb,Int.toNat_natCast]
       refine ⟨by lia,by lia,fun l1 hl1=>?_⟩
       refine Zia a0 hl1 (by lia) fun ads A2 hal hnd e2 a2 hat=>?_
       refine ⟨l1,ads.map U.ref,klT qs ads,dlT qs ads,rfl,e2 _ _ hC0,a2,by rw [Yb];lia,?_,?_,?_,?_⟩
       ·intro u hu A'
        obtain ⟨a,_,rfl⟩:=Yt.mp hu
        exact Ziy _
       ·refine ⟨fun d hd'=>?_,fun d hd' e he=>?_⟩
        ·obtain ⟨u,hu,rfl⟩:=Yt.mp hd'
         obtain ⟨a,_,rfl⟩:=Yt.mp hu
         exact Zh4 (Zfy _ hko) (ZdI _ hkd)
        ·obtain ⟨u,hu,rfl⟩:=Yt.mp hd'
         obtain ⟨a,_,rfl⟩:=Yt.mp hu
         obtain ⟨u',hu',rfl⟩:=Yt.mp he
         obtain ⟨a',_,rfl⟩:=Yt.mp hu'
         exact kd_lt _ _
       ·intro u hu A1 he
        obtain ⟨a,ha,rfl⟩:=Yt.mp hu
        obtain ⟨i,hi⟩:=YaP.mp ha
        have hA1:=he _ _ (hat i a hi)
        have ix:klT qs ads (.ref a)=(turnL qs i).map Wr.keyU:=by show (turnL qs (ads.idxOf a)).map Wr.keyU=_;rw [Zgc hnd hi]
        rw [ix]
        walk_at "qs"
        walk_at "qd"
        refine ⟨⟨_,hA1⟩,fun z hz=>?_⟩
        walk_at "qc"
        refine ZaV (turnL qs i) Wr.toU Wr.keyU hz (by rw [Zaq];lia) (fun k A2 _ he=>⟨_,he _ _ hA1,rfl⟩) (fun x A2 hx he Cy hc=>?_) ⟨z,rfl,hz,Ext.refl _⟩
        walk_at "qd"
        have hx':=(ZX qs i).mem_iff.mp hx
        have:=ZaS hx'
        have:=Zal hx'
        exact ⟨x,rfl,by lia,by lia,hc⟩
       ·intro u hu
        have eb:argBest (ltL (dlT qs ads) (ads.map U.ref)) ((ads.map U.ref).length - 1)=bestT Wr.keyD qs:=by
         rw [Yb,hal]
         refine Zdt _ fun i j hi hj=>?_
         have hi':(ads.map U.ref)[i]? = some (.ref ads[i]):=by rw [Yl,Yg (by lia)];rfl
         have hj':(ads.map U.ref)[j]? = some (.ref ads[j]):=by rw [Yl,Yg (by lia)];rfl
         rw [ltL_at hi' hj']
         show ltv (.list ((turnL qs (ads.idxOf ads[i])).map Wr.keyD)) (.list ((turnL qs (ads.idxOf ads[j])).map Wr.keyD))=_
         rw [Zgc hnd (Yg (by lia)),Zgc hnd (Yg (by lia))]
         rfl
        rw [eb,Yl] at hu
        obtain ⟨a,ha,rfl⟩:=Y8.mp hu
        refine ⟨_,hat _ a ha,tup2,fgx (e0.trans e2) ?_⟩
        rw [ea] at hqr
        exact hqr
      ·refine ZP (YQ (by lia)) ?_
       refine ⟨_,a0,tup2,fgx e0 ?_⟩
       have:Zbe Wr.keyD qs=qs:=by
        unfold Zbe bestT
        rw [show qs.length - 1=0 by lia]
        show qs.drop 0++qs.take 0=qs
        simp
       rw [ea,this] at hqr
       exact hqr
  ·rw [Wr.toU_few hf]
   walk_at "qd"
   rcases few_nlp hf with rfl | hn
   ·simp only [Wr.name]
    exact ⟨tup2,rfl,rfl,Z8 (by decide +kernel) (fg q)⟩
   ·refine ⟨tup2,rfl,rfl,ZP hn.1 ⟨tup3,rfl,rfl,Z8 hn.2 ⟨tup1,fun l hl=>?_⟩⟩⟩
    walk_at "qc"
    refine ZaV w.parts Wr.toU (fun w=>w.pl.toU) hl (by lia) (fun _ _ _ _=>rfl) (fun x A2 hx he Cy hc=>?_) ?_
    ·walk_at "qd"
     have:=ZaS hx
     have:=Zal hx
     exact ⟨x,rfl,Zbh (w.gd_parts hg).1 hx,by lia,by lia,he _ _ hC,hc⟩
    ·walk_at "qd"
     obtain ⟨f1,f2,f3⟩:=Wr.pl_few hf
     rw [Wr.toU_few f1,f2,f3,YT] at q
     exact ⟨_,Zd,ZQ (by rw [Yb];simp only [List.length_cons,List.length_nil];lia),fgx (Ext.new hl) q⟩
end
noncomputable def asp_path:ASp:=fun us A Q=>∃ p:List Int,us=[.tup (p.map U.int)]/\p.length<=1000/\Q (.bl true) A
noncomputable def ZhW:ASp:=fun us A Q=>∃ (a b:Wr) (l:Addr) (ss:List Stq),us=[a.toU,b.toU,.ref l]/\a.gd=true/\b.gd=true/\a.tups<=95/\A l=some (.lst (ss.map Stq.toU))/\Zbb a ss=some b/\ss.length<=10000/\(∀ s∈ss,s.p.length<=96/\(s.wd="swap"\/s.wd="turn"))/\∀ A',Ext A A'->Q (.bl true) A'
section
include T
theorem ok_path:FnOk P w K mg base CX0 1 f_qo d_qo ["_law_path_here"] (spOf K asp_path):=by
 refine' Fun.okA T.F_qo (sc:=?sc28) (body:=?bd28) ?hs28 ?hb28 Zhq ?hB28 ?hS28
 case hs28=>conv=>lhs;whnf
 case hb28=>conv=>lhs;whnf
 case hB28=>exact fun S cdv A outer s H E hr=>⟨_,(Zg (Z9 (Zcp (Zcm (ZF c_isW (by rfl) T.n_isinstance (by decide +kernel) (Za (pv 0) (Za (ZhN (T:="tuple") (by rfl) T.n_tuple (by decide +kernel)) Ze))))) (Zm (Zv ZfK)) ZA)
   (Zm (Zv (ZF (call_all rfl) (by rfl) T.n_all (by decide +kernel) (Za (Zaw (ts:=["_law_k"]) (frs':=[]) (cl:=[]) rfl ⟨rfl,rfl,(by decide +kernel),(by decide +kernel),(fun _ z=>nomatch z),(ZN rfl rfl),(fun _ z=>nomatch z)⟩ (ZaC (pv 0)) (fun _ _ _ _=>Zy (i:=0) nd1 rfl (Or.inl rfl) (.inr rfl)) (fun _ _ _ _=>ZW) (fun _ _ _ _=>by exact (pe_and (ZF (k_isW K rfl) (by rfl) T.n_isinstance (by decide +kernel) (Za (pv 0) (Za (ZhN (T:="int") (by rfl) T.n_int (by decide +kernel)) Ze))) (pe_one (pe_not (ZF (k_isW K rfl) (by rfl) T.n_isinstance (by decide +kernel) (Za (pv 0) (Za (ZhN (T:="bool") (by rfl) T.n_bool (by decide +kernel)) Ze)))))))) Ze))))),(Zn (ZO (Zco (ZdN (Zah Zgu (Zb Zc (Zb Zjv Zf))))) (Zu ZgJ) Zz)
   (Zu (Zah ab_all (Zb (Z4 (ZaD Zaj Zc) Zj Z7 (Zho (Zah Zgu (Zb Zc (Zb Zjv Zf))) (ab_notv (Zah Zgu (Zb Zc (Zb Zjv Zf)))))) Zf))))⟩
 rintro us A Q ⟨p,rfl,hp,q⟩
 refine ⟨rfl,?_⟩
 walk_at "qs"
 walk_at "qd"
 refine ⟨.inr (.inr (.inr trivial)),trivial,ZP rfl fun l hl=>?_⟩
 walk_at "qc"
 refine ZaV p U.int (fun _=>.bl true) hl (by lia) (fun _ _ _ _=>rfl) (fun x A2 hx he Cy hc=>?_) ?_
 ·walk_at "qd"
  exact ⟨.inl trivial,trivial,Z8 rfl ⟨.inr (.inl trivial),trivial,hc⟩⟩
 ·walk_at "qd"
  refine ⟨p.map fun _=>true,by rw [Zd,YT];rfl,fgx (Ext.new hl) ?_⟩
  rw [show (p.map fun _=>true).all id=true by simp]
  exact q
theorem ok_leads:FnOk P w K mg base CX0 110 f_qf d_qf ["_law_one","_law_other","_law_steps"] (spOf K ZhW):=by
 have G_qo:=ok_path (P:=P) (w:=w) (base:=base) T
 have G_qm:=ok_done (P:=P) (w:=w) (base:=base) T 101
 refine' Fun.okA T.F_qf (sc:=?sc29) (body:=?bd29) ?hs29 ?hb29 ZgO ?hB29 ?hS29
 case hs29=>conv=>lhs;whnf
 case hb29=>conv=>lhs;whnf
 case hB29=>exact fun S cdv A outer s H E hr=>⟨_,(Zg (Z9 ((Ze7 (Zcp (Zcm (ZF c_isLi (by rfl) T.n_isinstance (by decide +kernel) (Za (pv 2) (Za (ZhN (T:="list") (by rfl) T.n_list (by decide +kernel)) Ze))))) (Zdk (Zq o_gt (ZF Zbn (by rfl) T.n_len (by decide +kernel) (Za (pv 2) Ze)) Zh (ZS _))))).pt (Zm (Zv ZfK)) ZA)
   (Zg (ZcN Yan rfl (ZaC (pv 2)) (Zy (i:=3) S.nd rfl (Or.inl rfl))
   (Zg (Z9 ((Ze7 (Zcp (Zcm (ZF c_isW (by rfl) T.n_isinstance (by decide +kernel) (Za (pv 3) (Za (ZhN (T:="tuple") (by rfl) T.n_tuple (by decide +kernel)) Ze))))) (Ze7 (Zq (Zg8 hr) (ZF Zbn (by rfl) T.n_len (by decide +kernel) (Za (pv 3) Ze)) Zh (ZS _)) (Zdk (Zcp (Zcm (Zp (G_qo.mono (by first | decide | lia)) hr (by rfl) T.M_qo T.F_qo.kp T.B_qo .nil ZZ (Za (ZK o_ix (pv 3) Zh (fun _ _=>rfl)) Ze)))))))).pt (Zm (Zv ZfK)) ZA)
   (Zg (Z9 ((Ze7 (Zq o_nin (ZK o_ix (pv 3) Zh (fun _ _=>rfl)) (ZD (Za Z0 (Za Z0 Ze))) (by with_unfolding_all rfl)) (Zdk (Zcp (Zcm (Zp (G_qo.mono (by first | decide | lia)) hr (by rfl) T.M_qo T.F_qo.kp T.B_qo .nil ZZ (Za (ZD (Za (ZK o_ix (pv 3) Zh (fun _ _=>rfl)) Ze)) Ze))))))).pt (Zm (Zv ZfK)) ZA)
   (Zg (ZG (i:=0) S.nd rfl (Or.inl rfl) (Zp (G_qm.mono (by first | decide | lia)) hr (by rfl) T.M_qm T.F_qm.kp T.B_qm .nil ZZ (Za (pv 0) (Za (ZK o_ix (pv 3) Zh (fun _ _=>rfl)) (Za (ZK o_ix (pv 3) Zh (fun _ _=>rfl)) (Za (ZK o_ix (pv 3) Zh (fun _ _=>rfl)) Ze))))))
   (Zm (Z9 (Zq Zis (pv 0) ZcL (ZS _)) (Zm (Zv ZfK)) ZA))))))
   (Zm (Zv (Zjl (Zbi hr) (pv 0) (pv 1) (ZS _)))))),(Zn (ZO (Ze5 (Zco (ZdN (Zah ab_isLi (Zb Zc (Zb Zjv Zf))))) (Zo (Zl Zh9 (Zah ZaF (Zb Zc Zf)) Zi))) (Zu ZgJ) Zz)
   (Zn (ZcX (ZaD Zaj Zc) Zj
   (Zn (ZO (Ze5 (Zco (ZdN (Zah Zgu (Zb Zc (Zb Zjv Zf))))) (Ze5 (Zo (Zl ZgI (Zah ZaF (Zb Zc Zf)) Zi)) (Zco (ZdN (Zr (Zb (Zl ZJ Zc Zi) Zf)))))) (Zu ZgJ) Zz)
   (Zn (ZO (Ze5 (Zo (Zl ab_nin (Zl ZJ Zc Zi) (ZC (Zb Z1 (Zb Z1 Zf))))) (Zco (ZdN (Zr (Zb (ZC (Zb (Zl ZJ Zc Zi) Zf)) Zf))))) (Zu ZgJ) Zz)
   (Zn (Zw (Zr (Zb Zc (Zb (Zl ZJ Zc Zi) (Zb (Zl ZJ Zc Zi) (Zb (Zl ZJ Zc Zi) Zf))))) Zj)
   (ZO (Zo (Zl Ziu Zc ZcG)) (Zu ZgJ) Zz)))))
   (Zu (Zl Zbj Zc Zc))))⟩
 rintro us A Q ⟨a,b,l,ss,rfl,ga,gb,ta,hl,hw,hn,hss,q⟩
 refine ⟨rfl,?_⟩
 walk_at "qs"
 walk_at "qd"
 refine ⟨_,hl,ZP rfl ⟨_,hl,ZP (by rw [Yb];exact YQ (by lia)) ⟨⟨_,hl⟩,?_⟩⟩⟩
 refine for_lst (ss.map Stq.toU) (fun k ρ A2=>A2=A/\∃ x r3,ρ=[some x.toU,some b.toU,some (.ref l),r3]/\Zbb a (ss.take k)=some x/\x.gd=true/\x.tups<=95) ⟨rfl,a,_,rfl,rfl,ga,ta⟩ (fun k ρ A2 _ h=>by rw [h.1];exact hl) (fun k u ρ A2 hu h=>?_) (fun ρ A2 h=>?_)
 ·obtain ⟨rfl,x,r3,rfl,hx,g1,g2⟩:=h
  obtain ⟨s,hs,rfl⟩:=Zap hu
  obtain ⟨c1,c2⟩:=walk_cut hx hs
  obtain ⟨s1,s2⟩:=hss s (YG hs)
  simp only [Stq.toU]
  walk_at "qd"
  have hin:(!inU (U.str s.wd) [U.str (Str.ofString "swap"),U.str (Str.ofString "turn")])=false:=by
   rcases s2 with h | h
   all_goals (rw [h];decide +kernel)
  refine ⟨.inr (.inr (.inr trivial)),trivial,ZP rfl (ZP rfl ⟨s.p,rfl,by lia,_,rfl,ZP rfl ⟨tup2,rfl,rfl,ZP hin ⟨tup1,[s.i],rfl,by simp,_,rfl,ZP rfl ⟨x,s.wd,s.p,s.i,rfl,g1,by lia,by lia,?_⟩⟩⟩⟩)⟩
  cases ha:x.act s.wd s.i s.p with
  | none=>rw [c2 ha] at hw;cases hw
  | some y =>
   have ky:=Ze2 ha g1
   obtain ⟨xs,ex⟩:=y.toU_tup
   simp only [optU]
   refine ZP (by rw [ex];rfl) ?_
   exact ⟨trivial,y,_,rfl,c1 y ha,ky.1,by rw [ky.2.1];exact g2⟩
 ·obtain ⟨rfl,x,r3,rfl,hx,g1,g2⟩:=h
  rw [Yb,Yaj,hw] at hx
  cases hx
  walk_at "qd"
  rw [q_eqW]
  refine eqW (b.gd_ok gb) (b.gd_ok gb) (by have:=b.dep_le;lia) ?_
  rw [b.like_self (b.gd_ok gb)]
  exact fg (q _ (Ext.refl _))
end
noncomputable def ZeB (t tl:Addr):ASp:=fun us A Q=>∃ a b:Wr,us=[a.toU,b.toU]/\a.gd=true/\b.gd=true/\a.tups<=95/\b.tups<=95/\Cp t A/\Cl tl A/\∀ A',Ext A A'->Q (.bl true) A'
section
include T
theorem ok_right (hBA_qb:base.BuiltinsAt mg t_qb) (hBA_qe:base.BuiltinsAt mg t_qe):FnOk P w K mg base CX0 199 f_qc d_qc ["_law_one","_law_other"] (spOf K (ZeB t_qb t_qe)):=by
 have G_qu:=ok_qu (P:=P) (w:=w) (base:=base) T hBA_qb
 have G_qe:=ok_lpl (P:=P) (w:=w) (base:=base) T hBA_qe 95
 have G_qf:=ok_leads (P:=P) (w:=w) (base:=base) T
 refine' Fun.okA T.F_qc (sc:=?sc30) (body:=?bd30) ?hs30 ?hb30 ZgG ?hB30 ?hS30
 case hs30=>conv=>lhs;whnf
 case hb30=>conv=>lhs;whnf
 case hB30=>exact fun S cdv A outer s H E hr=>⟨_,(Zg (ZG (i:=2) S.nd rfl (Or.inl rfl) (Zp (G_qu.mono (by first | decide | lia)) hr (by rfl) T.M_qu T.F_qu.kp T.B_qu .nil ZZ (Za (pv 0) (Za (pv 1) Ze))))
   (Zg (Z9 (Zq (Zg8 hr) (Zp (G_qe.mono (by first | decide | lia)) hr (by rfl) T.M_qe T.F_qe.kp T.B_qe .nil ZZ (Za (pv 0) Ze)) (Zp (G_qe.mono (by first | decide | lia)) hr (by rfl) T.M_qe T.F_qe.kp T.B_qe .nil ZZ (Za (pv 1) Ze)) (ZS _)) (Zm (Zv (Zjl Zis (pv 2) ZcL (ZS _)))) ZA)
   (Zm (Zv (Zp (G_qf.mono (by first | decide | lia)) hr (by rfl) T.M_qf T.F_qf.kp T.B_qf .nil ZZ (Za (pv 0) (Za (pv 1) (Za (pv 2) Ze)))))))),(Zn (Zw (Zr (Zb Zc (Zb Zc Zf))) Zj)
   (Zn (ZO (Zo (Zl ZgI (Zr (Zb Zc Zf)) (Zr (Zb Zc Zf)))) (Zu (Zl Ziu Zc ZcG)) Zz)
   (Zu (Zr (Zb Zc (Zb Zc (Zb Zc Zf)))))))⟩
 rintro us A Q ⟨a,b,rfl,ga,gb,ta,tb,hC,hCl,q⟩
 refine ⟨rfl,?_⟩
 have da:=a.dep_le
 have db:=b.dep_le
 have gpa:=a.pl_gd ga
 have gpb:=b.pl_gd gb
 have hpd:=a.pl_dep
 walk_at "qs"
 walk_at "qd"
 refine ⟨a,b,rfl,ga,gb,by lia,by lia,by lia,by lia,hC,fun hne=>?_,fun he l ss A' e hl a1 hw hn hss=>?_⟩
 ·walk_at "qd"
  refine ⟨a,rfl,ga,by lia,ta,hCl,b,rfl,gb,by lia,tb,hCl,?_⟩
  dsimp only
  rw [q_neW]
  refine neW (a.pl.gd_ok gpa) (b.pl.gd_ok gpb) (by lia) ⟨_,rfl,Z8 ?_ ?_⟩
  ·cases hb:a.pl.like b.pl with
   | false=>rfl
   | true=>exact absurd (a.pl.like_eq b.pl (a.pl.gd_nrm gpa) (b.pl.gd_nrm gpb) hb) hne
  ·walk_at "qd"
   exact fg (q _ (Ext.refl _))
 ·walk_at "qd"
  refine ⟨a,rfl,ga,by lia,ta,e _ _ hCl,b,rfl,gb,by lia,tb,e _ _ hCl,?_⟩
  dsimp only
  rw [q_neW]
  refine neW (a.pl.gd_ok gpa) (b.pl.gd_ok gpb) (by lia) ⟨_,rfl,ZP (by rw [he,b.pl.like_self (b.pl.gd_ok gpb)];rfl) ?_⟩
  exact ⟨a,b,l,ss,rfl,ga,gb,ta,a1,hw,hn,hss,fun A2 e2=>fg (q _ (e.trans e2))⟩
end
noncomputable def Zht:ASp:=fun us A Q=>∃ (k:Nat) (ps:List Wr) (z:Int),us=[(Wr.many k ps).toU,.int z]/\0<=z/\(Wr.many k ps).gd=true/\(Wr.many k ps).tups<=94/\ps.length<=62/\∀ (v:Wr) (A':AHp),Ext A A'->v.gd=true->v.tups<=95->Q v.toU A'
theorem Zju (ps:List Wr) (lo hi:Option Int):tupsL (cutL ps lo hi)<=tupsL ps:=by
 have h1:∀ (n:Nat) (l:List Wr),tupsL (l.take n)<=tupsL l:=fun n l=>by
  conv=>rhs;rw [<- YW n l,Zas]
  exact Ycf _ _
 have h2:∀ (n:Nat) (l:List Wr),tupsL (l.drop n)<=tupsL l:=fun n l=>by
  conv=>rhs;rw [<- YW n l,Zas]
  exact Nat.le_add_left _ _
 unfold cutL
 exact YH (h1 _ _) (h2 _ _)
section
include T
theorem ok_third:FnOk P w K mg base CX0 1 f_qh d_qh ["_law_figure","_law_cell_here"] (spOf K Zht):=by
 refine' Fun.okA T.F_qh (sc:=?sc31) (body:=?bd31) ?hs31 ?hb31 ZgL ?hB31 ?hS31
 case hs31=>conv=>lhs;whnf
 case hb31=>conv=>lhs;whnf
 case hB31=>exact fun S cdv A outer s H E hr=>⟨_,(Zg (ZG (i:=2) S.nd rfl (Or.inl rfl) (ZK o_ix (pv 0) Zh (fun _ _=>rfl)))
   (Zg (Z9 (Zq (Zbi hr) (ZR Zbw (pv 1) Zh) Zh (ZS _)) (Zm (Zv (ZD (Za (ZK o_ix (pv 0) Zh (fun _ _=>rfl)) (Za (ZE ZaL (pv 2) ZV (ZM (pe_un un_neg Zh))) Ze))))) ZA)
   (Zg (Z9 (Zq (Zbi hr) (ZR Zbw (pv 1) Zh) Zh (ZS _)) (Zm (Zv (ZD (Za (ZK o_ix (pv 0) Zh (fun _ _=>rfl)) (Za (ZR Zaf (pv 2) (ZD (Za (ZD (Za Z0 (Za Z0 Ze))) Ze))) Ze))))) ZA)
   (Zm (Zv (ZD (Za (ZK o_ix (ZaH (ZaU (xs:=["row","bag","choice","ring"]) rfl)) (ZR Zbw (ZR Zgd (pv 1) Zh) Zh) (fun _ _=>rfl)) (Za (pv 2) Ze)))))))),(Zn (Zw (Zl ZJ Zc Zi) Zj)
   (Zn (ZO (Zo (Zl Zbj (Zl ZaY Zc Zi) Zi)) (Zu (ZC (Zb (Zl ZJ Zc Zi) (Zb (ZaG Z5 Zc Zx (ZL (ab_un ab_neg Zi))) Zf)))) Zz)
   (Zn (ZO (Zo (Zl Zbj (Zl ZaY Zc Zi) Zi)) (Zu (ZC (Zb (Zl ZJ Zc Zi) (Zb (Zl Zag Zc (ZC (Zb (ZC (Zb Z1 (Zb Z1 Zf))) Zf))) Zf)))) Zz)
   (Zu (ZC (Zb (Zl ZJ (ZaI Za4) (Zl ZaY (Zl Zgb Zc Zi) Zi)) (Zb Zc Zf)))))))⟩
 rintro us A Q ⟨k,ps,z,rfl,hz,hg,ht,hl,q⟩
 refine ⟨rfl,?_⟩
 walk_at "qs"
 rw [Wr.toU_many]
 walk_at "qd"
 simp only [Wr.gd,Ye,Yy] at hg
 simp only [Wr.tups] at ht
 have fin:∀ (k:Nat) (qs:List Wr) (A':AHp),Ext A A'->k<=3->gdL qs=true->qs.length < 64->tupsL qs<=94->Fg Q (.tup [.str (Za2 k),.tup (qs.map Wr.toU)]) A':=fun k qs A' e h1 h2 h3 h4=>by
  have:=q (.many k qs) A' e (by simp only [Wr.gd,Ye,Yy];exact ⟨⟨h1,h3⟩,h2⟩) (by simp only [Wr.tups];lia)
  rw [Wr.toU_many] at this
  exact fg this
 refine ⟨by decide,iteB (fun _=>?_) fun _=>⟨by decide,iteB (fun _=>?_) fun _=>⟨by decide,fun p hp=>⟨⟨by decide,by decide⟩,by decide,?_⟩⟩⟩⟩
 ·walk_at "qg"
  rw [ZdH]
  have h1:=ZdR ps none (some (-1))
  have h2:=Zju ps none (some (-1))
  exact ⟨tup2,fin k _ A (Ext.refl _) hg.1.1 (ZbX.mpr fun w hw=>ZbX.mp hg.2 w (cutL_mem hw)) (by lia) (by lia)⟩
 ·have h:=fin k (ps++[.bead "red"]) A (Ext.refl _) hg.1.1 (by rw [ZbG,hg.2];decide +kernel) (by rw [Yj,List.length_singleton];lia) (by rw [Zas];simp only [tupsL,Wr.tups];lia)
  rw [Yo] at h
  exact ⟨tup2,tup1,ZQ (by rw [Yb];show _ + 1<=_;lia),tup2,h⟩
 ·obtain ⟨k',hk3,hk2⟩:=ZdO (z / 3)
  exact ⟨_,_,Zd,hk2,tup2,fin k' ps _ (Ext.new hp) hk3 hg.2 hg.1.2 (by lia)⟩
end
theorem if_sh {c:AT} {t e:AS} {D:ZbS} {ρ:ASt} {A:AHp} (C:Nat->List Wr->AHp->Prop) (f:Nat->List Wr->ASt) (h:(∀ k ws A2,C k ws A2->D.nx (f k ws) A2)->aIfH c t e D ρ A) (r:∀ k ws A2,C k ws A2->D.nx (f k ws) A2):aIfH c t e D ρ A:=h r
theorem if_any {c:AT} {t e:AS} {D:ZbS} {ρ:ASt} {A:AHp} (h1:∀ B:Bool->AHp->Prop,(∀ k,B k A)->c ρ A B) (h2:e D ρ A) (h3:t D ρ A):aIfH c t e D ρ A:=h1 _ fun k=>iteB (fun h=>h3) fun h=>h2
theorem if_noF {c:AT} {t e:AS} {D:ZbS} {ρ:ASt} {A:AHp} (h1:∀ B:Bool->AHp->Prop,(∀ A',Ext A A'->B false A')->c ρ A B) (h2:∀ A',Ext A A'->e D ρ A'):aIfH c t e D ρ A:=h1 _ fun A' eA=>iteN Yr (h2 A' eA)
section
include T
theorem ok_qv (hBA_qb:base.BuiltinsAt mg t_qb) (hBA_qe:base.BuiltinsAt mg t_qe):FnOk P w K mg base CX0 200 f_qv d_qv ["_law_script"] (spOf K (ZcT [(t_qb,Zeu,"plain_by.<locals>.<lambda>"),(t_qe,ZfR,"_law_plain.<locals>.<lambda>")])):=by
 have G_qq:=ok_mix (P:=P) (w:=w) (base:=base) T
 have G_qi:=ok_cell (P:=P) (w:=w) (base:=base) T
 have G_qr:=ok_any (P:=P) (w:=w) (base:=base) T
 have G_qa:=ok_shk (P:=P) (w:=w) (base:=base) T 95
 have G_qh:=ok_third (P:=P) (w:=w) (base:=base) T
 have G_qc:=ok_right (P:=P) (w:=w) (base:=base) T hBA_qb hBA_qe
 refine' Fun.okA T.F_qv (sc:=?sc32) (body:=?bd32) ?hs32 ?hb32 sc_qv ?hB32 ?hS32
 case hs32=>conv=>lhs;whnf
 case hb32=>conv=>lhs;whnf
 case hB32=>exact fun S cdv A outer s H E hr=>⟨_,(Zg (ZG (i:=0) S.nd rfl (Or.inl rfl) (Zp (G_qq.mono (by first | decide | lia)) hr (by rfl) T.M_qq T.F_qq.kp T.B_qq .nil ZZ (Za (pv 0) Ze)))
   (Zg (ZG (i:=1) S.nd rfl (Or.inl rfl) (Zp (G_qr.mono (by first | decide | lia)) hr (by rfl) T.M_qr T.F_qr.kp T.B_qr .nil ZZ (Za (ZE ZaL (pv 0) (ZM Zh) (ZM Zh)) Ze)))
   (Zg (Z9 (Zq (Zbi hr) (ZR Zbw (Zp (G_qi.mono (by first | decide | lia)) hr (by rfl) T.M_qi T.F_qi.kp T.B_qi .nil ZZ (Za (pv 0) (Za Zh Ze))) Zh) Zh (ZS _)) (Zm (ZG (i:=1) S.nd rfl (Or.inl rfl) (ZD (Za Z0 (Za (Zar Za8 (by rfl) T.n_tuple (by decide +kernel) (Za (Zaw (ts:=["_law_cell_here"]) (frs':=[]) (cl:=[]) rfl ⟨rfl,rfl,(by decide +kernel),(by decide +kernel),(fun _ z=>nomatch z),(ZN rfl rfl),(fun _ z=>nomatch z)⟩ (ZaC (ZE ZaL (pv 0) (ZM Zh) (ZM Zh))) (fun _ _ _ _=>Zy (i:=0) nd1 rfl (Or.inl rfl) (.inr rfl)) (fun _ _ _ _=>ZW) (fun _ _ _ _=>by exact (ZD (Za Z0 (Za (ZK (k_ix K rfl) (ZaH (ZaU (xs:=["red","ash","blue","redder"]) rfl)) (ZR Zbw (pv 0) Zh) (fun _ _=>rfl)) Ze))))) Ze)) Ze))))) ZA)
   (Zg (ZG (i:=2) S.nd rfl (Or.inl rfl) (ZR Zaf (ZE ZaL (pv 0) (ZM Zh) ZV) (ZE ZaL (pv 0) ZV (ZM Zh))))
   (Zg (ZG (i:=2) S.nd rfl (Or.inl rfl) (ZR Zaf (pv 2) (ZaH (Za Zh (Za Zh (Za Zh Ze))))))
   (Zg (ZG (i:=3) S.nd rfl (Or.inl rfl) (Zp (G_qa.mono (by first | decide | lia)) hr (by rfl) T.M_qa T.F_qa.kp T.B_qa .nil ZZ (Za (pv 1) (Za (pv 2) Ze))))
   (Zg (ZG (i:=4) S.nd rfl (Or.inl rfl) (Zp (G_qa.mono (by first | decide | lia)) hr (by rfl) T.M_qa T.F_qa.kp T.B_qa .nil ZZ (Za (pv 1) (Za (pv 2) Ze))))
   (Zg (ZG (i:=5) S.nd rfl (Or.inl rfl) (Zp (G_qh.mono (by first | decide | lia)) hr (by rfl) T.M_qh T.F_qh.kp T.B_qh .nil ZZ (Za (pv 4) (Za (ZR Zbw (Zp (G_qi.mono (by first | decide | lia)) hr (by rfl) T.M_qi T.F_qi.kp T.B_qi .nil ZZ (Za (pv 0) (Za Zh Ze))) (ZR o_pow Zh Zh)) Ze))))
   (Zg (Z9 ((Ze7 (Zcp (Zcm (Zp (G_qc.mono (by first | decide | lia)) hr (by rfl) T.M_qc T.F_qc.kp T.B_qc .nil ZZ (Za (pv 3) (Za (pv 4) Ze))))) (Ze7 (Zcp (Zcm (Zp (G_qc.mono (by first | decide | lia)) hr (by rfl) T.M_qc T.F_qc.kp T.B_qc .nil ZZ (Za (pv 4) (Za (pv 3) Ze))))) (Zdk (Zcp (Zcm (Zp (G_qc.mono (by first | decide | lia)) hr (by rfl) T.M_qc T.F_qc.kp T.B_qc .nil ZZ (Za (pv 1) (Za (pv 1) Ze))))))))).pt (Zm (Zv ZfK)) ZA)
   (Zm (Zv (pe_and (Zp (G_qc.mono (by first | decide | lia)) hr (by rfl) T.M_qc T.F_qc.kp T.B_qc .nil ZZ (Za (pv 3) (Za (pv 5) Ze))) (pe_one (Zp (G_qc.mono (by first | decide | lia)) hr (by rfl) T.M_qc T.F_qc.kp T.B_qc .nil ZZ (Za (pv 5) (Za (pv 3) Ze)))))))))))))))),(Zn (Zw (Zr (Zb Zc Zf)) Zj)
   (Zn (Zw (Zr (Zb (ZaG Z5 Zc (ZL Zi) (ZL Zi)) Zf)) Zj)
   (Zn (Zgg (Zo (Zl Zbj (Zl ZaY (Zr (Zb Zc (Zb Zi Zf))) Zi) Zi)) (Zw (ZC (Zb Z1 (Zb (Zah ZaJ (Zb (Z4 (ZaD Zaj (ZaG Z5 Zc (ZL Zi) (ZL Zi))) Zj Z7 (ZC (Zb Z1 (Zb (Zl ZJ (ZaI Za4) (Zl ZaY Zc Zi)) Zf)))) Zf)) Zf))) Zj) Zz)
   (Zn (Zw (Zl Zag (ZaG Z5 Zc (ZL Zi) Zx) (ZaG Z5 Zc Zx (ZL Zi))) Zj)
   (Zn (Zw (Zl Zag Zc (ZaI (Zb Zi (Zb Zi (Zb Zi Zf))))) Zj)
   (Zn (Zw (Zr (Zb Zc (Zb Zc Zf))) Zj)
   (Zn (Zw (Zr (Zb Zc (Zb Zc Zf))) Zj)
   (Zn (Zw (Zr (Zb Zc (Zb (Zl ZaY (Zr (Zb Zc (Zb Zi Zf))) (Zl Zf0 Zi Zi)) Zf))) Zj)
   (Zn (Zgg (Ze5 (Zco (ZdN (Zr (Zb Zc (Zb Zc Zf))))) (Ze5 (Zco (ZdN (Zr (Zb Zc (Zb Zc Zf))))) (Zco (ZdN (Zr (Zb Zc (Zb Zc Zf))))))) (Zu ZgJ) Zz)
   (Zu (Zho (Zr (Zb Zc (Zb Zc Zf))) (Zr (Zb Zc (Zb Zc Zf))))))))))))))⟩
 rintro us A Q ⟨ns,rfl,hl,hts,q⟩
 have hC1:Cp t_qb A:=hts (t_qb,Zeu,"plain_by.<locals>.<lambda>") (.head _)
 have hC2:Cl t_qe A:=hts (t_qe,ZfR,"_law_plain.<locals>.<lambda>") (.tail _ (.head _))
 refine ⟨rfl,?_⟩
 walk_at "qs"
 walk_at "qd"
 refine ⟨ns,rfl,hl,fun l0 ms hl0 hml=>?_⟩
 have e0:=Ext.new (o:=.lst (ms.map U.int)) hl0
 have a0:updA A l0 (.lst (ms.map U.int)) l0=some (.lst (ms.map U.int)):=Zd
 generalize updA A l0 (.lst (ms.map U.int))=A0 at e0 a0 ⊢
 walk_at "qd"
 refine ⟨_,a0,fun l1 hl1=>?_⟩
 obtain ⟨zs,ez,hz⟩:=ZiG ms 2 32
 have ez:cutU (ms.map U.int) (some 2) (some 32)=zs.map U.int:=ez
 rw [ez]
 replace e0:=e0.trans (Ext.new (o:=.lst (zs.map U.int)) hl1)
 replace a0:=Ext.new (o:=.lst (zs.map U.int)) hl1 _ _ a0
 have a1:(updA A0 l1 (.lst (zs.map U.int))) l1=some (.lst (zs.map U.int)):=Zd
 generalize updA A0 l1 (.lst (zs.map U.int))=A1 at e0 a0 a1 ⊢
 refine ⟨l1,zs,rfl,a1,by lia,fun k ws hg ht hwl=>?_⟩
 walk_at "qd"
 refine if_sh (fun k ws A2=>Ext A A2/\A2 l0=some (.lst (ms.map U.int))/\(Wr.many k ws).gd=true/\(Wr.many k ws).tups<=94/\ws.length<=62) (fun k ws=>[some (.ref l0),some (Wr.many k ws).toU,none,none,none,none]) (fun rest=>?_) ?_
 ·refine if_any (fun B hB=>?_) ?_ ?_
  ·walk_at "qd"
   refine ⟨l0,ms,1,rfl,a0,by decide,fun z1=>?_⟩
   walk_at "qd"
   exact ⟨by decide,hB _⟩
  ·exact rest k ws A1 ⟨e0,a0,hg,ht,by lia⟩
  ·dsimp only at rest
   generalize aSeq _ _ _=N at rest ⊢
   walk_at "qd"
   obtain ⟨ys,ey,hy⟩:=ZiG ms 2 50
   have ey:cutU (ms.map U.int) (some 2) (some 50)=ys.map U.int:=ey
   refine ⟨_,a0,fun l2 hl2=>?_⟩
   rw [ey]
   replace e0:=e0.trans (Ext.new (o:=.lst (ys.map U.int)) hl2)
   replace a0:=Ext.new (o:=.lst (ys.map U.int)) hl2 _ _ a0
   have a2:(updA A1 l2 (.lst (ys.map U.int))) l2=some (.lst (ys.map U.int)):=Zd
   generalize updA A1 l2 (.lst (ys.map U.int))=A2 at e0 a0 a2 ⊢
   refine ⟨⟨_,a2⟩,fun l3 hl3=>?_⟩
   walk_at "qc"
   refine Zi7 (ys.map U.int) (fun i us A3=>Ext A2 A3/\A3 l3=some (.lst us)/\∃ cs:List Wr,us=cs.map Wr.toU/\cs.length=i/\gdL cs=true/\tupsL cs=i) ⟨Ext.new hl3,Zd,[],rfl,rfl,rfl,rfl⟩ (by rw [Yb];lia) ?_ (fun i us A3 _ h=>⟨_,h.1 _ _ a2,rfl⟩) ?_ ?_
   ·rintro i us A3 ⟨_,_,cs,rfl,h,_⟩
    rw [Yb];exact h
   ·rintro i u us A3 hu ⟨e3,a3,cs,rfl,hc1,hc2,hc3⟩ Cy hC
    obtain ⟨n,_,rfl⟩:=Zap hu
    obtain ⟨c,hc,hok⟩:=Zfk n
    walk_at "qd"
    refine ⟨by decide,fun p hp=>⟨by decide,_,_,Zd,hc,tup2,?_⟩⟩
    have e4:=Ext.new (o:=.lst [U.str "red",U.str "ash",U.str "blue",U.str "redder"]) hp
    refine hC _ _ (e4 _ _ a3) ⟨fun b o hb=>by rw [Zk (neA hb hl3)];exact e4 _ _ (e3 _ _ hb),Zd,cs++[.bead c],by rw [Yo];rfl,by rw [Yj,hc1];rfl,?_,?_⟩
    ·rw [ZbG,hc2]
     simp [gdL,Wr.gd,hok]
    ·rw [Zas,hc3];rfl
   ·rintro us A3 ⟨e3,a3,cs,rfl,hc1,hc2,hc3⟩
    rw [Yb] at hc1 hc3
    walk_at "qd"
    refine ⟨_,a3,tup2,?_⟩
    have:=rest 1 cs A3 ⟨e0.trans e3,e3 _ _ a0,by simp only [Wr.gd,Ye,Yy];exact ⟨⟨by lia,by lia⟩,hc2⟩,by simp only [Wr.tups];lia,by lia⟩
    rw [Wr.toU_many] at this
    exact this
 ·rintro k ws A2 ⟨e2,a2,hg,ht,hwl⟩
  walk_at "qd"
  refine ⟨_,a2,fun p1 hp1=>⟨_,by rw [Zk (neA a2 hp1)];exact a2,fun p2 hp2=>?_⟩⟩
  rw [ZdH] at hp2 ⊢
  rw [ZdH]
  have n12:p1≠p2:=neA Zd hp2
  have hc1:=ZdR ms (some 32) none
  have hc2:=ZdR ms none (some 2)
  generalize cutL ms (some 32) none=cs1 at hp2 hc1 ⊢
  generalize cutL ms none (some 2)=cs2 at hc2 ⊢
  refine ⟨_,_,by rw [Zk n12,Zd],Zd,ZQ (by rw [Yb,Yb];lia),fun p3 hp3=>⟨by decide,fun p4 hp4=>?_⟩⟩
  rw [<- Yo] at hp4 ⊢
  have e3:=e2.trans ((Ext.new (o:=.lst (cs1.map U.int)) hp1).trans ((Ext.new (o:=.lst (cs2.map U.int)) hp2).trans (Ext.new (o:=.lst ((cs1++cs2).map U.int)) hp3)))
  have a3:=((Ext.new (o:=.lst (cs1.map U.int)) hp1).trans ((Ext.new (o:=.lst (cs2.map U.int)) hp2).trans (Ext.new (o:=.lst ((cs1++cs2).map U.int)) hp3))) _ _ a2
  have c3:(updA (updA (updA A2 p1 (.lst (cs1.map U.int))) p2 (.lst (cs2.map U.int))) p3 (.lst ((cs1++cs2).map U.int))) p3=some (.lst ((cs1++cs2).map U.int)):=Zd
  generalize (updA (updA (updA A2 p1 (.lst (cs1.map U.int))) p2 (.lst (cs2.map U.int))) p3 (.lst ((cs1++cs2).map U.int)))=A3 at e3 a3 c3 hp4 ⊢
  walk_at "qd"
  refine ⟨_,_,by rw [Zk (neA c3 hp4)];exact c3,Zd,ZQ (by rw [Yb,Yj];simp only [List.length_cons,List.length_nil];lia),fun p5 hp5=>?_⟩
  have ecs:(cs1++cs2).map U.int++[U.int 129,U.int 64,U.int 66]=(cs1++cs2++[129,64,66]).map U.int:=by rw [Yo (l₂:=[129,64,66])];rfl
  rw [ecs]
  generalize cs1++cs2++[129,64,66]=cs
  have hA5:A p5=none:=e3.none ((Ext.new hp4).none hp5)
  have e4:=e3.trans ((Ext.new (o:=.lst [U.int 129,U.int 64,U.int 66]) hp4).trans (Ext.new (o:=.lst (cs.map U.int)) hp5))
  have a4:=((Ext.new (o:=.lst [U.int 129,U.int 64,U.int 66]) hp4).trans (Ext.new (o:=.lst (cs.map U.int)) hp5)) _ _ a3
  have c4:(updA (updA A3 p4 (.lst [U.int 129,U.int 64,U.int 66])) p5 (.lst (cs.map U.int))) p5=some (.lst (cs.map U.int)):=Zd
  have n05:l0≠p5:=neA ((Ext.new (o:=.lst [U.int 129,U.int 64,U.int 66]) hp4) _ _ a3) hp5
  generalize updA (updA A3 p4 (.lst [U.int 129,U.int 64,U.int 66])) p5 (.lst (cs.map U.int))=A4 at e4 a4 c4 ⊢
  have hdl:=(Wr.many k ws).dep_le
  refine ⟨.many k ws,p5,cs,rfl,c4,hg,by lia,by lia,fun v1 ms1 L1=>⟨.many k ws,p5,ms1,rfl,Zd,hg,by lia,by lia,fun v2 ms2 L2=>?_⟩⟩
  rw [Zan]
  have a5:(updA A4 p5 (.lst (ms2.map U.int))) l0=some (.lst (ms.map U.int)):=by rw [Zk n05];exact a4
  have e5:Ext A (updA A4 p5 (.lst (ms2.map U.int))):=fun b o hb=>by rw [Zk (neA hb hA5)];exact e4 _ _ hb
  generalize updA A4 p5 (.lst (ms2.map U.int))=A5 at a5 e5 ⊢
  refine ⟨l0,ms,0,rfl,a5,by decide,fun z0=>?_⟩
  walk_at "qd"
  obtain ⟨ps2,rfl,hl2⟩:∃ ps2,v2=.many k ps2/\ps2.length=ws.length:=by
   obtain ⟨h1,h2,_⟩:=Wr.alt_of L2.pl.symm
   exact ⟨v2.parts,h1,h2⟩
  have t1:=L1.tups
  have t2:=L2.tups
  refine ⟨⟨by decide,by decide,by decide⟩,by decide,k,ps2,_,rfl,YaA _ (by decide),L2.gd,by lia,by lia,fun v3 A6 e6 g3 t3=>?_⟩
  replace e6:=e5.trans e6
  have rt:∀ (u v:Wr) (A7:AHp) (R:AVK),u.gd=true->v.gd=true->u.tups<=95->v.tups<=95->Ext A A7->(∀ A8,Ext A7 A8->R (.bl true) A8)->ZeB t_qb t_qe [u.toU,v.toU] A7 R:=fun u v A7 R h1 h2 h3 h4 e h5=>⟨u,v,rfl,h1,h2,h3,h4,e _ _ hC1,e _ _ hC2,h5⟩
  refine if_noF (fun B hB=>?_) fun A7 e7=>?_
  ·walk_at "qd"
   exact rt _ _ A6 _ L1.gd L2.gd (by lia) (by lia) e6 fun A7 e7=>⟨_,rfl,ZP rfl (rt _ _ A7 _ L2.gd L1.gd (by lia) (by lia) (e6.trans e7) fun A8 e8=>⟨_,rfl,ZP rfl (rt _ _ A8 _ hg hg (by lia) (by lia) (e6.trans (e7.trans e8)) fun A9 e9=>⟨_,rfl,hB _ (e7.trans (e8.trans e9))⟩)⟩)⟩
  ·walk_at "qd"
   exact rt _ _ A7 _ L1.gd g3 (by lia) t3 (e6.trans e7) fun A8 e8=>⟨_,rfl,Z8 rfl (rt _ _ A8 _ g3 L1.gd t3 (by lia) (e6.trans (e7.trans e8)) fun A9 e9=>fg (q _))⟩
end
noncomputable abbrev tabs:Tabs:=[(65,Zeu,"plain_by.<locals>.<lambda>"),(175,ZfR,"_law_plain.<locals>.<lambda>")]
structure FQ (K:YFr) (n:Str) (f c:Nat) (s:Stmt) (m:Str) (t:Nat):Prop where
 a:PySem.W.nsIn K mainGlobals n=some (some (.ref f))
 l:K.lookup f=some ⟨.type "function",none,.func (PySem.W.fnOf n n (L2.defArgs s) (L2.defBody s) (L2.defScope s) .none .none .none (.str m t) none (.ref c) .none),#[]⟩
 x:PySem.W.codeIn K (.ref c) n=true
 k:PySem.W.keepIn K (.ref f)=true
theorem ff (K:YFr) (n:Str) (f c:Nat) (s:Stmt) (m:Str) (t:Nat) (h:(PySem.W.nsIn K mainGlobals n,K.lookup f,PySem.W.codeIn K (.ref c) n,PySem.W.keepIn K (.ref f))=(some (some (.ref f)),some ⟨.type "function",none,.func (PySem.W.fnOf n n (L2.defArgs s) (L2.defBody s) (L2.defScope s) .none .none .none (.str m t) none (.ref c) .none),#[]⟩,true,true)):FQ K n f c s m t:=by
 simp only [Prod.mk.injEq] at h
 exact ⟨h.1,h.2.1,h.2.2.1,h.2.2.2⟩
theorem all_mk {l:PySem.W.OpenLaw} {w:World} {K:YFr} {h:Heap} {mg:Str->Option Value} {fa:Addr} {f_q7 f_qd f_qj f_q2 f_ql f_q6 f_q0 f_qb f_q5 f_qu f_q3 f_q1 f_q4 f_qq f_qi f_qn f_q8 f_qs f_qr f_qg f_qp f_q9 f_qm f_qk f_qt f_qe f_qa f_qo f_qf f_qh f_qc f_qv:Addr} {c_qb c_qe:Addr} {a_KINDS:Addr} {oc_KINDS:Value} {od_KINDS:Option Addr} {is_KINDS:Array Value} {sn_KINDS:Nat} {sl_KINDS:Array (Option Value)} {a_MANY:Addr} {oc_MANY:Value} {od_MANY:Option Addr} {is_MANY:Array Value} {sn_MANY:Nat} {sl_MANY:Array (Option Value)} {c_q7 c_qd c_qj c_q2 c_ql c_q6 c_q0 c_q5 c_qu c_q3 c_q1 c_q4 c_qq c_qi c_qn c_q8 c_qs c_qr c_qg c_qp c_q9 c_qm c_qk c_qt c_qa c_qo c_qf c_qh c_qc c_qv:Nat} {m_q7 m_qd m_qj m_q2 m_ql m_q6 m_q0 m_qb m_q5 m_qu m_q3 m_q1 m_q4 m_qq m_qi m_qn m_q8 m_qs m_qr m_qg m_qp m_q9 m_qm m_qk m_qt m_qe m_qa m_qo m_qf m_qh m_qc m_qv:Str} {t_q7 t_qd t_qj t_q2 t_ql t_q6 t_q0 t_qb t_q5 t_qu t_q3 t_q1 t_q4 t_qq t_qi t_qn t_q8 t_qs t_qr t_qg t_qp t_q9 t_qm t_qk t_qt t_qe t_qa t_qo t_qf t_qh t_qc t_qv:Nat} (X:K.In h) (G:h.Ns mainGlobals mg) (hfa:mg "law"=some (.ref fa))
  (p_q7:FQ K "parts_of" f_q7 c_q7 s_q7 m_q7 t_q7)
  (p_qd:FQ K "made_of" f_qd c_qd s_qd m_qd t_qd)
  (p_qj:FQ K "folded" f_qj c_qj s_qj m_qj t_qj)
  (p_q2:FQ K "folded_over" f_q2 c_q2 s_q2 m_q2 t_q2)
  (p_ql:FQ K "key_by" f_ql c_ql s_ql m_ql t_ql)
  (p_q6:FQ K "plain_key" f_q6 c_q6 s_q6 m_q6 t_q6)
  (p_q0:FQ K "plain_with_key" f_q0 c_q0 s_q0 m_q0 t_q0)
  (p_qb:FQ K "plain_by" f_qb c_qb s_qb m_qb t_qb)
  (h_qb:PySem.W.codeHdIn K c_qb 65=true)
  (p_q5:FQ K "least_start" f_q5 c_q5 s_q5 m_q5 t_q5)
  (p_qu:FQ K "way" f_qu c_qu s_qu m_qu t_qu)
  (p_q3:FQ K "moved_alike" f_q3 c_q3 s_q3 m_q3 t_q3)
  (p_q1:FQ K "poured_alike" f_q1 c_q1 s_q1 m_q1 t_q1)
  (p_q4:FQ K "begun_alike" f_q4 c_q4 s_q4 m_q4 t_q4)
  (p_qq:FQ K "_law_mix" f_qq c_qq s_qq m_qq t_qq)
  (p_qi:FQ K "_law_cell" f_qi c_qi s_qi m_qi t_qi)
  (p_qn:FQ K "_law_next" f_qn c_qn s_qn m_qn t_qn)
  (p_q8:FQ K "_law_tuples" f_q8 c_q8 s_q8 m_q8 t_q8)
  (p_qs:FQ K "_law_put" f_qs c_qs s_qs m_qs t_qs)
  (p_qr:FQ K "_law_any" f_qr c_qr s_qr m_qr t_qr)
  (p_qg:FQ K "_law_parts" f_qg c_qg s_qg m_qg t_qg)
  (p_qp:FQ K "_law_with" f_qp c_qp s_qp m_qp t_qp)
  (p_q9:FQ K "_law_at_top" f_q9 c_q9 s_q9 m_q9 t_q9)
  (p_qm:FQ K "_law_done" f_qm c_qm s_qm m_qm t_qm)
  (p_qk:FQ K "_law_size" f_qk c_qk s_qk m_qk t_qk)
  (p_qt:FQ K "_law_key" f_qt c_qt s_qt m_qt t_qt)
  (p_qe:FQ K "_law_plain" f_qe c_qe s_qe m_qe t_qe)
  (h_qe:PySem.W.codeHdIn K c_qe 175=true)
  (p_qa:FQ K "_law_shaken" f_qa c_qa s_qa m_qa t_qa)
  (p_qo:FQ K "_law_path" f_qo c_qo s_qo m_qo t_qo)
  (p_qf:FQ K "_law_leads" f_qf c_qf s_qf m_qf t_qf)
  (p_qh:FQ K "_law_third" f_qh c_qh s_qh m_qh t_qh)
  (p_qc:FQ K "_law_right" f_qc c_qc s_qc m_qc t_qc)
  (p_qv:FQ K "law" f_qv c_qv s_qv m_qv t_qv)
  (n_all:PySem.W.nsIn K mainGlobals "all"=some none)
  (n_any:PySem.W.nsIn K mainGlobals "any"=some none)
  (n_bool:PySem.W.nsIn K mainGlobals "bool"=some none)
  (n_enumerate:PySem.W.nsIn K mainGlobals "enumerate"=some none)
  (n_int:PySem.W.nsIn K mainGlobals "int"=some none)
  (n_isinstance:PySem.W.nsIn K mainGlobals "isinstance"=some none)
  (n_len:PySem.W.nsIn K mainGlobals "len"=some none)
  (n_list:PySem.W.nsIn K mainGlobals "list"=some none)
  (n_max:PySem.W.nsIn K mainGlobals "max"=some none)
  (n_min:PySem.W.nsIn K mainGlobals "min"=some none)
  (n_range:PySem.W.nsIn K mainGlobals "range"=some none)
  (n_reversed:PySem.W.nsIn K mainGlobals "reversed"=some none)
  (n_sorted:PySem.W.nsIn K mainGlobals "sorted"=some none)
  (n_str:PySem.W.nsIn K mainGlobals "str"=some none)
  (n_sum:PySem.W.nsIn K mainGlobals "sum"=some none)
  (n_tuple:PySem.W.nsIn K mainGlobals "tuple"=some none)
  (n_zip:PySem.W.nsIn K mainGlobals "zip"=some none)
  (c_KINDS:PySem.W.nsIn K mainGlobals "KINDS"=some (some (.ref a_KINDS))) (o_KINDS:K.lookup a_KINDS=some ⟨oc_KINDS,od_KINDS,.seq is_KINDS sn_KINDS,sl_KINDS⟩) (t_KINDS:(oc_KINDS == .type "tuple")=true/\(od_KINDS == none)=true) (i_KINDS:is_KINDS.toList.map absV=[(.str "nothing":V),(.str "bead":V),(.str "left":V),(.str "right":V),(.str "pair":V),(.str "row":V),(.str "bag":V),(.str "choice":V),(.str "ring":V)].map some)
  (c_MANY:PySem.W.nsIn K mainGlobals "MANY"=some (some (.ref a_MANY))) (o_MANY:K.lookup a_MANY=some ⟨oc_MANY,od_MANY,.seq is_MANY sn_MANY,sl_MANY⟩) (t_MANY:(oc_MANY == .type "tuple")=true/\(od_MANY == none)=true) (i_MANY:is_MANY.toList.map absV=[(.str "row":V),(.str "bag":V),(.str "choice":V),(.str "ring":V)].map some) :
  ∃ fd:FuncData,(∀ (s:Shared) (v:Value),BindsTo s fd ⟨[v],[]⟩ [("_law_script",v)])/\∀ base:Heap,K.In base->base.Ns mainGlobals mg->(∀ t∈tabs,base.BuiltinsAt mg t.1)->FnOk l.prog w K mg base CX0 200 fa fd ["_law_script"] (spOf K (ZcT tabs)):=by
 have e:=hfa.symm.trans (Yz X G p_qv.a)
 cases e
 have F_q7:=Zak (st:=s_q7) p_q7.l p_q7.x p_q7.k
 have B_q7:=F_q7.binds (ps:=["writing"]) fun _ _ _ _ _ _=>by refine len1 ?_;intros;rfl
 have F_qd:=Zak (st:=s_qd) p_qd.l p_qd.x p_qd.k
 have B_qd:=F_qd.binds (ps:=["kind","parts"]) fun _ _ _ _ _ _=>by refine len2 ?_;intros;rfl
 have F_qj:=Zak (st:=s_qj) p_qj.l p_qj.x p_qj.k
 have B_qj:=F_qj.binds (ps:=["writing","deed"]) fun _ _ _ _ _ _=>by refine len2 ?_;intros;rfl
 have F_q2:=Zak (st:=s_q2) p_q2.l p_q2.x p_q2.k
 have B_q2:=F_q2.binds (ps:=["whole","parts","deed"]) fun _ _ _ _ _ _=>by refine len3 ?_;intros;rfl
 have F_ql:=Zak (st:=s_ql) p_ql.l p_ql.x p_ql.k
 have B_ql:=F_ql.binds (ps:=["figure","keys"]) fun _ _ _ _ _ _=>by refine len2 ?_;intros;rfl
 have F_q6:=Zak (st:=s_q6) p_q6.l p_q6.x p_q6.k
 have B_q6:=F_q6.binds (ps:=["writing"]) fun _ _ _ _ _ _=>by refine len1 ?_;intros;rfl
 have F_q0:=Zak (st:=s_q0) p_q0.l p_q0.x p_q0.k
 have B_q0:=F_q0.binds (ps:=["writing"]) fun _ _ _ _ _ _=>by refine len1 ?_;intros;rfl
 have F_qb:=Zak (st:=s_qb) p_qb.l p_qb.x p_qb.k
 have B_qb:=F_qb.binds (ps:=["writing","told"]) fun _ _ _ _ _ _=>by refine len2 ?_;intros;rfl
 have F_q5:=Zak (st:=s_q5) p_q5.l p_q5.x p_q5.k
 have B_q5:=F_q5.binds (ps:=["keys"]) fun _ _ _ _ _ _=>by refine len1 ?_;intros;rfl
 have F_qu:=Zak (st:=s_qu) p_qu.l p_qu.x p_qu.k
 have B_qu:=F_qu.binds (ps:=["one","other"]) fun _ _ _ _ _ _=>by refine len2 ?_;intros;rfl
 have F_q3:=Zak (st:=s_q3) p_q3.l p_q3.x p_q3.k
 have B_q3:=F_q3.binds (ps:=["part","goal"]) fun _ _ _ _ _ _=>by refine len2 ?_;intros;rfl
 have F_q1:=Zak (st:=s_q1) p_q1.l p_q1.x p_q1.k
 have B_q1:=F_q1.binds (ps:=["parts","goals"]) fun _ _ _ _ _ _=>by refine len2 ?_;intros;rfl
 have F_q4:=Zak (st:=s_q4) p_q4.l p_q4.x p_q4.k
 have B_q4:=F_q4.binds (ps:=["parts","goals"]) fun _ _ _ _ _ _=>by refine len2 ?_;intros;rfl
 have F_qq:=Zak (st:=s_qq) p_qq.l p_qq.x p_qq.k
 have B_qq:=F_qq.binds (ps:=["_law_script"]) fun _ _ _ _ _ _=>by refine len1 ?_;intros;rfl
 have F_qi:=Zak (st:=s_qi) p_qi.l p_qi.x p_qi.k
 have B_qi:=F_qi.binds (ps:=["_law_script","_law_k"]) fun _ _ _ _ _ _=>by refine len2 ?_;intros;rfl
 have F_qn:=Zak (st:=s_qn) p_qn.l p_qn.x p_qn.k
 have B_qn:=F_qn.binds (ps:=["_law_cells"]) fun _ _ _ _ _ _=>by refine len1 ?_;intros;rfl
 have F_q8:=Zak (st:=s_q8) p_q8.l p_q8.x p_q8.k
 have B_q8:=F_q8.binds (ps:=["_law_figure"]) fun _ _ _ _ _ _=>by refine len1 ?_;intros;rfl
 have F_qs:=Zak (st:=s_qs) p_qs.l p_qs.x p_qs.k
 have B_qs:=F_qs.binds (ps:=["_law_stack","_law_cell_here","_law_room"]) fun _ _ _ _ _ _=>by refine len3 ?_;intros;rfl
 have F_qr:=Zak (st:=s_qr) p_qr.l p_qr.x p_qr.k
 have B_qr:=F_qr.binds (ps:=["_law_cells"]) fun _ _ _ _ _ _=>by refine len1 ?_;intros;rfl
 have F_qg:=Zak (st:=s_qg) p_qg.l p_qg.x p_qg.k
 have B_qg:=F_qg.binds (ps:=["_law_figure"]) fun _ _ _ _ _ _=>by refine len1 ?_;intros;rfl
 have F_qp:=Zak (st:=s_qp) p_qp.l p_qp.x p_qp.k
 have B_qp:=F_qp.binds (ps:=["_law_figure","_law_parts_here"]) fun _ _ _ _ _ _=>by refine len2 ?_;intros;rfl
 have F_q9:=Zak (st:=s_q9) p_q9.l p_q9.x p_q9.k
 have B_q9:=F_q9.binds (ps:=["_law_figure","_law_word","_law_at"]) fun _ _ _ _ _ _=>by refine len3 ?_;intros;rfl
 have F_qm:=Zak (st:=s_qm) p_qm.l p_qm.x p_qm.k
 have B_qm:=F_qm.binds (ps:=["_law_figure","_law_word","_law_path_here","_law_at"]) fun _ _ _ _ _ _=>by refine len4 ?_;intros;rfl
 have F_qk:=Zak (st:=s_qk) p_qk.l p_qk.x p_qk.k
 have B_qk:=F_qk.binds (ps:=["_law_figure"]) fun _ _ _ _ _ _=>by refine len1 ?_;intros;rfl
 have F_qt:=Zak (st:=s_qt) p_qt.l p_qt.x p_qt.k
 have B_qt:=F_qt.binds (ps:=["_law_figure"]) fun _ _ _ _ _ _=>by refine len1 ?_;intros;rfl
 have F_qe:=Zak (st:=s_qe) p_qe.l p_qe.x p_qe.k
 have B_qe:=F_qe.binds (ps:=["_law_figure"]) fun _ _ _ _ _ _=>by refine len1 ?_;intros;rfl
 have F_qa:=Zak (st:=s_qa) p_qa.l p_qa.x p_qa.k
 have B_qa:=F_qa.binds (ps:=["_law_figure","_law_cells"]) fun _ _ _ _ _ _=>by refine len2 ?_;intros;rfl
 have F_qo:=Zak (st:=s_qo) p_qo.l p_qo.x p_qo.k
 have B_qo:=F_qo.binds (ps:=["_law_path_here"]) fun _ _ _ _ _ _=>by refine len1 ?_;intros;rfl
 have F_qf:=Zak (st:=s_qf) p_qf.l p_qf.x p_qf.k
 have B_qf:=F_qf.binds (ps:=["_law_one","_law_other","_law_steps"]) fun _ _ _ _ _ _=>by refine len3 ?_;intros;rfl
 have F_qh:=Zak (st:=s_qh) p_qh.l p_qh.x p_qh.k
 have B_qh:=F_qh.binds (ps:=["_law_figure","_law_cell_here"]) fun _ _ _ _ _ _=>by refine len2 ?_;intros;rfl
 have F_qc:=Zak (st:=s_qc) p_qc.l p_qc.x p_qc.k
 have B_qc:=F_qc.binds (ps:=["_law_one","_law_other"]) fun _ _ _ _ _ _=>by refine len2 ?_;intros;rfl
 have F_qv:=Zak (st:=s_qv) p_qv.l p_qv.x p_qv.k
 have B_qv:=F_qv.binds (ps:=["_law_script"]) fun _ _ _ _ _ _=>by refine len1 ?_;intros;rfl
 have T:TX K mg _ _ _ _ _ _ _ _ _ _ _ _ _ _ _ _ _ _ _ _ _ _ _ _ _ _ _ _ _ _ _ _ 65 _ 175 _ _ _ _ _ _ _ _ _ _ _ _ _ _ _ _ _ _ _ _ _ _ _ _ _ _ _ _ _ _ _ _ _ _ _:=⟨F_q7,B_q7,Yz X G p_q7.a,F_qd,B_qd,Yz X G p_qd.a,F_qj,B_qj,Yz X G p_qj.a,F_q2,B_q2,Yz X G p_q2.a,F_ql,B_ql,Yz X G p_ql.a,F_q6,B_q6,Yz X G p_q6.a,F_q0,B_q0,Yz X G p_q0.a,F_qb,B_qb,Yz X G p_qb.a,rfl,h_qb,(by decide),F_q5,B_q5,Yz X G p_q5.a,F_qu,B_qu,Yz X G p_qu.a,F_q3,B_q3,Yz X G p_q3.a,F_q1,B_q1,Yz X G p_q1.a,F_q4,B_q4,Yz X G p_q4.a,F_qq,B_qq,Yz X G p_qq.a,F_qi,B_qi,Yz X G p_qi.a,F_qn,B_qn,Yz X G p_qn.a,F_q8,B_q8,Yz X G p_q8.a,F_qs,B_qs,Yz X G p_qs.a,F_qr,B_qr,Yz X G p_qr.a,F_qg,B_qg,Yz X G p_qg.a,F_qp,B_qp,Yz X G p_qp.a,F_q9,B_q9,Yz X G p_q9.a,F_qm,B_qm,Yz X G p_qm.a,F_qk,B_qk,Yz X G p_qk.a,F_qt,B_qt,Yz X G p_qt.a,F_qe,B_qe,Yz X G p_qe.a,rfl,h_qe,(by decide),F_qa,B_qa,Yz X G p_qa.a,F_qo,B_qo,Yz X G p_qo.a,F_qf,B_qf,Yz X G p_qf.a,F_qh,B_qh,Yz X G p_qh.a,F_qc,B_qc,Yz X G p_qc.a,F_qv,B_qv,Yz X G p_qv.a,YK X G n_all,YK X G n_any,YK X G n_bool,YK X G n_enumerate,YK X G n_int,YK X G n_isinstance,YK X G n_len,YK X G n_list,YK X G n_max,YK X G n_min,YK X G n_range,YK X G n_reversed,YK X G n_sorted,YK X G n_str,YK X G n_sum,YK X G n_tuple,YK X G n_zip,⟨_,Yz X G c_KINDS,rfl⟩,Zeh o_KINDS t_KINDS i_KINDS,ZfS o_KINDS t_KINDS,⟨_,Yz X G c_MANY,rfl⟩,Zeh o_MANY t_MANY i_MANY,ZfS o_MANY t_MANY⟩
 exact ⟨_,fun s v=>.of_eq rfl,fun base _ _ hB=>ok_qv T (hB _ (.head _)) (hB _ (.tail _ (.head _)))⟩
theorem walk {l:PySem.W.OpenLaw} {q:Program} {loose:List Str} {XP:(Str->Option Value)->Heap->Prop} {YP:World->Heap->Prop} {d:DefRec} {K:Params->YFr} (hn:l.most=some 63) (hdf:d.params.defaults=[])
  (hY:∀ (w:World) (h:Heap),YP w h->(K w.params).In h/\∀ t∈tabs,h.get? t.1=some (PySem.W.tabObj #[]))
  (hK:∀ (w:World) (t:Addr × Pos × Str),t∈tabs->(K w.params).lookup t.1=none/\∃ c,PySem.W.codeHdIn (K w.params) c t.1=true)
  (F : ∀ (w:World) (mg:Str->Option Value) (fa:Addr) (h:Heap),(K w.params).In h->h.Ns mainGlobals mg->mg d.name=some (.ref fa) ->
   ∃ fd:FuncData,(∀ (s:Shared) (u:Value),BindsTo s fd ⟨[u],[]⟩ [("_law_script",u)])/\∀ base:Heap,(K w.params).In base->base.Ns mainGlobals mg->(∀ t∈tabs,base.BuiltinsAt mg t.1)->FnOk l.prog w (K w.params) mg base CX0 200 fa fd ["_law_script"] (spOf (K w.params) (ZcT tabs))) :
  PySem.W.WalkO q loose XP YP l.row.toRowW d [] (fun f vs=>PySem.call f vs) :=
 L2.walk_ofT (n:=63) (k:=200) (x:="_law_script") (ts:=tabs) (sp:=fun w=>spOf (K w.params) (ZcT tabs)) hn (by decide) hdf ⟨rfl,by decide,by decide⟩ hY hK F (fun _ _ a ns hl hO hT hS=>law_inT (by decide) hl hO hT hS)
noncomputable def _root_.PySem.W.Fast.tw14598715356260435866:=PySem.W.boot_o_0
theorem _root_.PySem.W.Fast.te14598715356260435866:PySem.W.boot_o_0=PySem.W.Fast.tw14598715356260435866:=rfl
noncomputable def _root_.PySem.W.Fast.tw10369579951488972758:=PySem.Challenge.pw_figurebook_k40_whole_ways_lead
theorem _root_.PySem.W.Fast.te10369579951488972758:PySem.Challenge.pw_figurebook_k40_whole_ways_lead=PySem.W.Fast.tw10369579951488972758:=rfl
noncomputable def hq:Program:=PySem.W.view PySem.Challenge.pw_figurebook_k40_whole_ways_lead [36]
noncomputable def hloose:List Str:=(["KINDS","MANY","parts_of","made_of","folded","folded_over","key_by","plain_key","plain_with_key","plain_by","least_start","way","moved_alike","poured_alike","begun_alike","_law_mix","_law_cell","_law_next","_law_tuples","_law_put","_law_any","_law_parts","_law_with","_law_at_top","_law_done"]:List Str)++(["_law_size","_law_key","_law_plain","_law_shaken","_law_path","_law_leads","_law_third","_law_right"]:List Str)
noncomputable def hKl (P:Params):List (Addr × Obj):=[(2,(Obj.mk .none none (.dict #[] 0) #[])),
 (3,hNs 43 [hEnt P "__name__" 165 (.str "law_figurebook_k40_whole_ways_lead" 309),hEnt P "__doc__" 166 .none,hEnt P "__package__" 167 .none,hEnt P "__loader__" 168 (.builtin "__main__.__loader__#opaque"),hEnt P "__spec__" 169 .none,hEnt P "__annotations__" 170 (.ref 6),hEnt P "__builtins__" 171 (.ref 4),hEnt P "__file__" 173 (.str "/claim/cut.py" 172),hEnt P "__cached__" 174 .none,hEnt P "KINDS" 198 (.ref 15),hEnt P "MANY" 203 (.ref 16),hEnt P "parts_of" 211 (.ref 23),hEnt P "made_of" 219 (.ref 30),hEnt P "folded" 227 (.ref 37),hEnt P "folded_over" 243 (.ref 44),hEnt P "key_by" 249 (.ref 49),hEnt P "plain_key" 256 (.ref 56),hEnt P "plain_with_key" 263 (.ref 63),hEnt P "plain_by" 269 (.ref 68),hEnt P "least_start" 280 (.ref 75),hEnt P "way" 288 (.ref 80),hEnt P "moved_alike" 296 (.ref 87),hEnt P "poured_alike" 302 (.ref 92),hEnt P "begun_alike" 308 (.ref 97),hEnt P "_law_mix" 320 (.ref 104),hEnt P "_law_cell" 328 (.ref 111),hEnt P "_law_next" 335 (.ref 118),hEnt P "_law_tuples" 341 (.ref 123),hEnt P "_law_put" 347 (.ref 128),hEnt P "_law_any" 357 (.ref 135),hEnt P "_law_parts" 364 (.ref 142),hEnt P "_law_with" 372 (.ref 149),hEnt P "_law_at_top" 382 (.ref 156),hEnt P "_law_done" 394 (.ref 163),hEnt P "_law_size" 400 (.ref 168),hEnt P "_law_key" 406 (.ref 173),hEnt P "_law_plain" 412 (.ref 178),hEnt P "_law_shaken" 418 (.ref 183),hEnt P "_law_path" 424 (.ref 188),hEnt P "_law_leads" 434 (.ref 195),hEnt P "_law_third" 443 (.ref 202),hEnt P "_law_right" 452 (.ref 209),hEnt P "law" 458 (.ref 214)]),
 (15,hTup [(.str "nothing" 189),(.str "bead" 190),(.str "left" 191),(.str "right" 192),(.str "pair" 193),(.str "row" 194),(.str "bag" 195),(.str "choice" 196),(.str "ring" 197)]),
 (16,hTup [(.str "row" 199),(.str "bag" 200),(.str "choice" 201),(.str "ring" 202)]),
 (22,ZaP "parts_of" "parts_of" 204 4 1 3 17 18 (some 19) (some 20) 21 209 210),
 (23,hFun s_q7 "parts_of" "parts_of" (.str "figurebook.figures" 187) 22),
 (29,ZaP "made_of" "made_of" 212 11 2 3 24 25 (some 26) (some 27) 28 217 218),
 (30,hFun s_qd "made_of" "made_of" (.str "figurebook.figures" 187) 29),
 (36,ZaP "folded" "folded" 220 15 2 3 31 32 (some 33) (some 34) 35 225 226),
 (37,hFun s_qj "folded" "folded" (.str "figurebook.figures" 187) 36),
 (43,ZaP "folded_over" "folded_over" 228 17 3 3 38 39 (some 40) (some 41) 42 241 242),
 (44,hFun s_q2 "folded_over" "folded_over" (.str "figurebook.figures" 187) 43),
 (48,ZaP "key_by" "key_by" 244 30 2 3 45 46 none none 47 247 248),
 (49,hFun s_ql "key_by" "key_by" (.str "figurebook.figures" 187) 48),
 (55,ZaP "plain_key" "plain_key" 250 35 1 3 50 51 (some 52) (some 53) 54 254 255),
 (56,hFun s_q6 "plain_key" "plain_key" (.str "figurebook.figures" 187) 55),
 (62,ZaP "plain_with_key" "plain_with_key" 257 37 1 3 57 58 (some 59) (some 60) 61 261 262),
 (63,hFun s_q0 "plain_with_key" "plain_with_key" (.str "figurebook.figures" 187) 62),
 (67,ZaP "plain_by" "plain_by" 264 39 2 3 64 65 none none 66 267 268),
 (68,hFun s_qb "plain_by" "plain_by" (.str "figurebook.figures" 187) 67),
 (74,ZaP "least_start" "least_start" 270 50 1 3 69 70 (some 71) (some 72) 73 278 279),
 (75,hFun s_q5 "least_start" "least_start" (.str "figurebook.figures" 187) 74),
 (79,ZaP "way" "way" 283 60 2 3 76 77 none none 78 286 287),
 (80,hFun s_qu "way" "way" (.str "figurebook.papers" 281) 79),
 (86,ZaP "moved_alike" "moved_alike" 289 72 2 3 81 82 (some 83) (some 84) 85 294 295),
 (87,hFun s_q3 "moved_alike" "moved_alike" (.str "figurebook.papers" 281) 86),
 (91,ZaP "poured_alike" "poured_alike" 297 78 2 3 88 89 none none 90 300 301),
 (92,hFun s_q1 "poured_alike" "poured_alike" (.str "figurebook.papers" 281) 91),
 (96,ZaP "begun_alike" "begun_alike" 303 88 2 3 93 94 none none 95 306 307),
 (97,hFun s_q4 "begun_alike" "begun_alike" (.str "figurebook.papers" 281) 96),
 (103,ZaP "_law_mix" "_law_mix" 311 97 1 3 98 99 (some 100) (some 101) 102 318 319),
 (104,hFun s_qq "_law_mix" "_law_mix" (.str "law_figurebook_k40_whole_ways_lead" 309) 103),
 (110,ZaP "_law_cell" "_law_cell" 321 104 2 3 105 106 (some 107) (some 108) 109 326 327),
 (111,hFun s_qi "_law_cell" "_law_cell" (.str "law_figurebook_k40_whole_ways_lead" 309) 110),
 (117,ZaP "_law_next" "_law_next" 329 108 1 3 112 113 (some 114) (some 115) 116 333 334),
 (118,hFun s_qn "_law_next" "_law_next" (.str "law_figurebook_k40_whole_ways_lead" 309) 117),
 (122,ZaP "_law_tuples" "_law_tuples" 336 112 1 3 119 120 none none 121 339 340),
 (123,hFun s_q8 "_law_tuples" "_law_tuples" (.str "law_figurebook_k40_whole_ways_lead" 309) 122),
 (127,ZaP "_law_put" "_law_put" 342 119 3 3 124 125 none none 126 345 346),
 (128,hFun s_qs "_law_put" "_law_put" (.str "law_figurebook_k40_whole_ways_lead" 309) 127),
 (134,ZaP "_law_any" "_law_any" 348 139 1 3 129 130 (some 131) (some 132) 133 355 356),
 (135,hFun s_qr "_law_any" "_law_any" (.str "law_figurebook_k40_whole_ways_lead" 309) 134),
 (141,ZaP "_law_parts" "_law_parts" 358 144 1 3 136 137 (some 138) (some 139) 140 362 363),
 (142,hFun s_qg "_law_parts" "_law_parts" (.str "law_figurebook_k40_whole_ways_lead" 309) 141),
 (148,ZaP "_law_with" "_law_with" 365 150 2 3 143 144 (some 145) (some 146) 147 370 371),
 (149,hFun s_qp "_law_with" "_law_with" (.str "law_figurebook_k40_whole_ways_lead" 309) 148),
 (155,ZaP "_law_at_top" "_law_at_top" 373 154 3 3 150 151 (some 152) (some 153) 154 380 381),
 (156,hFun s_q9 "_law_at_top" "_law_at_top" (.str "law_figurebook_k40_whole_ways_lead" 309) 155),
 (162,ZaP "_law_done" "_law_done" 383 161 4 3 157 158 (some 159) (some 160) 161 392 393),
 (163,hFun s_qm "_law_done" "_law_done" (.str "law_figurebook_k40_whole_ways_lead" 309) 162),
 (167,ZaP "_law_size" "_law_size" 395 171 1 3 164 165 none none 166 398 399),
 (168,hFun s_qk "_law_size" "_law_size" (.str "law_figurebook_k40_whole_ways_lead" 309) 167),
 (172,ZaP "_law_key" "_law_key" 401 177 1 3 169 170 none none 171 404 405),
 (173,hFun s_qt "_law_key" "_law_key" (.str "law_figurebook_k40_whole_ways_lead" 309) 172),
 (177,ZaP "_law_plain" "_law_plain" 407 185 1 3 174 175 none none 176 410 411),
 (178,hFun s_qe "_law_plain" "_law_plain" (.str "law_figurebook_k40_whole_ways_lead" 309) 177),
 (182,ZaP "_law_shaken" "_law_shaken" 413 197 2 3 179 180 none none 181 416 417),
 (183,hFun s_qa "_law_shaken" "_law_shaken" (.str "law_figurebook_k40_whole_ways_lead" 309) 182),
 (187,ZaP "_law_path" "_law_path" 419 212 1 3 184 185 none none 186 422 423),
 (188,hFun s_qo "_law_path" "_law_path" (.str "law_figurebook_k40_whole_ways_lead" 309) 187),
 (194,ZaP "_law_leads" "_law_leads" 425 216 3 3 189 190 (some 191) (some 192) 193 432 433),
 (195,hFun s_qf "_law_leads" "_law_leads" (.str "law_figurebook_k40_whole_ways_lead" 309) 194),
 (201,ZaP "_law_third" "_law_third" 435 228 2 3 196 197 (some 198) (some 199) 200 441 442),
 (202,hFun s_qh "_law_third" "_law_third" (.str "law_figurebook_k40_whole_ways_lead" 309) 201),
 (208,ZaP "_law_right" "_law_right" 444 235 2 3 203 204 (some 205) (some 206) 207 450 451),
 (209,hFun s_qc "_law_right" "_law_right" (.str "law_figurebook_k40_whole_ways_lead" 309) 208),
 (213,ZaP "law" "law" 453 240 1 3 210 211 none none 212 456 457),
 (214,hFun s_qv "law" "law" (.str "law_figurebook_k40_whole_ways_lead" 309) 213)]
noncomputable def hK (P:Params):YFr:=hKl P
noncomputable def hAs:List Addr:=[2,3,15,16,22,23,29,30,36,37,43,44,48,49,55,56,62,63,67,68,74,75,79,80,86,87,91,92,96,97,103,104,110,111,117,118,122,123,127,128,134,135,141,142,148,149,155,156,162,163,167,168,172,173,177,178,182,183,187,188,194,195,201,202,208,209,213,214]
noncomputable def hTs:List Addr:=[65,175]
noncomputable abbrev hH:PySem.W.Hook:=PySem.W.kmHook hK hAs (fun _=>rfl) hTs
noncomputable abbrev hXt:Shared->Bool:=fun s=>PySem.W.xlAt hq [] s && PySem.W.recOk (PySem.W.RowW.records (PySem.W.OpenRow.toRowW (PySem.W.OpenLaw.row PySem.Challenge.rw_figurebook_k40_whole_ways_lead))) s
noncomputable def hL (w:World) (os:OsState):=headT PySem.Challenge.pw_figurebook_k40_whole_ways_lead w os 11 (some (.ref 6)) 40000 (fun s=>(PySem.W.staticsOk (importedModules PySem.Challenge.pw_figurebook_k40_whole_ways_lead.main.body) (PySem.W.boot_heap w.params) s.heap && PySem.W.namesBound PySem.Challenge.pw_figurebook_k40_whole_ways_lead s.heap && PySem.W.gensDone s && PySem.W.laidKept (PySem.W.boot_heap w.params) s.heap,PySem.W.openSeen hq hloose (importedModules PySem.Challenge.pw_figurebook_k40_whole_ways_lead.main.body) hXt true s,(hAs.map s.heap.get?,hTs.map s.heap.get?)))
noncomputable def hR (w:World) (_:OsState):=some (true,PySem.W.openGood hq hloose,((hKl w.params).map fun p=>some p.2,hTs.map fun _=>some (PySem.W.tabObj #[])))
lay_quick My.hL My.hR L2.hBoot
theorem h_run (w:World) (os:OsState):hL w os=hR w os:=(congrFun (congrFun PySem.W.Fast.te13887445390003487561 w) os).trans (Eq.trans (by kernel_rfl) (congrFun (congrFun PySem.W.Fast.te6075038599416009561 w) os).symm)
theorem h_boot (w:World):hBoot w=(true,11,some (.ref 6)):=(congrFun PySem.W.Fast.te16037136179764453472 w).trans (by kernel_rfl)
theorem h_left:PySem.W.LeftO PySem.Challenge.pw_figurebook_k40_whole_ways_lead hq hloose hXt (PySem.W.Hook.obs hH) (PySem.W.Hook.val hH) 40000:=ZgV (by rfl) (by decide) (fun s=>rfl) h_boot h_run
end My
open PySem PySem.W PyProof.Rows
set_option maxRecDepth 100000 in
set_option maxHeartbeats 0 in
theorem PySem.Challenge.cw_figurebook_k40_whole_ways_lead_holds : PySem.Challenge.rw_figurebook_k40_whole_ways_lead.Holds := by
 w_on;o_law
 refine holds_open (q:=My.hq) (loose:=My.hloose) (Xt:=My.hXt) (XP:=XL My.hq []) (Yf:=Hook.obs My.hH) (Ya:=Hook.val My.hH) (YP:=Hook.says My.hH) (N:=40000) My.h_left (Hook.of My.hH) (Hook.keeps My.hH) (fun s e=>xl_of s (YcU.mp e).1) XL.keeps (by rfl) (by rfl) (by rfl) (fun s e=>recFacts_of (YcU.mp e).2) (by rfl) (by first | assumption | decide +kernel) (by decide +kernel) ⟨rfl,rfl,rfl,rfl,rfl,by decide +kernel⟩ ?hw ?hc
 case hw=>w_witness2
 k_fill
 refine My.walk (l:=PySem.Challenge.rw_figurebook_k40_whole_ways_lead) rfl rfl (fun w h Y=>⟨PySem.W.km_in_of Y,fun t ht=>PySem.W.km_tabs_of Y t.1 (by simp only [My.tabs,Yv,YU,YaL] at ht;rcases ht with rfl | rfl <;> simp [My.hTs])⟩) ?hK ?F
 case hK =>
  intro w t ht
  rcases Yv.mp ht with rfl | ht
  ·refine ⟨?_,67,?_⟩
   all_goals first | kernel_rfl | rfl
  rcases Yv.mp ht with rfl | ht
  ·refine ⟨?_,177,?_⟩
   all_goals first | kernel_rfl | rfl
  ·cases ht
 case F =>
  intro w mg fa h KX G hmg
  have q0:=My.ff (My.hK w.params) "parts_of" 23 22 My.s_q7 "figurebook.figures" 187 (by kernel_rfl)
  have q1:=My.ff (My.hK w.params) "made_of" 30 29 My.s_qd "figurebook.figures" 187 (by kernel_rfl)
  have q2:=My.ff (My.hK w.params) "folded" 37 36 My.s_qj "figurebook.figures" 187 (by kernel_rfl)
  have q3:=My.ff (My.hK w.params) "folded_over" 44 43 My.s_q2 "figurebook.figures" 187 (by kernel_rfl)
  have q4:=My.ff (My.hK w.params) "key_by" 49 48 My.s_ql "figurebook.figures" 187 (by kernel_rfl)
  have q5:=My.ff (My.hK w.params) "plain_key" 56 55 My.s_q6 "figurebook.figures" 187 (by kernel_rfl)
  have q6:=My.ff (My.hK w.params) "plain_with_key" 63 62 My.s_q0 "figurebook.figures" 187 (by kernel_rfl)
  have q7:=My.ff (My.hK w.params) "plain_by" 68 67 My.s_qb "figurebook.figures" 187 (by kernel_rfl)
  have q8:=My.ff (My.hK w.params) "least_start" 75 74 My.s_q5 "figurebook.figures" 187 (by kernel_rfl)
  have q9:=My.ff (My.hK w.params) "way" 80 79 My.s_qu "figurebook.papers" 281 (by kernel_rfl)
  have q10:=My.ff (My.hK w.params) "moved_alike" 87 86 My.s_q3 "figurebook.papers" 281 (by kernel_rfl)
  have q11:=My.ff (My.hK w.params) "poured_alike" 92 91 My.s_q1 "figurebook.papers" 281 (by kernel_rfl)
  have q12:=My.ff (My.hK w.params) "begun_alike" 97 96 My.s_q4 "figurebook.papers" 281 (by kernel_rfl)
  have q13:=My.ff (My.hK w.params) "_law_mix" 104 103 My.s_qq "law_figurebook_k40_whole_ways_lead" 309 (by kernel_rfl)
  have q14:=My.ff (My.hK w.params) "_law_cell" 111 110 My.s_qi "law_figurebook_k40_whole_ways_lead" 309 (by kernel_rfl)
  have q15:=My.ff (My.hK w.params) "_law_next" 118 117 My.s_qn "law_figurebook_k40_whole_ways_lead" 309 (by kernel_rfl)
  have q16:=My.ff (My.hK w.params) "_law_tuples" 123 122 My.s_q8 "law_figurebook_k40_whole_ways_lead" 309 (by kernel_rfl)
  have q17:=My.ff (My.hK w.params) "_law_put" 128 127 My.s_qs "law_figurebook_k40_whole_ways_lead" 309 (by kernel_rfl)
  have q18:=My.ff (My.hK w.params) "_law_any" 135 134 My.s_qr "law_figurebook_k40_whole_ways_lead" 309 (by kernel_rfl)
  have q19:=My.ff (My.hK w.params) "_law_parts" 142 141 My.s_qg "law_figurebook_k40_whole_ways_lead" 309 (by kernel_rfl)
  have q20:=My.ff (My.hK w.params) "_law_with" 149 148 My.s_qp "law_figurebook_k40_whole_ways_lead" 309 (by kernel_rfl)
  have q21:=My.ff (My.hK w.params) "_law_at_top" 156 155 My.s_q9 "law_figurebook_k40_whole_ways_lead" 309 (by kernel_rfl)
  have q22:=My.ff (My.hK w.params) "_law_done" 163 162 My.s_qm "law_figurebook_k40_whole_ways_lead" 309 (by kernel_rfl)
  have q23:=My.ff (My.hK w.params) "_law_size" 168 167 My.s_qk "law_figurebook_k40_whole_ways_lead" 309 (by kernel_rfl)
  have q24:=My.ff (My.hK w.params) "_law_key" 173 172 My.s_qt "law_figurebook_k40_whole_ways_lead" 309 (by kernel_rfl)
  have q25:=My.ff (My.hK w.params) "_law_plain" 178 177 My.s_qe "law_figurebook_k40_whole_ways_lead" 309 (by kernel_rfl)
  have q26:=My.ff (My.hK w.params) "_law_shaken" 183 182 My.s_qa "law_figurebook_k40_whole_ways_lead" 309 (by kernel_rfl)
  have q27:=My.ff (My.hK w.params) "_law_path" 188 187 My.s_qo "law_figurebook_k40_whole_ways_lead" 309 (by kernel_rfl)
  have q28:=My.ff (My.hK w.params) "_law_leads" 195 194 My.s_qf "law_figurebook_k40_whole_ways_lead" 309 (by kernel_rfl)
  have q29:=My.ff (My.hK w.params) "_law_third" 202 201 My.s_qh "law_figurebook_k40_whole_ways_lead" 309 (by kernel_rfl)
  have q30:=My.ff (My.hK w.params) "_law_right" 209 208 My.s_qc "law_figurebook_k40_whole_ways_lead" 309 (by kernel_rfl)
  have q31:=My.ff (My.hK w.params) "law" 214 213 My.s_qv "law_figurebook_k40_whole_ways_lead" 309 (by kernel_rfl)
  refine' My.all_mk KX G hmg q0 q1 q2 q3 q4 q5 q6 q7 ?h_qb q8 q9 q10 q11 q12 q13 q14 q15 q16 q17 q18 q19 q20 q21 q22 q23 q24 q25 ?h_qe q26 q27 q28 q29 q30 q31 ?n_all ?n_any ?n_bool ?n_enumerate ?n_int ?n_isinstance ?n_len ?n_list ?n_max ?n_min ?n_range ?n_reversed ?n_sorted ?n_str ?n_sum ?n_tuple ?n_zip ?c_KINDS ?o_KINDS ?t_KINDS ?i_KINDS ?c_MANY ?o_MANY ?t_MANY ?i_MANY
  (case h_qb=>exact (by kernel_rfl:PySem.W.codeHdIn (My.hK w.params) 67 65=true))
  (case h_qe=>exact (by kernel_rfl:PySem.W.codeHdIn (My.hK w.params) 177 175=true))
  (case n_all=>kernel_rfl)
  (case n_any=>kernel_rfl)
  (case n_bool=>kernel_rfl)
  (case n_enumerate=>kernel_rfl)
  (case n_int=>kernel_rfl)
  (case n_isinstance=>kernel_rfl)
  (case n_len=>kernel_rfl)
  (case n_list=>kernel_rfl)
  (case n_max=>kernel_rfl)
  (case n_min=>kernel_rfl)
  (case n_range=>kernel_rfl)
  (case n_reversed=>kernel_rfl)
  (case n_sorted=>kernel_rfl)
  (case n_str=>kernel_rfl)
  (case n_sum=>kernel_rfl)
  (case n_tuple=>kernel_rfl)
  (case n_zip=>kernel_rfl)
  (case c_KINDS=>exact (by kernel_rfl:PySem.W.nsIn (My.hK w.params) mainGlobals "KINDS"=some (some (.ref 15))))
  (case o_KINDS=>exact (by kernel_rfl:(My.hK w.params).lookup 15=some ⟨.type "tuple",none,.seq #[(.str "nothing" 189),(.str "bead" 190),(.str "left" 191),(.str "right" 192),(.str "pair" 193),(.str "row" 194),(.str "bag" 195),(.str "choice" 196),(.str "ring" 197)] 0,#[]⟩))
  (case t_KINDS=>exact ⟨rfl,rfl⟩)
  (case i_KINDS=>rfl)
  (case c_MANY=>exact (by kernel_rfl:PySem.W.nsIn (My.hK w.params) mainGlobals "MANY"=some (some (.ref 16))))
  (case o_MANY=>exact (by kernel_rfl:(My.hK w.params).lookup 16=some ⟨.type "tuple",none,.seq #[(.str "row" 199),(.str "bag" 200),(.str "choice" 201),(.str "ring" 202)] 0,#[]⟩))
  (case t_MANY=>exact ⟨rfl,rfl⟩)
  (case i_MANY=>rfl)
