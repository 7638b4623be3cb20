import PyProof.Rows.All
import Wide.All
import OpenK.AllK
import Wide.FinOn
import Lean
import PyProof.EqAt
import PyProof.EqKinds
import PyProof.TupleCall
import KE.KSortTup
import PyProof.TupleKey
import PyProof.DictRoadsH
import KE.KLam
import KE.KNestM
import KE.KDflt
import KE.KMinKey
import PySem.Challenge.RW_figurebook_k35_namings_by_all_orders
noncomputable section
section
open PySem PySem.Spec PyProof.Rows
abbrev YFr:=PySem.W.Frag
def Yb:=@List.length_map
def Yc:=@Bool.and_eq_true
def Yd:=@wpAny_bind
def Ye:=@List.getElem?_eq_getElem
def Yg:=@Nat.le_refl
def Yh:=@List.length_append
def Yi:=@Heap.get?_push_of_some
def Yj:=@List.size_toArray
def Yk:=@List.mem_map
def Yl:=@wpAny_pure
def Ym:=@List.map_append
def Yn:=@List.mem_of_getElem?
def Yo:=@Heap.lt_size
def Yp:=@List.getElem?_eq_some_iff
def Yq:=@List.getD_eq_getElem?_getD
def Yr:=@List.getElem?_map
def Ys:=@Bool.and_true
def Yt:=@List.mem_cons
def Yu:=@List.map_cons
def Yv:=@List.mem_singleton
def Yw:=@List.mem_append_right
def Yx:=@Bool.false_ne_true
def Yy:=@Bool.and_false
def Yz:=@beq_self_eq_true
def YA:=@Bool.true_and
def YB:=@PySem.W.mg_of
def YC:=@decide_eq_true_eq
def YD:=@Nat.ne_of_lt
def YE:=@Nat.le_trans
def YF:=@List.mem_cons_of_mem
def YG:=@List.mem_cons_self
def YH:=@Bool.false_and
def YI:=@Heap.get?_push_size
def YJ:=@List.length_take
def YK:=@List.mem_append
def YL:=@Nat.lt_of_lt_of_le
def YM:=@PySem.W.mg_none_of
def YN:=@wpAny_loadPart'
def YO:=@List.map_map
def YQ:=@List.nodup_cons
def YR:=@List.length_drop
def YS:=@Int.emod_nonneg
def YT:=@List.getElem?_eq_none
def YU:=@wpAny_holding
def YV:=@wpAny_mono
def YW:=@Int.emod_lt_of_pos
def YX:=@Nat.zero_le
def YY:=@PySem.F.plainAttrs_list
def YZ:=@decide_eq_false
def Y0:=@Option.some.inj
def Y1:=@List.cons.injEq
def Y2:=@PassesOwn.never
def Y3:=@Heap.SameBut.update
def Y4:=@List.not_mem_nil
def Y5:=@List.map_take
def Y6:=@List.length_eq_zero_iff
def Y7:=@List.getElem?_eq_none_iff
def Y8:=@List.append_nil
def Y9:=@PyProof.Rows.callWith_type1
def Yaa:=@sizeLine_eq
def Yab:=@List.length_range
def Yac:=@PyProof.Rows.slot_tuple_getitem
def Yad:=@List.mem_range
def Yae:=@List.getElem?_append_right
def Yaf:=@List.map_drop
def Yag:=@PySem.W.kia_one
def Yah:=@Bool.false_eq_true
def Yai:=@List.append_assoc
def Yaj:=@wpAny_Call_Name_kw
def Yak:=@Option.map_eq_some_iff
def Yal:=@List.take_of_length_le
def Yam:=@List.reverse_cons
def Yan:=@beq_eq_false_iff_ne
def Yao:=@PySem.mem_of_lookup
def Yap:=@List.map_congr_left
def Yaq:=@List.length_reverse
def Yar:=@List.getElem?_append_left
def Yas:=@List.take_append_drop
def Yat:=@List.take_length
def Yau:=@List.mem_append_left
def Yav:=@Array.getElem?_toList
def Yaw:=@List.eq_nil_or_concat
def Yax:=@PySem.F.slot_list_append
def Yay:=@PySem.F.type_list_append
def Yaz:=@wpAny_truthy_bool
def YaA:=@decide_eq_true
def YaB:=@List.drop_zero
def YaC:=@Array.toList_inj
def YaD:=@wpAny_passesOwn
def YaE:=@List.mem_iff_getElem?
def YaF:=@get?_update_seq
def YaG:=@wpAny_standAt
def YaH:=@if_false
def YaI:=@or_false
def YaJ:=@Array.perm_iff_toList_perm
def YaK:=@List.take_add_one
def YaL:=@List.reverse_perm
def YaM:=@List.drop_eq_getElem_cons
def YaN:=@Nat.mod_eq_of_lt
def YaO:=@Nat.lt_irrefl
def YaP:=@plainId_quiet
def YaQ:=@Bool.eq_iff_iff
def YaR:=@call_meets
def YaS:=@wpAny_updateSeq
def YaT:=@Nat.le_max_left
def YaU:=@PyData.tuple.injEq
def YaV:=@PySem.W.cellsFrom_some
def YaW:=@wpAny_newObj_type
def YaX:=@wpAny_pyIter_list
def YaY:=@Nat.lt_succ_of_lt
def YaZ:=@of_decide_eq_true
def Ya0:=@List.map_nil
def Ya1:=@Around.under_plainId
def Ya2:=@wpAny_newFunctionEnv_cells
def Ya3:=@listUpdate_at
def Ya4:=@wpAny_letGo
def Ya5:=@Array.getElem?_eq_getElem
def Ya6:=@Nat.min_eq_left
def Ya7:=@codeAny_mono
def Ya8:=@wpAny_evalAll_cons
def Ya9:=@Option.isSome_iff_exists
def Yba:=@PySem.F.args_tuple_add_2
def Ybb:=@wpAny_typeOf
def Ybc:=@Nat.lt_of_le_of_lt
def Ybd:=@List.pairwise_cons
def Ybe:=@wpAny_seqItems
def Ybf:=@wpAny_tryCatch
def Ybg:=@Nat.mod_lt
def Ybh:=@Nat.mul_le_mul
def Ybi:=@PySem.F.entry_tuple_add
def Ybj:=@wpAny_callSpecial?_slot
def Ybk:=@wpAny_evalAll_nil
def Ybl:=@wpAny_pyNext_list_item
def Ybm:=@PySem.F.slot_tuple_add
def Ybn:=@wpAny_field
def Ybo:=@Heap.get?_update_other
def Ybp:=@wpAny_newList
def Ybq:=@wpAny_call_entry
def Ybr:=@List.getElem_mem
def Ybs:=@Nat.le_max_right
def Ybt:=@List.getElem?_reverse
def Ybu:=@List.dropLast_eq_take
def Ybv:=@PySem.F.slot_list_pop
def Ybw:=@PySem.F.type_list_pop
def Ybx:=@List.eraseIdxIfInBounds_toArray
def Yby:=@wpAny_execs_nil
def Ybz:=@Nat.ne_of_gt
def YbA:=@codeAny_builtin
def YbB:=@PyProof.Rows.lt_int
def YbC:=@List.getElem?_range
def YbD:=@Heap.size_push
def YbE:=@List.take_succ
def YbF:=@Int.le_refl
def YbG:=@Calls.spliced_cons
def YbH:=@PySem.W.KFB.if_not
def YbI:=@Calls.Name_function_global
def YbJ:=@Calls.spliced_nil
def YbK:=@wpAny_sequenceKey
def YbL:=@List.ext_getElem?
def YbM:=@List.pairwise_map
def YbN:=@Nat.le_of_lt
def YbO:=@List.getElem?_take_of_lt
def YbP:=@concat_meets
def YbQ:=@List.all_eq_true
def YbR:=@Nat.lt_succ_self
def YbS:=@Nat.le_add_right
def YbT:=@List.ext_getElem
def YbU:=@Nat.sub_self
def YbV:=@SeqAt.eqAt_reads
def YbW:=@PyData.int.injEq
def YbX:=@List.map_reverse
def YbY:=@PySem.F.plainAttrs_tuple
def YbZ:=@PySem.F.slot_tuple_index
def Yb0:=@PySem.F.type_tuple_index
def Yb1:=@List.getElem?_replicate
def Yb2:=@decide_eq_false_iff_not
def Yb3:=@List.of_mem_zip
def Yb4:=@eq_of_beq
def Yb5:=@Nat.min_le_left
def Yb6:=@wpAny_specialOf
def Yb7:=@Nat.not_lt_zero
def Yb8:=@List.getElem?_set_self
def Yb9:=@subscriptTail_builtinR
def Yca:=@Calls.callWith_builtin
def Ycb:=@richCompare_meets_room
def Ycc:=@wpAny_pyNext_list_end
def Ycd:=@List.length_replicate
def Yce:=@Heap.get?_update_self
def Ycf:=@builtinLookup_eq_fast
def Ycg:=@wpAny_listPart
def Ych:=@List.getElem?_set_ne
def Yci:=@wpAny_loadName_local
def Ycj:=@wpAny_call
def Yck:=@F.args_list_extend_2
def Ycl:=@wpAny_rule
def Ycm:=@wpAny_pyIter_revIter
def Ycn:=@and_true
def Yco:=@Bool.and_eq_true_iff
def Ycp:=@wpAny_loadName_cell
def Ycq:=@F.entry_list_extend
def Ycr:=@List.filter_eq_self
def Ycs:=@PyProof.Rows.lt_str
def Yct:=@Array.toList_append
def Ycu:=@List.reverse_append
def Ycv:=@Int.toNat_of_nonneg
def Ycw:=@SeqAt.EqAt.int_str
def Ycx:=@SeqAt.EqAt.str_int
def Ycy:=@List.mem_filterMap
def Ycz:=@PySem.W.kitx_tuple
def YcA:=@PySem.W.callWith_K
def YcB:=@Heap.IsSliceOf.new
def YcC:=@F.slot_list_extend
def YcD:=@List.filter_append
def YcE:=@Nat.le_of_eq
def YcF:=@wpAny_assign_Name
def YcG:=@PySem.W.kitx_list
def YcH:=@PySem.W.kitx_dict
def YcI:=@slot_list_getitem
def YcJ:=@wpAny_pyIter_enum
def YcK:=@Array.size_append
def YcL:=@slot_list_setitem
def YcM:=@PyData.list.injEq
def YcN:=@Nat.le_succ
def YcO:=@callWith_kw
def YcP:=@wpAny_execs_cons
def YcQ:=@noFill_tuple_add
def YcR:=@F.entry_list_pop
def YcS:=@Nat.le_of_not_lt
def YcT:=@PySem.IsL.isList
def YcU:=@wpAny_forIn_list
def YcV:=@List.mem_reverse
def YcW:=@List.perm_middle
def YcX:=@wpAny_pyIter_zip
def YcY:=@wpAny_Name
def YcZ:=@Walks.list
def Yc0:=@IsTup.new
end
set_option Elab.async false
set_option compiler.extract_closed false
set_option bootstrap.genMatcherCode false
set_option linter.all false
set_option maxRecDepth 100000
namespace L2
open PySem PySem.Spec PyProof.Rows
noncomputable abbrev Key:=Sum Int Str
noncomputable def keyIs:Key->Value->Bool
 | .inl k,v=>Value.isInt k v
 | .inr x,v=>Value.isStrOf x v
noncomputable def keyH (w:World):Key->Int
 | .inl k=>hashInt k
 | .inr x=>hashStr w x
theorem keyIs_shape:∀ {k:Key} {v:Value},keyIs k v=true->(∃ i t,k=Sum.inl i/\v=Value.int i t)\/(∃ x t,k=Sum.inr x/\v=Value.str x t)
 | .inl i,v,h=>by
  obtain ⟨t,e⟩:=Value.isInt_shape (k:=i) (v:=v) h
  exact .inl ⟨i,t,rfl,e⟩
 | .inr x,v,h=>by
  obtain ⟨t,e⟩:=Value.isStrOf_shape (x:=x) (v:=v) h
  exact .inr ⟨x,t,rfl,e⟩
theorem key_ll (a b:Int):decide ((Sum.inl a:Key)=Sum.inl b)=(a == b):=by
 by_cases e:a=b
 ·subst e;simp
 ·have h:¬ (Sum.inl a:Key)=Sum.inl b:=fun q=>e (Sum.inl.inj q)
  rw [YZ h]
  exact (Yan.mpr e).symm
theorem key_rr (a b:Str):decide ((Sum.inr a:Key)=Sum.inr b)=decide (a=b):=by
 by_cases e:a=b
 ·subst e;simp
 ·have h:¬ (Sum.inr a:Key)=Sum.inr b:=fun q=>e (Sum.inr.inj q)
  rw [YZ h,YZ e]
theorem key_lr (a:Int) (b:Str):decide ((Sum.inl a:Key)=Sum.inr b)=false:=YZ (fun q=>nomatch q)
theorem key_rl (a:Str) (b:Int):decide ((Sum.inr a:Key)=Sum.inl b)=false:=YZ (fun q=>nomatch q)
noncomputable def Zfy (prog:Program) (w:World):PySem.KeyKind prog w Key where
 is:=keyIs
 hash:=keyH w
 inj := fun v a b ha hb=>by
  rcases keyIs_shape ha with ⟨i,t,rfl,rfl⟩ | ⟨x,t,rfl,rfl⟩
  ·rcases keyIs_shape hb with ⟨j,u,rfl,e⟩ | ⟨y,u,rfl,e⟩
   ·injection e with e1 _;rw [e1]
   ·exact nomatch e
  ·rcases keyIs_shape hb with ⟨j,u,rfl,e⟩ | ⟨y,u,rfl,e⟩
   ·exact nomatch e
   ·injection e with e1 _;rw [e1]
 byValue:=fun k v h=>by
  rcases keyIs_shape h with ⟨i,t,rfl,rfl⟩ | ⟨x,t,rfl,rfl⟩ <;> rfl
 pyHash:=fun hv h=>by
  rcases keyIs_shape hv with ⟨i,t,rfl,rfl⟩ | ⟨x,t,rfl,rfl⟩
  ·exact wpAny_pyHash_int h
  ·exact wpAny_pyHash_str h
 eqBool:=fun hu hv h=>by
  rcases keyIs_shape hu with ⟨i,t,rfl,rfl⟩ | ⟨x,t,rfl,rfl⟩
  ·rcases keyIs_shape hv with ⟨j,u,rfl,rfl⟩ | ⟨y,u,rfl,rfl⟩
   ·rw [key_ll] at h;exact wpAny_eqBool_int h
   ·rw [key_lr] at h;exact Ycw i t y u _ _ _ _ h
  ·rcases keyIs_shape hv with ⟨j,u,rfl,rfl⟩ | ⟨y,u,rfl,rfl⟩
   ·rw [key_rl] at h;exact Ycx x t j u _ _ _ _ h
   ·rw [key_rr] at h;exact wpAny_eqBool_str h
 «strs»:=fun k x t v h=>by
  rcases keyIs_shape h with ⟨i,u,rfl,e⟩ | ⟨y,u,rfl,e⟩
  ·exact nomatch e
  ·injection e with e1 _
   subst e1
   cases v <;> rfl
inductive V where
 | non | bl (b:Bool) | int (i:Int) | str (x:Str) | byt (b:Array UInt8) | flt (b:UInt64) | ref (a:Addr) | ty (n:String)
 deriving DecidableEq
noncomputable def RelV:V->Value->Prop
 | .non,u=>u=Value.none
 | .bl b,u=>u=Value.bool b
 | .int i,u=>∃ t,u=Value.int i t
 | .str x,u=>∃ t,u=Value.str x t
 | .byt b,u=>∃ t,u=Value.bytes b t
 | .flt b,u=>∃ t,u=Value.float b t
 | .ref a,u=>u=Value.ref a
 | .ty n,u=>u=Value.type n
noncomputable abbrev Vals:List V->List Value->Prop:=Paired RelV
theorem Vals.length {xs:List V} {us:List Value} (r:Vals xs us):xs.length=us.length:=Paired.length r
theorem Vals.get:∀ {xs:List V} {us:List Value} {i:Nat} {x:V},Vals xs us->xs[i]? = some x->∃ u,us[i]? = some u/\RelV x u
 | _,_,_,_,.nil,e=>by simp at e
 | _,_,0,_,.cons r _,e=>by simp at e;subst e;exact ⟨_,rfl,r⟩
 | _, _,i + 1,x,.cons _ t,e=>by
  obtain ⟨u,h1,h2⟩:=Vals.get (i:=i) (x:=x) t (by simpa using e)
  exact ⟨u,by simpa using h1,h2⟩
theorem Vals.set {x:V} {u:Value} (r:RelV x u):∀ {xs:List V} {us:List Value} (i:Nat),Vals xs us->Vals (xs.set i x) (us.set i u)
 | _,_,_,.nil=>.nil
 | _,_,0,.cons _ t=>.cons r t
 | _,_,i + 1,.cons q t=>.cons q (Vals.set r i t)
theorem Vals.append:∀ {xs ys:List V} {us ws:List Value},Vals xs us->Vals ys ws->Vals (xs++ys) (us++ws)
 | _,_,_,_,.nil,s=>s
 | _,_,_,_,.cons r t,s=>.cons r (Vals.append t s)
theorem Vals.take:∀ {xs:List V} {us:List Value} (n:Nat),Vals xs us->Vals (xs.take n) (us.take n)
 | _,_,0,_=>.nil
 | _,_,_ + 1,.nil=>.nil
 | _,_,n + 1,.cons r t=>.cons r (Vals.take n t)
theorem Vals.drop:∀ {xs:List V} {us:List Value} (n:Nat),Vals xs us->Vals (xs.drop n) (us.drop n)
 | _,_,0,r=>r
 | _,_,_ + 1,.nil=>.nil
 | _,_,n + 1,.cons _ t=>Vals.drop n t
theorem Vals.none_of:∀ {xs:List V} {us:List Value} {i:Nat},Vals xs us->xs[i]? = none->us[i]? = none:=fun {xs us i} r e=>by
 have h1:=r.length
 have h2:xs.length<=i:=Y7.mp e
 exact Y7.mpr (by lia)
noncomputable def RelO:Option V->Option Value->Prop
 | some v,some u=>RelV v u
 | none,none=>True
 | _,_=>False
noncomputable def KV {κ:Type}:List (κ × V)->List (κ × Value)->Prop:=Paired fun (p:κ × V) (q:κ × Value)=>p.1=q.1/\RelV p.2 q.2
noncomputable def kV:Key->V
 | .inl i=>.int i
 | .inr x=>.str x
inductive HO where
 /-- a list -/
 | lst (xs:List V)
 /-- a tuple (never changes) -/
 | tup (xs:List V)
 /-- a dict whose keys are ints and texts;one whose keys are tuples of ints and texts (the empty one is both) -/
 | dK (kvs:List (Key × V)) | dT (kvs:List (List Key × V))
 /-- a set of ints: its members,its size -/
 | set (S:Int->Bool) (n:Nat)
 /-- an instance of the class at C,its dict at dx,its attributes -/
 | ins (C dx:Addr) (fs:List (Str × V))
 /-- the dict of the instance at x -/
 | own (x:Addr)
 /-- the dict of an exception -/
 | xd (fs:List (Str × V))
 /-- a bound method,f of x -/
 | met (f x:Addr)
 /-- a range object lo,lo + 1,.. below hi -/
 | rng (lo hi:Int)
 /-- a thing that is known to the object (the script;a dict while a loop walks it): read,never written while it is so -/
 | frz (o:Obj) (u:HO)
 /-- a code object's table -/
 | tbl (ps:Array Value)
 /-- any other thing,by what is true of its one object (a def of one's own: SetO a S n:=HO.ext fun h=>..) -/
 | ext (φ:Heap->Prop)
noncomputable abbrev Hp:=Addr->Option HO
noncomputable def upd (H:Hp) (a:Addr) (o:HO):Hp:=fun b=>if b=a then some o else H b
theorem Zae {H:Hp} {a:Addr} {o:HO}:upd H a o a=some o:=by unfold upd;rw [if_pos rfl]
theorem Zy {H:Hp} {a b:Addr} {o:HO} (h:b≠a):upd H a o b=H b:=by unfold upd;rw [if_neg h]
theorem ZcL {H:Hp} {a b:Addr} {o u:HO} (h:H a=some o) (h':H b=some u) (d:o≠u):a≠b:=by
 intro e;subst e;rw [h] at h';exact d (Y0 h')
theorem Zay {H:Hp} {a b:Addr} {o:HO} (h:H a=some o) (h':H b=none):a≠b:=by
 intro e;subst e;rw [h] at h';cases h'
section
variable (P:Program) (w:World)
noncomputable def Zbo (H:Hp) (h:Heap) (a:Addr):HO->Prop
 | .lst xs=>xs.length<=sizeLine/\∃ (its:List Value) (n:Nat),Vals xs its/\h.get? a=some { cls:=.type "list",data:=.seq its.toArray n }
 | .tup xs=>xs.length<=sizeLine/\∃ its:List Value,Vals xs its/\IsTup h a its.toArray
 | .dK kvs=>kvs.length<=sizeLine/\(a == sysModules)=false/\∃ vs,KV kvs vs/\h.DictOf (Zfy P w) a vs
 | .dT kvs=>kvs.length<=sizeLine/\(a == sysModules)=false/\∃ xs:List (List Key × Addr × Value),
   Paired (fun (p:List Key × V) (q:List Key × Addr × Value)=>p.1=q.1/\H q.2.1=some (.tup (p.1.map kV))/\RelV p.2 q.2.2) kvs xs /\
   ∃ o es ep,h.get? a=some o/\o.ExactDict/\o.data=.dict es ep/\es.toList=xs.map (entryOfKey (tupleKind (Zfy P w)))/\(xs.map (·.1)).Nodup
 | .set S n=>h.SetOf (intKind P w) a S n
 | .ins C dx fs=>H dx=some (.own a)/\fs.length<=1000/\dx≠a/\h.get? a=some (PySem.W.instObj C dx) /\
   ∃ mA,h.Ns1 dx mA/\(∀ f,RelO (fs.lookup f) (mA f))/\PySem.Within mA (fs.map (·.1))
 | .own _=>∃ o,h.get? a=some o
 | .xd fs=>∃ mA,h.Ns1 a mA/\∀ f,RelO (fs.lookup f) (mA f)
 | .rng lo hi=>∃ t u v,h.get? a=some { cls:=.type "range",data:=.fields #[.int lo t,.int hi u,.int 1 v] }
 | .frz o u=>h.get? a=some o/\Zbo H h a u
 | .tbl ps=>h.get? a=some { cls:=.none,data:=.fields ps }
 | .met f x=>h.get? a=some (PySem.W.methodObj (.ref f) (.ref x))
 | .ext φ=>φ h/\(∃ o,h.get? a=some o)/\∀ h1 h2:Heap,φ h1->(∀ o,h1.get? a=some o->h2.get? a=some o)->φ h2
noncomputable def HOk (H:Hp) (h:Heap):Prop:=∀ a o,H a=some o->Zbo P w H h a o
end
section
variable {P:Program} {w:World} {H H':Hp} {h h':Heap} {a:Addr} {o:HO}
theorem Zbo.lt (x:Zbo P w H h a o):a < h.objs.size:=by
 cases o with
 | lst xs=>obtain ⟨_,_,_,_,e⟩:=x;exact Yo e
 | tup xs=>obtain ⟨_,_,_,p⟩:=x;exact p.lt
 | dK kvs=>obtain ⟨_,_,_,_,o,_,_,e,_⟩:=x;exact Yo e
 | dT kvs=>obtain ⟨_,_,_,_,o,_,_,e,_⟩:=x;exact Yo e
 | set S n=>obtain ⟨o,_,_,_,e,_⟩:=x;exact Yo e
 | ins C dx fs=>obtain ⟨_,_,_,e,_⟩:=x;exact Yo e
 | own y=>obtain ⟨_,e⟩:=x;exact Yo e
 | xd fs=>obtain ⟨_,⟨_,_,_,e,_⟩,_⟩:=x;exact Yo e
 | rng lo hi=>obtain ⟨_,_,_,e⟩:=x;exact Yo e
 | frz ob u=>obtain ⟨e,_⟩:=x;exact Yo e
 | tbl ps=>exact Yo (show h.get? a=some _ from x)
 | met f y=>exact Yo (show h.get? a=some _ from x)
 | ext φ=>obtain ⟨_,⟨_,e⟩,_⟩:=x;exact Yo e
theorem Paired.mapP {α β:Type} {F G:α->β->Prop}:∀ {l₁:List α} {l₂:List β},Paired F l₁ l₂->(∀ a b,F a b->G a b)->Paired G l₁ l₂
 | _,_,.nil,_=>.nil
 | _,_,.cons r t,f=>.cons (f _ _ r) (Paired.mapP t f)
theorem Zbo.stay (x:Zbo P w H h a o) (k:∀ b u,(b=a\/H b=some (.own a))->h.get? b=some u->h'.get? b=some u)
  (ho:∀ b,H b=some (.own a)->H' b=some (.own a)) (ht:∀ b xs,H b=some (.tup xs)->H' b=some (.tup xs)):Zbo P w H' h' a o:=by
 induction o with
 | lst xs=>obtain ⟨z,its,n,r,e⟩:=x;exact ⟨z,its,n,r,k _ _ (.inl rfl) e⟩
 | tup xs=>obtain ⟨z,its,r,ob,e,c⟩:=x;exact ⟨z,its,r,ob,k _ _ (.inl rfl) e,c⟩
 | dK kvs=>obtain ⟨z,y,vs,r,ob,es,ep,e,c⟩:=x;exact ⟨z,y,vs,r,ob,es,ep,k _ _ (.inl rfl) e,c⟩
 | dT kvs =>
  obtain ⟨z,y,xs,r,ob,es,ep,e,c⟩:=x
  exact ⟨z,y,xs,Paired.mapP r fun p q z=>⟨z.1,ht _ _ z.2.1,z.2.2⟩,ob,es,ep,k _ _ (.inl rfl) e,c⟩
 | set S n=>obtain ⟨ob,es,ep,t,e,c⟩:=x;exact ⟨ob,es,ep,t,k _ _ (.inl rfl) e,c⟩
 | ins C dx fs =>
  obtain ⟨d,z,ne,e,mA,⟨od,es,ep,e2,c⟩,r⟩:=x
  exact ⟨ho _ d,z,ne,k _ _ (.inl rfl) e,mA,⟨od,es,ep,k _ _ (.inr d) e2,c⟩,r⟩
 | own y=>obtain ⟨ob,e⟩:=x;exact ⟨ob,k _ _ (.inl rfl) e⟩
 | xd fs=>obtain ⟨mA,⟨od,es,ep,e,c⟩,r⟩:=x;exact ⟨mA,⟨od,es,ep,k _ _ (.inl rfl) e,c⟩,r⟩
 | rng lo hi=>obtain ⟨t,u,v,e⟩:=x;exact ⟨t,u,v,k _ _ (.inl rfl) e⟩
 | frz ob u ih=>obtain ⟨e,q⟩:=x;exact ⟨k _ _ (.inl rfl) e,ih q⟩
 | tbl ps =>
  have e:h.get? a=some { cls:=.none,data:=.fields ps }:=x
  show h'.get? a=some { cls:=.none,data:=.fields ps }
  exact k a _ (.inl rfl) e
 | met f y =>
  have e:h.get? a=some (PySem.W.methodObj (.ref f) (.ref y)):=x
  show h'.get? a=some (PySem.W.methodObj (.ref f) (.ref y))
  exact k a _ (.inl rfl) e
 | ext φ=>obtain ⟨p,⟨o,e⟩,st⟩:=x;exact ⟨st _ _ p fun o q=>k _ _ (.inl rfl) q,⟨o,k _ _ (.inl rfl) e⟩,st⟩
theorem HOk.lt (x:HOk P w H h) (e:H a=some o):a < h.objs.size:=(x a o e).lt
theorem HOk.fresh (x:HOk P w H h) (e:h.objs.size<=a):H a=none:=by
 cases q:H a with
 | none=>rfl
 | some u=>exact absurd (YL (x.lt q) e) (YaO _)
theorem HOk.kept (x:HOk P w H h) (k:∀ b u,h.get? b=some u->h'.get? b=some u):HOk P w H h':=fun a o e =>
 (x a o e).stay (fun b u _ q=>k b u q) (fun _ q=>q) fun _ _ q=>q
theorem HOk.laid (x:HOk P w H h) (k:∀ b u,h.get? b=some u->h'.get? b=some u) (hp:h.objs.size<=a) (new:Zbo P w (upd H a o) h' a o):HOk P w (upd H a o) h':=fun b u e=>by
 have hn:=x.fresh hp
 by_cases hb:b=a
 ·subst hb;rw [Zae] at e;cases e;exact new
 ·rw [Zy hb] at e
  exact (x b u e).stay (fun c v _ q=>k c v q) (fun c q=>by rw [Zy (Zay q hn)];exact q) fun c xs q=>by rw [Zy (Zay q hn)];exact q
end
noncomputable def Rd (H:Hp) (a:Addr) (u:HO):Prop:=H a=some u\/∃ o,H a=some (.frz o u)
theorem Rd.ok {P:Program} {w:World} {H:Hp} {h:Heap} {a:Addr} {u:HO} (r:Rd H a u) (x:HOk P w H h):Zbo P w H h a u:=by
 rcases r with r | ⟨o,r⟩
 ·exact x a u r
 ·obtain ⟨_,q⟩:=x a _ r
  exact q
noncomputable def Mut:Option HO->Prop
 | some (.lst _)=>True
 | some (.dK _)=>True
 | some (.dT _)=>True
 | some (.set _ _)=>True
 | some (.ins _ _ _)=>True
 | some (.ext _)=>True
 | _=>False
section
variable {P:Program} {w:World} {H:Hp} {h h':Heap} {x e:Addr} {o':HO}
theorem HOk.write (ok:HOk P w H h) (mu:Mut (H x)) (he:e=x\/H e=some (.own x)) (k:∀ b u,b≠e->h.get? b=some u->h'.get? b=some u) (heo:∃ u,h'.get? e=some u)
  (new:Zbo P w (upd H x o') h' x o'):HOk P w (upd H x o') h':=fun b u q=>by
 have nown:∀ c y,H c=some (.own y)->c≠x:=fun c y r z=>by subst z;rw [r] at mu;exact mu
 have ntup:∀ c xs,H c=some (.tup xs)->c≠x:=fun c xs r z=>by subst z;rw [r] at mu;exact mu
 by_cases hb:b=x
 ·subst hb;rw [Zae] at q;cases q;exact new
 ·rw [Zy hb] at q
  by_cases hbe:b=e
  ·have q':H b=some (.own x):=by
    rcases he with z | z
    ·exact absurd (hbe.trans z) hb
    ·rw [hbe];exact z
   rw [q] at q';cases q'
   obtain ⟨v,hv⟩:=heo
   exact ⟨v,by rw [hbe];exact hv⟩
  ·refine (ok b u q).stay (fun c v hc r=>k c v ?_ r) (fun c r=>by rw [Zy (nown c b r)];exact r) fun c xs r=>by rw [Zy (ntup c xs r)];exact r
   rcases hc with rfl | hc
   ·exact hbe
   ·rintro rfl
    rcases he with z | z
    ·exact nown c b hc z
    ·rw [hc] at z;cases z;exact hb rfl
end
structure Un (fs ex:List Addr) (H H':Hp) (h h':Heap):Prop where
 keep:∀ b o,h.get? b=some o->H b=none->b ∉ fs->b ∉ ex->h'.get? b=some o
 slot:∀ b o,h.get? b=some o->H b=none->b∈fs->b ∉ ex->∃ sl,h'.get? b=some { o with slots:=sl }
 free:∀ b o,h.get? b=some o->H b=none->b ∉ ex->H' b=none
 there:∀ b o,h.get? b=some o->b ∉ ex->∃ o',h'.get? b=some o'
 tups:∀ b xs,H b=some (.tup xs)->H' b=some (.tup xs)
 frzs:∀ b o u,H b=some (.frz o u)->H' b=some (.frz o u)
 tbls:∀ b ps,H b=some (.tbl ps)->∃ more,H' b=some (.tbl (ps++more))
section
variable {fs fs' ex ex':List Addr} {H H1 H2:Hp} {h h1 h2 h':Heap} {a x e:Addr} {o:HO}
theorem Un.any (u:Un fs ex H H1 h h1) {b:Addr} {ob:Obj} (q:h.get? b=some ob) (n:H b=none) (hx:b ∉ ex):∃ sl,h1.get? b=some { ob with slots:=sl }:=by
 by_cases hb:b∈fs
 ·exact u.slot b ob q n hb hx
 ·exact ⟨ob.slots,u.keep b ob q n hb hx⟩
theorem Un.kept (k:∀ b u,h.get? b=some u->h'.get? b=some u):Un fs ex H H h h' :=
 ⟨fun b ob q _ _ _=>k b ob q,fun b ob q _ _ _=>⟨ob.slots,k b ob q⟩,fun _ _ _ n _=>n,fun b ob q _=>⟨ob,k b ob q⟩,fun _ _ q=>q,fun _ _ _ q=>q,fun _ ps q=>⟨#[],by rw [q];simp⟩⟩
theorem Un.refl:Un fs ex H H h h:=Un.kept fun _ _ q=>q
theorem Un.laid (k:∀ b u,h.get? b=some u->h'.get? b=some u) (hp:h.objs.size<=a) (hn:H a=none):Un fs ex H (upd H a o) h h' where
 keep:=fun b u q _ _ _=>k b u q
 slot:=fun b u q _ _ _=>⟨u.slots,k b u q⟩
 free:=fun b u q n _=>by rw [Zy (YD (YL (Yo q) hp))];exact n
 there:=fun b u q _=>⟨u,k b u q⟩
 tups:=fun b xs q=>by rw [Zy (Zay q hn)];exact q
 frzs:=fun b u xs q=>by rw [Zy (Zay q hn)];exact q
 tbls:=fun b ps q=>⟨#[],by rw [Zy (Zay q hn),q];simp⟩
theorem Un.write (mu:Mut (H x)) (he:e=x\/H e=some (.own x)) (k:∀ b u,b≠e->h.get? b=some u->h'.get? b=some u) (heo:∃ u,h'.get? e=some u):Un fs ex H (upd H x o) h h':=by
 have hx:∀ b,H b=none->b≠x:=fun b n z=>by subst z;rw [n] at mu;exact mu
 have hb:∀ b,H b=none->b≠e:=fun b n z=>by
  subst z
  rcases he with r | r
  ·exact hx b n r
  ·rw [n] at r;cases r
 have hm:∀ b u,H b=some u->¬ Mut (some u)->b≠x:=fun b u q nm z=>by subst z;rw [q] at mu;exact nm mu
 refine ⟨fun b u q n _ _=>k b u (hb b n) q,fun b u q n _ _=>⟨u.slots,k b u (hb b n) q⟩,fun b u q n _=>by rw [Zy (hx b n)];exact n,fun b u q _=>?_,
  fun b xs q=>by rw [Zy (hm b _ q fun z=>z)];exact q,fun b u xs q=>by rw [Zy (hm b _ q fun z=>z)];exact q,fun b ps q=>⟨#[],by rw [Zy (hm b _ q fun z=>z),q];simp⟩⟩
 by_cases hbe:b=e
 ·subst hbe;exact heo
 ·exact ⟨u,k b u hbe q⟩
end
noncomputable def trk (h:Heap) (H:Hp):List Addr:=(List.range h.objs.size).filter fun a=>(H a).isSome
noncomputable def hidT (h:Heap) (H:Hp):Heap:=PySem.W.hideAll h (trk h H)
theorem Ziy (h:Heap) (H:Hp):(hidT h H).objs.size=h.objs.size:=PySem.W.hideAll_size _ _
theorem hidT_get {h:Heap} {H:Hp} {b:Addr} {o:Obj} (e:h.get? b=some o) (n:H b=none):(hidT h H).get? b=some o :=
 PySem.W.hideAll_get _ e fun hm=>by
  have q:(H b).isSome=true:=(List.mem_filter.mp hm).2
  rw [n] at q;simp at q
theorem of_hidT {h:Heap} {H:Hp} {b:Addr} {o:Obj} (e:(hidT h H).get? b=some o):h.get? b=some o/\H b=none:=by
 have e':h.get? b=some o:=PySem.W.of_hideAll (trk h H) e
 refine ⟨e',?_⟩
 cases q:H b with
 | none=>rfl
 | some x =>
  have hm:b∈trk h H:=List.mem_filter.mpr ⟨Yad.mpr (Yo e'),by simp [q]⟩
  have z:(hidT h H).get? b=none:=PySem.W.hideAll_none (trk h H) hm
  rw [z] at e;cases e
noncomputable def allNews (g h:Heap) (L:Addr):List (Addr × Obj):=(List.range h.objs.size).filterMap fun a=>if a=L\/(g.get? a).isSome=true then none else (h.get? a).map fun o=>(a,o)
noncomputable def rest (g h:Heap) (L d:Addr):List (Addr × Obj):=(allNews g h L).filter fun p=>decide (p.1≠d)
structure Mod (K:YFr) (mg:Str->Option Value) (base:Heap):Prop where
 kin:K.In base
 glob:base.Ns mainGlobals mg
 blt:∃ mb,base.Ns builtinsNs mb/\∀ x:Str,x≠"__name__"->mb x=bootBuiltins x
 nolimit:base.NoLimit
structure Cx where
 prog:Program
 w : World
 K : YFr
 mg:Str->Option Value
 base:Heap
 A : Around
 N : List Str
 s₀:Shared
 H₀:Hp
 env:Env
 outer:List Env
 stack:List Env
 ex:List Addr
 fn:Str->Bool
 calm:Bool
 pn:List (Addr × Obj)
 xe:Value->Shared->Prop
noncomputable def frs (l:List Env):List Addr:=l.filterMap (·.frame)
noncomputable abbrev Cx.fs (X:Cx):List Addr:=frs X.outer
noncomputable def Vis (sc:Scope) (x:Str):Prop:=sc.names.lookup x=some .local\/sc.names.lookup x=some .cell\/sc.names.lookup x=some .free
noncomputable def Loc (sc:Scope) (x:Str):Prop:=sc.names.lookup x=some .local\/sc.names.lookup x=some .cell
noncomputable def Look (env:Env) (h:Heap) (m:Str->Option Value) (x:Str) (u:Value):Prop :=
 (env.kindOf x=some .local/\m x=some u)\/((env.kindOf x=some .cell\/env.kindOf x=some .free)/\∃ c,env.cells.lookup x=some c/\h.IsCell c (some u))
structure Cx.Ok (X:Cx):Prop where
 mod:Mod X.K X.mg X.base
 kind:X.env.scope.kind=.function
 glob:X.env.globals=mainGlobals
 blt:X.env.builtins=builtinsNs
 above:X.s₀.heap.objs.size<=X.env.locals
 inj:∀ x y c,X.env.cells.lookup x=some c->X.env.cells.lookup y=some c->x=y
 has:∀ x,(X.env.kindOf x=some .cell\/X.env.kindOf x=some .free)->∃ c,X.env.cells.lookup x=some c
 cab:∀ x c,X.fn x=true->X.env.cells.lookup x=some c->X.s₀.heap.objs.size<=c
 hd:X.calm=true->X.A.handled=none
 frames:X.A.frames=some X.stack
 stk:X.stack=X.outer\/(X.stack=X.env::X.outer/\X.env.frame=some X.env.locals)
 exf:∀ b∈X.ex,b≠X.env.locals/\∀ x c,X.env.cells.lookup x=some c->c≠b
 bs:∀ b o,X.base.get? b=some o->X.s₀.heap.get? b=some o/\X.H₀ b=none
 bsz:X.base.objs.size<=X.s₀.heap.objs.size
 noex:∀ b o,X.base.get? b=some o->b ∉ X.ex
 exfs:∀ b∈X.ex,b ∉ X.fs
 funs:X.s₀.heap.FunFrames X.base X.outer
 frf:∀ b∈X.fs,X.H₀ b=none
structure Inv (X:Cx) (pins:List (Addr × Obj)) (σ:List (Option V)) (H:Hp) (s:Shared):Prop where
 ok:X.Ok
 os:s.os=X.s₀.os
 bare:AllBare s.gens
 base:Un X.fs X.ex X.H₀ H X.s₀.heap s.heap
 loc:∃ m,s.heap.Ns X.env.locals m/\∀ (i:Nat) (x:Str) (v:V),X.N[i]? = some x->σ[i]? = some (some v)->Vis X.env.scope x->∃ u,RelV v u/\Look X.env s.heap m x u
 cell:∀ x c,X.env.cells.lookup x=some c->∃ v,s.heap.IsCell c v
 free:H X.env.locals=none
 freeC:∀ x c,X.env.cells.lookup x=some c->H c=none
 pin:∀ p∈X.pn++pins,s.heap.get? p.1=some p.2/\H p.1=none/\p.1≠X.env.locals/\p.1 ∉ X.fs/\∀ v,p.2.data≠.cell v
 hok:HOk X.prog X.w H s.heap
 len:σ.length=X.N.length
section
variable {X:Cx} {pins:List (Addr × Obj)} {σ:List (Option V)} {H H':Hp} {s:Shared} {h':Heap}
theorem Cx.Ok.nofr (ok:X.Ok) {b:Addr} {o:Obj} (e:X.base.get? b=some o):b ∉ X.fs:=fun hb=>by
 have:=(ok.funs.mem hb).1
 rw [e] at this;cases this
theorem Inv.bs (I:Inv X pins σ H s):∀ b o,X.base.get? b=some o->s.heap.get? b=some o/\H b=none:=fun b o e =>
 ⟨I.base.keep b o (I.ok.bs b o e).1 (I.ok.bs b o e).2 (I.ok.nofr e) (I.ok.noex b o e),I.base.free b o (I.ok.bs b o e).1 (I.ok.bs b o e).2 (I.ok.noex b o e)⟩
theorem Inv.bk (I:Inv X pins σ H s):∀ b o,X.base.get? b=some o->s.heap.get? b=some o:=fun b o e=>(I.bs b o e).1
theorem Inv.mod (I:Inv X pins σ H s):Mod X.K X.mg X.base:=I.ok.mod
theorem Inv.kIn (I:Inv X pins σ H s):X.K.In s.heap:=I.ok.mod.kin.keeps I.bk
theorem Inv.lt (I:Inv X pins σ H s):X.env.locals < s.heap.objs.size:=let ⟨_,hn,_⟩:=I.loc;hn.lt
theorem Inv.sz (I:Inv X pins σ H s):X.s₀.heap.objs.size<=s.heap.objs.size:=YE I.ok.above (YbN I.lt)
theorem Inv.nofs (I:Inv X pins σ H s) {a:Addr} (h:s.heap.objs.size<=a):a ∉ X.fs:=fun hb=>by
 obtain ⟨_,o,ho,_⟩:=I.ok.funs.mem hb
 exact absurd (YL (Yo ho) (YE I.sz h)) (YaO _)
theorem Inv.cne (I:Inv X pins σ H s):∀ x c,X.env.cells.lookup x=some c->c≠X.env.locals:=fun x c e z=>by
 obtain ⟨v,o,ho,hd⟩:=I.cell x c e
 obtain ⟨m,⟨o',es,ep,ho',hd',_⟩,_⟩:=I.loc
 rw [z,ho'] at ho;cases ho;rw [hd'] at hd;cases hd
theorem Inv.funs (I:Inv X pins σ H s):s.heap.FunFrames X.base X.outer:=by
 have all:∀ (l:List Env),(∀ b∈frs l,b∈X.fs)->X.s₀.heap.FunFrames X.base l->s.heap.FunFrames X.base l:=by
  intro l
  induction l with
  | nil=>intro _ _;trivial
  | cons env r ih =>
   intro hs hl
   obtain ⟨hk,⟨L,o,hf,hn,ho,hd⟩,hr⟩:=hl
   have hL:L∈X.fs:=hs L (by unfold frs;rw [List.filterMap_cons,hf];exact YG)
   obtain ⟨sl,e⟩:=I.base.slot L o ho (I.ok.frf L hL) hL fun z=>I.ok.exfs L z hL
   exact ⟨hk,⟨L,_,hf,hn,e,hd⟩,ih (fun b hb=>hs b (by unfold frs;rw [List.filterMap_cons,hf];exact YF _ hb)) hr⟩
 exact all X.outer (fun _ hb=>hb) I.ok.funs
theorem Inv.stack (I:Inv X pins σ H s):s.heap.FunFrames X.base X.stack:=by
 rcases I.ok.stk with e | ⟨e,hf⟩
 ·rw [e];exact I.funs
 ·rw [e]
  obtain ⟨m,hn,_⟩:=I.loc
  refine .cons (by rw [I.ok.kind];decide) hf hn ?_ I.funs
  exact Heap.get?_none_of_le (YE I.ok.bsz I.ok.above)
theorem Inv.stkSub (I:Inv X pins σ H s):∀ b∈frs X.stack,b∈X.env.locals::X.fs:=fun b hb=>by
 rcases I.ok.stk with e | ⟨e,hf⟩
 ·rw [e] at hb;exact YF _ hb
 ·rw [e] at hb
  unfold frs at hb
  rw [List.filterMap_cons,hf] at hb
  exact hb
theorem Inv.stkFree (I:Inv X pins σ H s):∀ b∈frs X.stack,H b=none:=fun b hb=>by
 rcases Yt.mp (I.stkSub b hb) with e | hb
 ·rw [e];exact I.free
 ·obtain ⟨_,o,ho,_⟩:=I.ok.funs.mem hb
  exact I.base.free b o ho (I.ok.frf b hb) fun z=>I.ok.exfs b z hb
theorem Inv.step {g':Array GenState} {t':Nat} {d':Drawn} {ch:List Addr} (I:Inv X pins σ H s)
  (hch:∀ b∈ch,(b∈X.ex\/X.s₀.heap.objs.size<=b)/\b≠X.env.locals/\(∀ x c,X.env.cells.lookup x=some c->c≠b)/\∀ p∈X.pn++pins,p.1≠b)
  (keep:∀ b o,b≠X.env.locals->b ∉ X.fs->b ∉ ch->s.heap.get? b=some o->H b=none->h'.get? b=some o)
  (slot:∀ b o,b≠X.env.locals->b∈X.fs->b ∉ ch->s.heap.get? b=some o->H b=none->∃ sl,h'.get? b=some { o with slots:=sl }) (free:∀ b o,b ∉ ch->s.heap.get? b=some o->H b=none->H' b=none)
  (there:∀ b o,b ∉ ch->s.heap.get? b=some o->∃ o',h'.get? b=some o')
  (tups:∀ b xs,H b=some (.tup xs)->H' b=some (.tup xs)) (frzs:∀ b o u,H b=some (.frz o u)->H' b=some (.frz o u)) (tbls:∀ b ps,H b=some (.tbl ps)->∃ more,H' b=some (.tbl (ps++more)))
  (ns:∀ m,s.heap.Ns X.env.locals m->h'.Ns X.env.locals m) (hok:HOk X.prog X.w H' h') (hg:AllBare g') :
  Inv X pins σ H' { s with heap:=h',gens:=g',drawn:=d',toks:=t' }:=by
 have neL:∀ b o,X.s₀.heap.get? b=some o->b≠X.env.locals:=fun b o e=>YD (YL (Yo e) I.ok.above)
 have neC:∀ b o,X.s₀.heap.get? b=some o->b ∉ X.ex->b ∉ ch:=fun b o e hx hb=>by
  rcases (hch b hb).1 with z | z
  ·exact hx z
  ·exact absurd (YL (Yo e) z) (YaO _)
 have cellK:∀ x c,X.env.cells.lookup x=some c->∀ v,s.heap.IsCell c v->h'.IsCell c v:=fun x c e v hq0=>by
  obtain ⟨o,ho,hd⟩:=hq0
  have nch:c ∉ ch:=fun z=>(hch c z).2.2.1 x c e rfl
  by_cases hc:c∈X.fs
  ·obtain ⟨sl,q⟩:=slot c o (I.cne x c e) hc nch ho (I.freeC x c e)
   exact ⟨_,q,hd⟩
  ·exact ⟨o,keep c o (I.cne x c e) hc nch ho (I.freeC x c e),hd⟩
 refine ⟨I.ok,I.os,hg,⟨fun b o e n hb hx=>?_,fun b o e n hb hx=>?_,fun b o e n hx=>?_,fun b o e hx=>?_,fun b xs e=>tups b xs (I.base.tups b xs e),fun b o xs e=>frzs b o xs (I.base.frzs b o xs e),fun b ps e=>?_⟩,?_,fun x c e=>?_,?_,fun x c e=>?_,fun p hp=>?_,hok,I.len⟩
 ·exact keep b o (neL b o e) hb (neC b o e hx) (I.base.keep b o e n hb hx) (I.base.free b o e n hx)
 ·obtain ⟨sl,e1⟩:=I.base.slot b o e n hb hx
  obtain ⟨sl',e2⟩:=slot b _ (neL b o e) hb (neC b o e hx) e1 (I.base.free b o e n hx)
  exact ⟨sl',e2⟩
 ·obtain ⟨o',e1⟩:=I.base.there b o e hx
  exact free b o' (neC b o e hx) e1 (I.base.free b o e n hx)
 ·obtain ⟨o',e1⟩:=I.base.there b o e hx
  exact there b o' (neC b o e hx) e1
 ·obtain ⟨m1,e1⟩:=I.base.tbls b ps e
  obtain ⟨m2,e2⟩:=tbls b _ e1
  exact ⟨m1++m2,by rw [e2,Array.append_assoc]⟩
 ·obtain ⟨m,hn,hl⟩:=I.loc
  refine ⟨m,ns m hn,fun i x v e1 e2 e3=>?_⟩
  obtain ⟨u,r,l⟩:=hl i x v e1 e2 e3
  refine ⟨u,r,?_⟩
  rcases l with l | ⟨k,c,e,z⟩
  ·exact .inl l
  ·exact .inr ⟨k,c,e,cellK x c e _ z⟩
 ·obtain ⟨v,z⟩:=I.cell x c e
  exact ⟨v,cellK x c e v z⟩
 ·obtain ⟨m,⟨o,_,_,ho,_⟩,_⟩:=I.loc
  exact free _ o (fun z=>(hch _ z).2.1 rfl) ho I.free
 ·obtain ⟨v,o,ho,hd⟩:=I.cell x c e
  exact free c o (fun z=>(hch c z).2.2.1 x c e rfl) ho (I.freeC x c e)
 ·obtain ⟨e,n,ne,nf,d⟩:=I.pin p hp
  have nch:p.1 ∉ ch:=fun z=>(hch p.1 z).2.2.2 p hp rfl
  exact ⟨keep p.1 p.2 ne nf nch e n,free p.1 p.2 nch e n,ne,nf,d⟩
theorem Inv.un {t':Nat} (I:Inv X pins σ H s) (u:Un X.fs [] H H' s.heap h') (hok:HOk X.prog X.w H' h'):Inv X pins σ H' { s with heap:=h',toks:=t' }:=by
 obtain ⟨m,⟨o,es,ep,ho,r⟩,_⟩:=id I.loc
 obtain ⟨sl,hL⟩:=u.any ho I.free (by simp)
 exact I.step (g':=s.gens) (d':=s.drawn) (ch:=[]) (fun _ z=>nomatch z) (fun b o _ hb _ e n=>u.keep b o e n hb (by simp)) (fun b o _ hb _ e n=>u.slot b o e n hb (by simp)) (fun b o _ e n=>u.free b o e n (by simp)) (fun b o _ e=>u.there b o e (by simp)) u.tups u.frzs u.tbls (fun m' hm=>by
  obtain ⟨o',es',ep',ho',r'⟩:=hm
  rw [ho] at ho';cases ho'
  exact ⟨_,es',ep',hL,r'⟩) hok I.bare
theorem Inv.call {g':Array GenState} {t':Nat} {d':Drawn} {ch:List Addr} (I:Inv X pins σ H s) (u:Un (frs X.stack) ch H H' s.heap h') (hok:HOk X.prog X.w H' h') (hg:AllBare g')
  (hch:∀ b∈ch,(b∈X.ex\/X.s₀.heap.objs.size<=b)/\b≠X.env.locals/\(∀ x c,X.env.cells.lookup x=some c->c≠b)/\∀ p∈X.pn++pins,p.1≠b) :
  Inv X pins σ H' { s with heap:=h',gens:=g',drawn:=d',toks:=t' }:=by
 obtain ⟨m,⟨o,es,ep,ho,r⟩,_⟩:=id I.loc
 obtain ⟨sl,hL⟩:=u.any ho I.free fun z=>(hch _ z).2.1 rfl
 exact I.step (ch:=ch) hch (fun b o hL hb hc e n=>u.keep b o e n (fun z=>(Yt.mp (I.stkSub b z)).elim hL hb) hc) (fun b o _ _ hc e n=>u.any e n hc) (fun b o hc e n=>u.free b o e n hc) (fun b o hc e=>u.there b o e hc) u.tups u.frzs u.tbls (fun m' hm=>by
  obtain ⟨o',es',ep',ho',r'⟩:=hm
  rw [ho] at ho';cases ho'
  exact ⟨_,es',ep',hL,r'⟩) hok hg
theorem Inv.turned {t':Nat} {it:Addr} (I:Inv X pins σ H s) (k:∀ b o,b≠it->s.heap.get? b=some o->h'.get? b=some o) (hn:H it=none) (hL:it≠X.env.locals)
  (h1:it∈X.ex\/X.s₀.heap.objs.size<=it) (h2:∀ x c,X.env.cells.lookup x=some c->c≠it) (h3:∀ p∈X.pn++pins,p.1≠it):Inv X pins σ H { s with heap:=h',toks:=t' }:=by
 have nit:∀ b u,H b=some u->b≠it:=fun b u e z=>by rw [z,hn] at e;cases e
 refine I.step (g':=s.gens) (d':=s.drawn) (ch:=[it]) (fun b hb=>?_) (fun b o _ _ hc e _=>k b o (fun z=>hc (by simp [z])) e) (fun b o _ _ hc e _=>⟨o.slots,k b o (fun z=>hc (by simp [z])) e⟩) (fun _ _ _ _ n=>n)
  (fun b o hc e=>⟨o,k b o (fun z=>hc (by simp [z])) e⟩) (fun _ _ e=>e) (fun _ _ _ e=>e) (fun b ps e=>⟨#[],by rw [e];simp⟩) (fun m hm=>?_) (fun b u e=>?_) I.bare
 ·have e:b=it:=by simpa using hb
  subst e
  exact ⟨h1,hL,h2,h3⟩
 ·obtain ⟨o,es,ep,ho,r⟩:=hm
  exact ⟨o,es,ep,k _ o (Ne.symm hL) ho,r⟩
 ·refine (I.hok b u e).stay (fun c v hc q=>k c v ?_ q) (fun _ q=>q) fun _ _ q=>q
  rcases hc with z | z
  ·rw [z];exact nit b u e
  ·exact nit c _ z
theorem Inv.tok (I:Inv X pins σ H s) (t:Nat):Inv X pins σ H { s with toks:=t }:=I.un (h':=s.heap) (t':=t) Un.refl I.hok
theorem Inv.kept {t':Nat} (I:Inv X pins σ H s) (k:∀ b u,s.heap.get? b=some u->h'.get? b=some u):Inv X pins σ H { s with heap:=h',toks:=t' }:=I.un (Un.kept k) (I.hok.kept k)
theorem Inv.laid {a:Addr} {o:HO} {t':Nat} (I:Inv X pins σ H s) (k:∀ b u,s.heap.get? b=some u->h'.get? b=some u) (hp:s.heap.objs.size<=a) (new:Zbo X.prog X.w (upd H a o) h' a o) :
  Inv X pins σ (upd H a o) { s with heap:=h',toks:=t' }:=I.un (Un.laid k hp (I.hok.fresh hp)) (I.hok.laid k hp new)
theorem Inv.write {x e:Addr} {o:HO} {t':Nat} (I:Inv X pins σ H s) (mu:Mut (H x)) (he:e=x\/H e=some (.own x)) (k:∀ b u,b≠e->s.heap.get? b=some u->h'.get? b=some u) (heo:∃ u,h'.get? e=some u)
  (new:Zbo X.prog X.w (upd H x o) h' x o):Inv X pins σ (upd H x o) { s with heap:=h',toks:=t' }:=I.un (Un.write mu he k heo) (I.hok.write mu he k heo new)
theorem Inv.pins_of {pins':List (Addr × Obj)} (I:Inv X pins σ H s) (h:∀ p∈pins',s.heap.get? p.1=some p.2/\H p.1=none/\p.1≠X.env.locals/\p.1 ∉ X.fs/\∀ v,p.2.data≠.cell v):Inv X pins' σ H s :=
 ⟨I.ok,I.os,I.bare,I.base,I.loc,I.cell,I.free,I.freeC,fun p hp=>(YK.mp hp).elim (fun z=>I.pin p (Yau _ z)) (h p),I.hok,I.len⟩
theorem Zgl {N:List Str} (hN:N.Nodup) {i j:Nat} {x:Str} (a:N[i]? = some x) (b:N[j]? = some x):i=j:=by
 obtain ⟨h1,e1⟩:=Yp.mp a
 obtain ⟨h2,e2⟩:=Yp.mp b
 exact (List.getElem_inj hN).mp (e1.trans e2.symm)
theorem Zfa {M:Model} {A:Around} {E:Value->Shared->Prop} {i:Nat} {x:Str} {v:V} {u:Value} {Q:Unit->Shared->Prop} (I:Inv X pins σ H s) (hN:X.N.Nodup) (hi:X.N[i]? = some x) (hx:Loc X.env.scope x) (r:RelV v u)
  (h:∀ s',Inv X pins (σ.set i (some v)) H s'->(∃ a,Heap.SameBut a s.heap s'.heap/\(a=X.env.locals\/X.env.cells.lookup x=some a))->Q () s') (hf:X.fn x=true\/X.env.scope.names.lookup x=some .local:=by first | exact .inl rfl | exact .inr rfl | assumption):wpAny M A (storeName X.env x u) Q E s:=by
 obtain ⟨m,hn,hl⟩:=id I.loc
 have hcls:(X.env.scope.kind == .class || (X.env.scope.kind == .module && X.env.locals != X.env.globals))=false:=by rw [I.ok.kind];rfl
 have hiσ:i < σ.length:=by rw [I.len];exact (Yp.mp hi).1
 have cne:=I.cne
 have tracked:∀ {a:Addr} {h':Heap},(∃ o,s.heap.get? a=some o/\H a=none)->Heap.SameBut a s.heap h'->HOk X.prog X.w H h':=fun {a h'} ha hs b ob e=>by
  obtain ⟨_,_,hfree⟩:=ha
  refine (I.hok b ob e).stay (fun c w' hc q=>(hs.2 c ?_).trans q) (fun _ q=>q) fun _ _ q=>q
  rintro rfl
  rcases hc with rfl | hc
  ·rw [hfree] at e;cases e
  ·rw [hfree] at hc;cases hc
 rcases hx with hk | hk
 ·refine wpAny_storeName_local hk hn (fun h' hn' hs=>?_) hcls
  obtain ⟨oL,_,_,hoL,_⟩:=id hn
  refine h _ ⟨I.ok,I.os,I.bare,⟨fun b o e n hb hx=>?_,fun b o e n hb hx=>?_,I.base.free,fun b o e hx=>?_,I.base.tups,I.base.frzs,I.base.tbls⟩,⟨_,hn',fun j y v' e1 e2 e3=>?_⟩,fun y c e=>?_,I.free,I.freeC,fun p hp=>?_,tracked ⟨oL,hoL,I.free⟩ hs,by simpa using I.len⟩ ⟨_,hs,.inl rfl⟩
  ·exact (hs.2 b (YD (YL (Yo e) I.ok.above))).trans (I.base.keep b o e n hb hx)
  ·obtain ⟨sl,e1⟩:=I.base.slot b o e n hb hx
   exact ⟨sl,(hs.2 b (YD (YL (Yo e) I.ok.above))).trans e1⟩
  ·obtain ⟨o',e1⟩:=I.base.there b o e hx
   exact ⟨o',(hs.2 b (YD (YL (Yo e) I.ok.above))).trans e1⟩
  ·by_cases hj:j=i
   ·subst hj
    rw [hi] at e1;cases e1
    rw [Yb8 hiσ] at e2
    cases e2
    exact ⟨u,r,.inl ⟨hk,by simp⟩⟩
   ·rw [Ych (Ne.symm hj)] at e2
    obtain ⟨u',r',q⟩:=hl j y v' e1 e2 e3
    refine ⟨u',r',?_⟩
    rcases q with ⟨k,e⟩ | ⟨k,c,e,z⟩
    ·refine .inl ⟨k,?_⟩
     have:y≠x:=fun e=>hj (Zgl hN e1 (e ▸ hi))
     simp [this,e]
    ·exact .inr ⟨k,c,e,z.sameBut hs (cne y c e)⟩
  ·obtain ⟨w',z⟩:=I.cell y c e
   exact ⟨w',z.sameBut hs (cne y c e)⟩
  ·obtain ⟨e,n,ne,nf,d⟩:=I.pin p hp
   exact ⟨(hs.2 p.1 ne).trans e,n,ne,nf,d⟩
 ·have hfn:X.fn x=true:=by
   rcases hf with z | z
   ·exact z
   ·rw [z] at hk;cases hk
  obtain ⟨c,hc⟩:=I.ok.has x (.inl hk)
  obtain ⟨w',z⟩:=I.cell x c hc
  refine wpAny_storeName_cell I.ok.kind hk hc z (fun h' hc' hs=>?_)
  obtain ⟨oc,hoc,hocd⟩:=id z
  refine h { s with heap:=h' } ⟨I.ok,I.os,I.bare,⟨fun b o e n hb hx=>?_,fun b o e n hb hx=>?_,I.base.free,fun b o e hx=>?_,I.base.tups,I.base.frzs,I.base.tbls⟩,⟨m,hn.sameBut hs (Ne.symm (cne x c hc)),fun j y v' e1 e2 e3=>?_⟩,fun y c' e=>?_,I.free,I.freeC,fun p hp=>?_,tracked ⟨oc,hoc,I.freeC x c hc⟩ hs,by simpa using I.len⟩ ⟨c,hs,.inr hc⟩
  ·exact (hs.2 b (YD (YL (Yo e) (I.ok.cab x c hfn hc)))).trans (I.base.keep b o e n hb hx)
  ·obtain ⟨sl,e1⟩:=I.base.slot b o e n hb hx
   exact ⟨sl,(hs.2 b (YD (YL (Yo e) (I.ok.cab x c hfn hc)))).trans e1⟩
  ·obtain ⟨o',e1⟩:=I.base.there b o e hx
   exact ⟨o',(hs.2 b (YD (YL (Yo e) (I.ok.cab x c hfn hc)))).trans e1⟩
  ·by_cases hj:j=i
   ·subst hj
    rw [hi] at e1;cases e1
    rw [Yb8 hiσ] at e2
    cases e2
    exact ⟨u,r,.inr ⟨.inl hk,c,hc,hc'⟩⟩
   ·rw [Ych (Ne.symm hj)] at e2
    obtain ⟨u',r',q⟩:=hl j y v' e1 e2 e3
    refine ⟨u',r',?_⟩
    rcases q with q | ⟨k,c',e,z'⟩
    ·exact .inl q
    ·refine .inr ⟨k,c',e,z'.sameBut hs ?_⟩
     rintro rfl
     exact hj (Zgl hN e1 (I.ok.inj _ _ _ e hc ▸ hi))
  ·by_cases hcc:c'=c
   ·subst hcc;exact ⟨_,hc'⟩
   ·obtain ⟨w2,z2⟩:=I.cell y c' e
    exact ⟨w2,z2.sameBut hs hcc⟩
  ·obtain ⟨e,n,ne,nf,d⟩:=I.pin p hp
   refine ⟨(hs.2 p.1 ?_).trans e,n,ne,nf,d⟩
   intro q
   rw [q,hoc] at e
   have q':oc=p.2:=Y0 e
   exact d w' (by rw [<- q'];exact hocd)
theorem Zev {M:Model} {A:Around} {E:Value->Shared->Prop} {i:Nat} {x:Str} {v:V} {u:Value} {Q:Unit->Shared->Prop} (I:Inv X pins σ H s) (hN:X.N.Nodup) (hi:X.N[i]? = some x) (hx:Loc X.env.scope x) (r:RelV v u)
  (h:∀ s',Inv X pins (σ.set i (some v)) H s'->Q () s') (hf:X.fn x=true\/X.env.scope.names.lookup x=some .local:=by first | exact .inl rfl | exact .inr rfl | assumption):wpAny M A (storeName X.env x u) Q E s :=
 Zfa I hN hi hx r (fun s' I' _=>h s' I') hf
theorem Inv.call' {s':Shared} {ch:List Addr} (I:Inv X pins σ H s) (ho:s'.os=s.os) (u:Un (frs X.stack) ch H H' s.heap s'.heap) (hok:HOk X.prog X.w H' s'.heap) (hg:AllBare s'.gens)
  (hch:∀ b∈ch,(b∈X.ex\/X.s₀.heap.objs.size<=b)/\b≠X.env.locals/\(∀ x c,X.env.cells.lookup x=some c->c≠b)/\∀ p∈X.pn++pins,p.1≠b):Inv X pins σ H' s':=by
 obtain ⟨h',g',d',t',o'⟩:=s'
 have e:o'=s.os:=ho
 subst e
 exact I.call (g':=g') (t':=t') (d':=d') u hok hg hch
end
noncomputable abbrev XK:=Value->Option Addr->Hp->Prop
noncomputable abbrev St:=List (Option V)
noncomputable abbrev VK:=V->Hp->Prop
noncomputable abbrev TE:=St->Hp->VK->Prop
noncomputable abbrev TT:=St->Hp->(Bool->Hp->Prop)->Prop
noncomputable abbrev TA:=St->Hp->(List V->Hp->Prop)->Prop
structure Ends where
 nx:St->Hp->Prop
 rt:VK
 bk:St->Hp->Prop:=fun _ _=>False
 ct:St->Hp->Prop:=fun _ _=>False
noncomputable abbrev TS:=Ends->St->Hp->Prop
noncomputable def EP (X:Cx) (pins:List (Addr × Obj)) (σ:St) (Q:VK) (u:Value) (s':Shared):Prop:=∃ v H',Inv X pins σ H' s'/\RelV v u/\Q v H'
noncomputable def TP (X:Cx) (pins:List (Addr × Obj)) (σ:St) (Q:Bool->Hp->Prop) (b:Bool) (s':Shared):Prop:=∃ H',Inv X pins σ H' s'/\Q b H'
noncomputable def AP (X:Cx) (pins:List (Addr × Obj)) (σ:St) (Q:List V->Hp->Prop) (us:List Value) (s':Shared):Prop:=∃ vs H',Inv X pins σ H' s'/\Vals vs us/\Q vs H'
noncomputable def SP (X:Cx) (pins:List (Addr × Obj)) (D:Ends) (f:Flow) (s':Shared):Prop :=
 match f with
 | .next=>∃ σ' H',Inv X pins σ' H' s'/\D.nx σ' H'
 | .brk=>∃ σ' H',Inv X pins σ' H' s'/\D.bk σ' H'
 | .cont=>∃ σ' H',Inv X pins σ' H' s'/\D.ct σ' H'
 | .ret u=>∃ v σ' H',Inv X pins σ' H' s'/\RelV v u/\D.rt v H'
noncomputable def PE (X:Cx) (e:Expr) (t:TE):Prop :=
 ∀ (pins:List (Addr × Obj)) (s:Shared) (σ:St) (H:Hp) (Q:VK),Inv X pins σ H s->t σ H Q->wpAny (model X.prog X.w) X.A (eval e X.env) (EP X pins σ Q) X.xe s
noncomputable def PT (X:Cx) (e:Expr) (t:TT):Prop :=
 ∀ (pins:List (Addr × Obj)) (s:Shared) (σ:St) (H:Hp) (Q:Bool->Hp->Prop),Inv X pins σ H s->t σ H Q->wpAny (model X.prog X.w) X.A (isTrue e X.env (eval e X.env)) (TP X pins σ Q) X.xe s
noncomputable def PW (X:Cx) (e:Expr) (t:TT):Prop :=
 ∀ (whole:Sem Value) (pins:List (Addr × Obj)) (s:Shared) (σ:St) (H:Hp) (Q:Bool->Hp->Prop),Inv X pins σ H s->t σ H Q->wpAny (model X.prog X.w) X.A (isTrue e X.env whole) (TP X pins σ Q) X.xe s
theorem PW.pt {X:Cx} {e:Expr} {t:TT} (h:PW X e t):PT X e t:=h _
noncomputable def PA (X:Cx) (es:List Expr) (t:TA):Prop :=
 ∀ (pos:Pos) (pins:List (Addr × Obj)) (s:Shared) (σ:St) (H:Hp) (Q:List V->Hp->Prop),Inv X pins σ H s->t σ H Q->wpAny (model X.prog X.w) X.A (spliced (backTo pos (starEach es X.env))) (AP X pins σ Q) X.xe s
noncomputable def PS (X:Cx) (st:Stmt) (t:TS):Prop :=
 ∀ (pins:List (Addr × Obj)) (s:Shared) (σ:St) (H:Hp) (D:Ends),Inv X pins σ H s->t D σ H->wpAny (model X.prog X.w) X.A (exec st X.env) (SP X pins D) X.xe s
noncomputable def PSs (X:Cx) (st:List Stmt) (t:TS):Prop :=
 ∀ (pins:List (Addr × Obj)) (s:Shared) (σ:St) (H:Hp) (D:Ends),Inv X pins σ H s->t D σ H->wpAny (model X.prog X.w) X.A (execs st X.env) (SP X pins D) X.xe s
theorem thn {α:Type} {t:Sem α} {Q Q':α->Shared->Prop} {M:Model} {A:Around} {E:Value->Shared->Prop} {s:Shared} (h:wpAny M A t Q E s) (hQ:∀ a s,Q a s->Q' a s):wpAny M A t Q' E s:=YV h hQ fun _ _ x=>x
section
variable {X:Cx}
theorem bin {a b:Expr} {ta tb:TE} (ha:PE X a ta) (hb:PE X b tb) {pins:List (Addr × Obj)} {s:Shared} {σ:St} {H:Hp} {R:V->V->Hp->Prop} (I:Inv X pins σ H s) (h:ta σ H fun x H1=>tb σ H1 fun y H2=>R x y H2)
  {α:Type} {Q:α->Shared->Prop} {f:Value->Value->Sem α}
  (hf:∀ v u s2 x y H2,Inv X pins σ H2 s2->RelV x v->RelV y u->R x y H2->wpAny (model X.prog X.w) X.A (f v u) Q X.xe s2) :
  wpAny (model X.prog X.w) X.A (eval a X.env) (fun v s₁=>wpAny (model X.prog X.w) X.A (eval b X.env) (fun u s₂=>wpAny (model X.prog X.w) X.A (f v u) Q X.xe s₂) X.xe s₁) X.xe s:=by
 refine thn (ha pins s σ H _ I h) fun v s1 h_q=>?_
 obtain ⟨x,H1,I1,r1,q1⟩:=h_q
 refine thn (hb pins s1 σ H1 _ I1 q1) fun u s2 h_q=>?_
 obtain ⟨y,H2,I2,r2,q2⟩:=h_q
 exact hf v u s2 x y H2 I2 r1 r2 q2
noncomputable def tVar (i:Nat):TE:=fun σ H Q=>∃ v,σ[i]? = some (some v)/\Q v H
noncomputable def tC (v:V):TE:=fun _ H Q=>Q v H
theorem pe_var {i:Nat} {x:Str} {pos:Pos} (hN:X.N[i]? = some x) (hv:Vis X.env.scope x) (hd:(x == ("__debug__":Str))=false:=by decide) (hcd:(x == ("__classdict__":Str))=false:=by decide):PE X (.Name x pos) (tVar i):=by
 intro pins s σ H Q I h
 obtain ⟨v,e,h⟩:=h
 obtain ⟨m,hn,hl⟩:=I.loc
 obtain ⟨u,r,l⟩:=hl i x v hN e hv
 have fin:EP X pins σ Q u s:=⟨v,H,I,r,h⟩
 rcases l with ⟨hk,hm⟩ | ⟨hk,c,hc,hcell⟩
 ·exact YcY (Yci I.ok.kind hk hn hm fin) hd
 ·rcases hk with hk | hk
  ·exact YcY (Ycp I.ok.kind hk hc hcell fin) hd
  ·exact YcY (wpAny_loadName_free I.ok.kind hk hc hcell fin hcd) hd
theorem Zh {i j pos}:PE X (.Constant (.int i) j pos) (tC (.int i)):=fun _ _ _ H _ I h=>wpAny_Constant_int ⟨.int i,H,I.tok _,⟨_,rfl⟩,h⟩
theorem pe_bl {b j pos}:PE X (.Constant (.bool b) j pos) (tC (.bl b)):=fun _ _ _ H _ I h=>Constant_bool ⟨.bl b,H,I,rfl,h⟩
theorem ZS {x j pos}:PE X (.Constant (.str x) j pos) (tC (.str x)):=fun _ _ _ H _ I h=>Calls.Constant_str ⟨.str x,H,I.tok _,⟨_,rfl⟩,h⟩
noncomputable def Gl (X:Cx) (x:Str):Prop:=X.env.kindOf x=some .globalImplicit
theorem ZjA {E:Value->Shared->Prop} {pins:List (Addr × Obj)} {s:Shared} {σ:St} {H:Hp} {x:Str} {u:Value} {pos:Pos} {Q:Value->Shared->Prop} (I:Inv X pins σ H s) (hg:Gl X x) (hm:X.mg x=some u) (h:Q u s)
  (hd:(x == ("__debug__":Str))=false:=by decide):wpAny (model X.prog X.w) X.A (eval (.Name x pos) X.env) Q E s :=
 YbI I.ok.kind hg (Calls.loadGlobal_global (by rw [I.ok.glob];exact I.mod.glob.keeps I.bk) hm h) hd
theorem ZbF {E:Value->Shared->Prop} {pins:List (Addr × Obj)} {s:Shared} {σ:St} {H:Hp} {x:Str} {u:Value} {pos:Pos} {Q:Value->Shared->Prop} (I:Inv X pins σ H s) (hg:Gl X x) (hm:X.mg x=none) (hv:bootBuiltins x=some u) (h:Q u s)
  (hn:x≠"__name__":=by decide) (hd:(x == ("__debug__":Str))=false:=by decide):wpAny (model X.prog X.w) X.A (eval (.Name x pos) X.env) Q E s:=by
 obtain ⟨mb,h1,h2⟩:=I.mod.blt
 exact YbI I.ok.kind hg (Calls.loadGlobal_builtin (by rw [I.ok.glob];exact I.mod.glob.keeps I.bk) hm (by rw [I.ok.blt];exact h1.keeps I.bk) ((h2 x hn).trans hv) h) hd
theorem Zc8 {x:Str} {v:V} {u:Value} {pos:Pos} (hg:Gl X x) (hm:X.mg x=some u) (r:RelV v u) (hd:(x == ("__debug__":Str))=false:=by decide):PE X (.Name x pos) (tC v) :=
 fun _ _ _ H _ I h=>ZjA I hg hm ⟨v,H,I,r,h⟩ hd
theorem pe_bltn {x:Str} {v:V} {u:Value} {pos:Pos} (hg:Gl X x) (hm:X.mg x=none) (hv:bootBuiltins x=some u) (r:RelV v u) (hn:x≠"__name__":=by decide) (hd:(x == ("__debug__":Str))=false:=by decide):PE X (.Name x pos) (tC v) :=
 fun _ _ _ H _ I h=>ZbF I hg hm hv ⟨v,H,I,r,h⟩ hn hd
variable {a b:Expr} {ta tb:TE} {pos:Pos}
noncomputable def PC (X:Cx) (op:CmpOp) (a b:Expr) (t:TE):Prop :=
 ∀ (pins:List (Addr × Obj)) (s:Shared) (σ:St) (H:Hp) (Q:VK),Inv X pins σ H s->t σ H Q ->
  wpAny (model X.prog X.w) X.A (eval a X.env) (fun v s₁=>wpAny (model X.prog X.w) X.A (eval b X.env) (fun u s₂=>wpAny (model X.prog X.w) X.A (compareOp op v u) (EP X pins σ Q) X.xe s₂) X.xe s₁) X.xe s
theorem nobehind (b:Expr) {op:CmpOp} (h:op≠.In) (h2:op≠.NotIn):behindInMarks op b=false:=by
 have e1:(op == CmpOp.In)=false:=by cases op <;> first | rfl | exact absurd rfl h
 have e2:(op == CmpOp.NotIn)=false:=by cases op <;> first | rfl | exact absurd rfl h2
 cases b <;> simp [behindInMarks,e1,e2]
noncomputable def tB (t:TE):TT:=fun σ H Q=>t σ H fun x H1=>∃ c,x=.bl c/\Q c H1
theorem pt_cmp {op:CmpOp} {t:TE} (h:PC X op a b t) (h1:behindInMarks op b=false:=by first | exact nobehind _ (by decide) (by decide) | rfl):PT X (.Compare a [op] [b] pos) (tB t):=by
 intro pins s σ H Q I hw
 refine wpAny_isTrue_Compare1 (thn (h pins s σ H _ I hw) fun v s1 h1=>thn h1 fun u s2 h2=>thn h2 fun c s3 ⟨x,H1,I1,r1,q1⟩=>?_) h1
 obtain ⟨d,rfl,q⟩:=q1
 cases r1
 exact Yaz ⟨H1,I1,q⟩
theorem pt_val {e:Expr} {t:TE} (h:PE X e t) (he:∀ whole,isTrue e X.env whole=(do let v <- whole;standAt e.pos;holding [v] (truthy v)):=by intro _;rfl):PT X e (tB t):=by
 intro pins s σ H Q I hw
 refine isTrue_plain (thn (h pins s σ H _ I hw) fun v s1 ⟨x,H1,I1,r1,q1⟩=>?_) (he _)
 obtain ⟨d,rfl,q⟩:=q1
 cases r1
 exact Yaz ⟨H1,I1,q⟩
variable {tA tB':TT} {rest:List Expr}
noncomputable def tAnd (t u:TT):TT:=fun σ H Q=>t σ H fun c H1=>if c=true then u σ H1 Q else Q false H1
noncomputable def tOr (t u:TT):TT:=fun σ H Q=>t σ H fun c H1=>if c=true then Q true H1 else u σ H1 Q
noncomputable def tNot (t:TT):TT:=fun σ H Q=>t σ H fun c H1=>Q (!c) H1
theorem Zb9 (ha:PT X a tA):PW X (.BoolOp .And [a] pos) tA:=by
 intro wh pins s σ H Q I h
 refine isTrue_and (thn (ha pins s σ H Q I h) fun c s1 e=>?_)
 cases c with
 | true=>exact isTrue_and_nil e
 | false=>exact e
theorem pw_or1 (ha:PT X a tA):PW X (.BoolOp .Or [a] pos) tA:=by
 intro wh pins s σ H Q I h
 refine isTrue_or (thn (ha pins s σ H Q I h) fun c s1 e=>?_)
 cases c with
 | false=>exact isTrue_or_nil e
 | true=>exact e
theorem ZcG (ha:PT X a tA) (hb:PW X (.BoolOp .And (b::rest) pos) tB'):PW X (.BoolOp .And (a::b::rest) pos) (tAnd tA tB'):=by
 intro wh pins s σ H Q I h
 refine isTrue_and (thn (ha pins s σ H _ I h) fun c s1 h_q=>?_)
 obtain ⟨H1,I1,q1⟩:=h_q
 cases c with
 | true=>exact hb wh pins s1 σ H1 Q I1 q1
 | false=>exact ⟨H1,I1,q1⟩
theorem pw_or (ha:PT X a tA) (hb:PW X (.BoolOp .Or (b::rest) pos) tB'):PW X (.BoolOp .Or (a::b::rest) pos) (tOr tA tB'):=by
 intro wh pins s σ H Q I h
 refine isTrue_or (thn (ha pins s σ H _ I h) fun c s1 h_q=>?_)
 obtain ⟨H1,I1,q1⟩:=h_q
 cases c with
 | true=>exact ⟨H1,I1,q1⟩
 | false=>exact hb wh pins s1 σ H1 Q I1 q1
theorem pt_not (ha:PT X a tA):PT X (.UnaryOp .Not a pos) (tNot tA):=by
 intro pins s σ H Q I h
 exact isTrue_not (ha pins s σ H (fun c H1=>Q (!c) H1) I h)
noncomputable def tAndV (ta tb:TE):TE:=fun σ H Q=>ta σ H fun x H1=>∃ c,x=.bl c/\if c=true then tb σ H1 Q else Q (.bl false) H1
noncomputable def tNotV (ta:TE):TE:=fun σ H Q=>ta σ H fun x H1=>∃ c,x=.bl c/\Q (.bl (!c)) H1
theorem pe_one {op} {t:TE} (h:PE X a t):PE X (.BoolOp op [a] pos) t:=fun pins s σ H Q I hw=>BoolOp_one (h pins s σ H Q I hw)
theorem Zir (ha:PE X a ta) (hb:PE X (.BoolOp .And (b::rest) pos) tb):PE X (.BoolOp .And (a::b::rest) pos) (tAndV ta tb):=by
 intro pins s σ H Q I h
 refine BoolOp_and (thn (ha pins s σ H _ I h) fun v s1 h_q=>?_)
 obtain ⟨x,H1,I1,r1,q1⟩:=h_q
 obtain ⟨c,rfl,q1⟩:=q1
 cases r1
 refine Yaz ?_
 cases c with
 | true=>exact hb pins s1 σ H1 Q I1 q1
 | false=>exact ⟨.bl false,H1,I1,rfl,q1⟩
theorem pe_not (ha:PE X a ta):PE X (.UnaryOp .Not a pos) (tNotV ta):=by
 intro pins s σ H Q I h
 refine UnaryOp_ (thn (ha pins s σ H _ I h) fun v s1 h_q=>?_)
 obtain ⟨x,H1,I1,r1,q1⟩:=h_q
 obtain ⟨c,rfl,q1⟩:=q1
 cases r1
 exact not_of (Yaz ⟨.bl (!c),H1,I1,rfl,q1⟩)
noncomputable def tIf (t:TT) (ta tb:TE):TE:=fun σ H Q=>t σ H fun c H1=>if c=true then ta σ H1 Q else tb σ H1 Q
theorem pe_ifExp {c:Expr} (hc:PT X c tA) (ha:PE X a ta) (hb:PE X b tb):PE X (.IfExp c a b pos) (tIf tA ta tb):=by
 intro pins s σ H Q I h
 refine wpAny_IfExp (thn (hc pins s σ H _ I h) fun d s1 h_q=>?_)
 obtain ⟨H1,I1,q1⟩:=h_q
 cases d with
 | true=>exact ha pins s1 σ H1 Q I1 q1
 | false=>exact hb pins s1 σ H1 Q I1 q1
end
noncomputable def SqL (K:YFr) (H:Hp) (a:Addr) (xs:List V):Prop :=
 Rd H a (.lst xs) \/
  ∃ (o:Obj) (its:Array Value) (n:Nat),K.lookup a=some o/\o.cls=.type "list"/\o.dict=none/\o.data=.seq its n/\its.size<=sizeLine/\Vals xs its.toList
noncomputable def SqT (K:YFr) (H:Hp) (a:Addr) (xs:List V):Prop :=
 Rd H a (.tup xs) \/
  ∃ (o:Obj) (its:Array Value) (n:Nat),K.lookup a=some o/\o.cls=.type "tuple"/\o.data=.seq its n/\its.size<=sizeLine/\Vals xs its.toList
noncomputable def absV:Value->Option V
 | .none=>some .non
 | .bool b=>some (.bl b)
 | .int i _=>some (.int i)
 | .str x _=>some (.str x)
 | .bytes b _=>some (.byt b)
 | .float b _=>some (.flt b)
 | .ref a=>some (.ref a)
 | .type n=>some (.ty n)
 | _=>none
theorem RelV.abs {x:V} {u:Value} (r:RelV x u):absV u=some x:=by
 cases x with
 | non=>cases r;rfl
 | bl _=>cases r;rfl
 | int _=>obtain ⟨t,rfl⟩:=r;rfl
 | str _=>obtain ⟨t,rfl⟩:=r;rfl
 | byt _=>obtain ⟨t,rfl⟩:=r;rfl
 | flt _=>obtain ⟨t,rfl⟩:=r;rfl
 | ref _=>cases r;rfl
 | ty _=>cases r;rfl
theorem RelV.inj {x y:V} {u:Value} (r:RelV x u) (q:RelV y u):x=y:=Y0 (r.abs.symm.trans q.abs)
theorem Vals.inj:∀ {xs ys:List V} {us:List Value},Vals xs us->Vals ys us->xs=ys
 | _,_,_,.nil,.nil=>rfl
 | _,_,_,.cons r t,.cons r' t'=>by rw [r.inj r',Vals.inj t t']
section
variable {X:Cx} {pins:List (Addr × Obj)} {σ:St} {H:Hp} {s:Shared} {a:Addr} {xs ys:List V}
theorem SqL.of {K:YFr} (h:H a=some (.lst xs)):SqL K H a xs:=.inl (.inl h)
theorem SqT.of {K:YFr} (h:H a=some (.tup xs)):SqT K H a xs:=.inl (.inl h)
theorem Inv.list (I:Inv X pins σ H s) (h:SqL X.K H a xs):∃ its:List Value,Vals xs its/\PlainL s.heap a its.toArray/\xs.length<=sizeLine:=by
 rcases h with h | ⟨o,its,n,hk,hc,hd,hs,hz,r⟩
 ·obtain ⟨z,its,n,r,e⟩:=h.ok I.hok
  exact ⟨its,r,⟨_,n,e,rfl,rfl,rfl⟩,z⟩
 ·refine ⟨its.toList,r,⟨o,n,I.kIn a o hk,hc,hd,by simpa using hs⟩,?_⟩
  have e:=r.length
  simp only [Array.length_toList] at e
  lia
theorem Inv.tuple (I:Inv X pins σ H s) (h:SqT X.K H a xs):∃ its:List Value,Vals xs its/\IsTup s.heap a its.toArray/\xs.length<=sizeLine:=by
 rcases h with h | ⟨o,its,n,hk,hc,hs,hz,r⟩
 ·obtain ⟨z,its,r,p⟩:=h.ok I.hok
  exact ⟨its,r,p,z⟩
 ·refine ⟨its.toList,r,⟨o,I.kIn a o hk,hc,n,by simpa using hs⟩,?_⟩
  have e:=r.length
  simp only [Array.length_toList] at e
  lia
theorem Inv.list_inj (I:Inv X pins σ H s) (h:SqL X.K H a xs) (h':SqL X.K H a ys):xs=ys:=by
 obtain ⟨its,r,⟨o,n,e,_,_,d⟩,_⟩:=I.list h
 obtain ⟨its',r',⟨o',n',e',_,_,d'⟩,_⟩:=I.list h'
 rw [e] at e';cases e'
 rw [d] at d'
 injection d' with d1 _
 have:its=its':=by simpa using congrArg Array.toList d1
 subst this
 exact r.inj r'
theorem Inv.tuple_inj (I:Inv X pins σ H s) (h:SqT X.K H a xs) (h':SqT X.K H a ys):xs=ys:=by
 obtain ⟨its,r,⟨o,e,_,n,d⟩,_⟩:=I.tuple h
 obtain ⟨its',r',⟨o',e',_,n',d'⟩,_⟩:=I.tuple h'
 rw [e] at e';cases e'
 rw [d] at d'
 injection d' with d1 _
 have:its=its':=by simpa using congrArg Array.toList d1
 subst this
 exact r.inj r'
end
noncomputable abbrev Cx.wish (X:Cx) (E:Value->Shared->Prop):Cx:={ X with xe:=E }
noncomputable abbrev Cx.nox (X:Cx):Cx:=X.wish fun _ _=>False
theorem Cx.Ok.wish {X:Cx} (ok:X.Ok) (E:Value->Shared->Prop):(X.wish E).Ok :=
 ⟨ok.mod,ok.kind,ok.glob,ok.blt,ok.above,ok.inj,ok.has,ok.cab,ok.hd,ok.frames,ok.stk,ok.exf,ok.bs,ok.bsz,ok.noex,ok.exfs,ok.funs,ok.frf⟩
theorem Cx.Ok.unwish {X:Cx} {E:Value->Shared->Prop} (ok:(X.wish E).Ok):X.Ok :=
 ⟨ok.mod,ok.kind,ok.glob,ok.blt,ok.above,ok.inj,ok.has,ok.cab,ok.hd,ok.frames,ok.stk,ok.exf,ok.bs,ok.bsz,ok.noex,ok.exfs,ok.funs,ok.frf⟩
section
variable {X:Cx} {pins:List (Addr × Obj)} {σ:St} {H:Hp} {s:Shared} {E:Value->Shared->Prop}
theorem Inv.wish (I:Inv X pins σ H s) (E:Value->Shared->Prop):Inv (X.wish E) pins σ H s:=⟨I.ok.wish E,I.os,I.bare,I.base,I.loc,I.cell,I.free,I.freeC,I.pin,I.hok,I.len⟩
theorem Inv.unwish (I:Inv (X.wish E) pins σ H s):Inv X pins σ H s:=⟨I.ok.unwish,I.os,I.bare,I.base,I.loc,I.cell,I.free,I.freeC,I.pin,I.hok,I.len⟩
theorem SP.unwish {D:Ends} {f:Flow} {s':Shared} (h:SP (X.wish E) pins D f s'):SP X pins D f s':=by
 cases f with
 | next=>obtain ⟨σ',H',I,q⟩:=h;exact ⟨σ',H',I.unwish,q⟩
 | brk=>obtain ⟨σ',H',I,q⟩:=h;exact ⟨σ',H',I.unwish,q⟩
 | cont=>obtain ⟨σ',H',I,q⟩:=h;exact ⟨σ',H',I.unwish,q⟩
 | ret u=>obtain ⟨v,σ',H',I,r,q⟩:=h;exact ⟨v,σ',H',I.unwish,r,q⟩
theorem PE.nox {e:Expr} {t:TE} (h:PE X.nox e t):PE X e t:=fun pins s σ H Q I hw =>
 YV (h pins s σ H Q (I.wish _) hw) (fun _ _ ⟨v,H',I',r,q⟩=>⟨v,H',I'.unwish,r,q⟩) fun _ _ z=>False.elim z
theorem PSs.nox {st:List Stmt} {t:TS} (h:PSs X.nox st t):PSs X st t:=fun pins s σ H D I hw =>
 YV (h pins s σ H D (I.wish _) hw) (fun _ _ q=>q.unwish) fun _ _ z=>False.elim z
end
section
variable {X:Cx} {st:Stmt} {rest:List Stmt} {t u:TS} {e:Expr} {te:TE} {pos:Pos}
noncomputable def tNext:TS:=fun D σ H=>D.nx σ H
noncomputable def tSeq (t u:TS):TS:=fun D σ H=>t { D with nx:=u D } σ H
theorem ZG:PSs X [] tNext:=fun _ _ σ H _ I h=>Yby ⟨σ,H,I,h⟩
theorem Zg (h1:PS X st t) (h2:PSs X rest u):PSs X (st::rest) (tSeq t u):=by
 intro pins s σ H D I h
 refine YcP (thn (h1 pins s σ H { D with nx:=u D } I h) fun f s1 q=>?_)
 cases f with
 | next =>
  obtain ⟨σ',H',I',q⟩:=q
  exact h2 pins s1 σ' H' D I' q
 | ret v=>exact q
 | brk=>exact q
 | cont=>exact q
theorem Zl (h1:PS X st t):PSs X [st] t:=by
 intro pins s σ H D I h
 refine YcP (thn (h1 pins s σ H D I h) fun f s1 q=>?_)
 cases f with
 | next=>exact Yby q
 | ret v=>exact q
 | brk=>exact q
 | cont=>exact q
theorem Inv.quiet {pins:List (Addr × Obj)} {σ:St} {H:Hp} {s:Shared} (I:Inv X pins σ H s):interactive X.env=false:=by simp [interactive,I.ok.kind]
noncomputable def tDrop (te:TE):TS:=fun D σ H=>te σ H fun _ H1=>D.nx σ H1
theorem ZcE (he:PE X e te) (hs:swapsWith e none pos.line X.env=pure false:=by rfl):PS X (.Expr e pos) (tDrop te):=by
 intro pins s σ H D I h
 exact wpAny_Expr_any (thn (he pins s σ H _ I h) fun v s1 ⟨x,H1,I1,r1,q1⟩=>⟨σ,H1,I1,q1⟩) I.quiet hs
noncomputable def tRet (te:TE):TS:=fun D σ H=>te σ H D.rt
theorem ZE (he:PE X e te):PS X (.Return (some e) pos) (tRet te):=by
 intro pins s σ H D I h
 exact wpAny_Return_some (thn (he pins s σ H _ I h) fun v s1 ⟨x,H1,I1,r1,q1⟩=>⟨x,σ,H1,I1,r1,q1⟩)
noncomputable def tIfS (c:TT) (t u:TS):TS:=fun D σ H=>c σ H fun b H1=>if b=true then t D σ H1 else u D σ H1
theorem Zar {c:Expr} {a b:List Stmt} {tc:TT} (hc:PT X c tc) (ha:PSs X a t) (hb:PSs X b u):PS X (.If c a b pos) (tIfS tc t u):=by
 intro pins s σ H D I h
 refine wpAny_If (thn (hc pins s σ H _ I h) fun d s1 h_q=>?_)
 obtain ⟨H1,I1,q1⟩:=h_q
 cases d with
 | true=>exact ha pins s1 σ H1 D I1 q1
 | false=>exact hb pins s1 σ H1 D I1 q1
end
noncomputable abbrev TG:=V->St->Hp->(St->Hp->Prop)->Prop
noncomputable abbrev TGs:=List V->St->Hp->(St->Hp->Prop)->Prop
noncomputable def PG (X:Cx) (target:Expr) (t:TG):Prop :=
 ∀ (pins:List (Addr × Obj)) (s:Shared) (σ:St) (H:Hp) (v:V) (u:Value) (Q:St->Hp->Prop),Inv X pins σ H s->RelV v u->t v σ H Q ->
  wpAny (model X.prog X.w) X.A (assign target X.env u) (fun _ s'=>∃ σ' H',Inv X pins σ' H' s'/\Q σ' H') X.xe s
noncomputable def PGs (X:Cx) (ts:List Expr) (t:TGs):Prop :=
 ∀ (pins:List (Addr × Obj)) (s:Shared) (σ:St) (H:Hp) (vs:List V) (us:List Value) (Q:St->Hp->Prop),Inv X pins σ H s->Vals vs us->t vs σ H Q ->
  wpAny (model X.prog X.w) X.A (assignInOrder ((assignEach ts X.env).map (·.2)) us) (fun _ s'=>∃ σ' H',Inv X pins σ' H' s'/\Q σ' H') X.xe s
noncomputable abbrev TSet:=V->V->V->Hp->(Hp->Prop)->Prop
noncomputable def PSet (X:Cx) (t:TSet):Prop :=
 ∀ (pins:List (Addr × Obj)) (s:Shared) (σ:St) (H:Hp) (o i v:V) (ov iv u:Value) (Q:Hp->Prop),Inv X pins σ H s->RelV o ov->RelV i iv->RelV v u->t o i v H Q ->
  wpAny (model X.prog X.w) X.A (setItem ov iv u) (fun _ s'=>∃ H',Inv X pins σ H' s'/\Q H') X.xe s
noncomputable abbrev TIp:=V->V->Hp->VK->Prop
noncomputable def PIp (X:Cx) (op:Operator) (t:TIp):Prop :=
 ∀ (pins:List (Addr × Obj)) (s:Shared) (σ:St) (H:Hp) (x y:V) (v u:Value) (Q:VK),Inv X pins σ H s->RelV x v->RelV y u->t x y H Q ->
  wpAny (model X.prog X.w) X.A (inplaceOp op v u) (EP X pins σ Q) X.xe s
section
variable {X:Cx} {pos:Pos}
noncomputable def Zhp (i:Nat):TG:=fun v σ H Q=>Q (σ.set i (some v)) H
theorem ZH {i:Nat} {x:Str} (hN:X.N.Nodup) (hi:X.N[i]? = some x) (hx:Loc X.env.scope x) (hf:X.fn x=true\/X.env.scope.names.lookup x=some .local:=by first | exact .inl rfl | exact .inr rfl | assumption):PG X (.Name x pos) (Zhp i):=by
 intro pins s σ H v u Q I r h
 exact YcF (Zev I hN hi hx r (fun s' I'=>⟨_,H,I',h⟩) hf)
noncomputable def gNil:TGs:=fun vs σ H Q=>vs=[]/\Q σ H
noncomputable def gCons (t:TG) (u:TGs):TGs:=fun vs σ H Q=>∃ v r,vs=v::r/\t v σ H fun σ' H'=>u r σ' H' Q
theorem ZcD:PGs X [] gNil:=by
 intro pins s σ H vs us Q I r h
 obtain ⟨e,h⟩:=h
 subst e
 cases r
 exact assignInOrder_nil ⟨σ,H,I,h⟩
theorem ZaT {e:Expr} {es:List Expr} {t:TG} {u:TGs} (h1:PG X e t) (h2:PGs X es u)
  (hs:(assignEach (e::es) X.env).map (·.2)=assign e X.env::(assignEach es X.env).map (·.2):=by rfl):PGs X (e::es) (gCons t u):=by
 intro pins s σ H vs us Q I r h
 obtain ⟨v,vr,e1,h⟩:=h
 subst e1
 cases r with
 | cons r rr =>
  rw [hs]
  refine assignInOrder_cons (thn (h1 pins s σ H _ _ _ I r h) fun _ s1 h_q=>?_)
  obtain ⟨σ1,H1,I1,q1⟩:=h_q
  exact h2 pins s1 σ1 H1 _ _ Q I1 rr q1
noncomputable def gTup (K:YFr) (n:Nat) (t:TGs):TG:=fun v σ H Q=>∃ a xs,v=.ref a/\SqT K H a xs/\xs.length=n/\t xs σ H Q
theorem ZgZ {es:List Expr} {k:Nat} {t:TGs} {n:Nat} (hc:X.calm=true) (h:PGs X es t)
  (hn:(assignEach es X.env).length=n:=by rfl) (hst:(assignEach es X.env).findIdx? (·.1)=none:=by rfl):PG X (.Tuple es k pos) (gTup X.K n t):=by
 intro pins s σ H v u Q I r hw
 obtain ⟨a,xs,e1,hq,hl,hw⟩:=hw
 subst e1
 cases r
 obtain ⟨its,rv,ht,hz⟩:=I.tuple hq
 refine assign_Tuple_tuple (I.ok.hd hc) ht (by simp [hn,<- hl,rv.length]) hst fun h' hx=>?_
 have I1:Inv X pins σ H { s with heap:=h' }:=I.kept (t':=s.toks) fun b o e=>hx b o (YD (Yo e)) e
 exact h pins _ σ H xs _ Q I1 (by simpa using rv) hw
noncomputable def gSub (to ti:TE) (t:TSet):TG:=fun v σ H Q=>to σ H fun o H1=>ti σ H1 fun i H2=>t o i v H2 fun H3=>Q σ H3
theorem pg_sub {o i:Expr} {to ti:TE} {t:TSet} (ho:PE X o to) (hi:PE X i ti) (hs:PSet X t)
  (ha : ∀ v,assign (.Subscript o i pos) X.env v=(do
   let ov <- holding [v] (eval o X.env)
   let iv <- holding [v,ov] (eval i X.env)
   standAt pos
   holding [v,ov,iv] (setItem ov iv v)
   release [v,ov,iv] []):=by intro _;rfl):PG X (.Subscript o i pos) (gSub to ti t):=by
 intro pins s σ H v u Q I r h
 rw [ha]
 refine Yd (YU (thn (ho pins s σ H _ I h) fun ov s1 h_q=>?_))
 obtain ⟨x,H1,I1,r1,q1⟩:=h_q
 refine Yd (YU (thn (hi pins s1 σ H1 _ I1 q1) fun iv s2 h_q=>?_))
 obtain ⟨y,H2,I2,r2,q2⟩:=h_q
 refine Yd (YaG (Yd (YU (thn (hs pins s2 σ H2 x y v ov iv u _ I2 r1 r2 r q2) fun _ s3 h_q=>?_))))
 obtain ⟨H3,I3,q3⟩:=h_q
 exact wpAny_release ⟨σ,H3,I3,q3⟩
noncomputable def tAsg (te:TE) (g:TG):TS:=fun D σ H=>te σ H fun x H1=>g x σ H1 D.nx
theorem ps_asg {tg e:Expr} {te:TE} {g:TG} (he:PE X e te) (hg:PG X tg g) (hs:swapsWithSole [tg] e pos.line X.env=pure false:=by rfl) (hw:swappedStores [tg] e X.env=pure none:=by rfl)
  (h1:(assignEach [tg] X.env).map (·.2)=[assign tg X.env]:=by rfl):PS X (.Assign [tg] e pos) (tAsg te g):=by
 intro pins s σ H D I h
 refine wpAny_Assign_stores (thn (he pins s σ H _ I h) fun v s1 ⟨x,H1,I1,r1,q1⟩=>?_) hs hw
 rw [h1]
 exact thn (hg pins s1 σ H1 x v _ I1 r1 q1) fun _ s2 q=>q
theorem Zz {i:Nat} {x:Str} {e:Expr} {te:TE} {pos':Pos} (hN:X.N.Nodup) (hi:X.N[i]? = some x) (hx:Loc X.env.scope x) (he:PE X e te) (hs:swapsWith e (some (.Name x pos')) pos.line X.env=pure false:=by rfl) (hf:X.fn x=true\/X.env.scope.names.lookup x=some .local:=by first | exact .inl rfl | exact .inr rfl | assumption) :
  PS X (.Assign [.Name x pos'] e pos) (tAsg te (Zhp i)):=by
 intro pins s σ H D I h
 refine wpAny_Assign_Name (thn (he pins s σ H _ I h) fun v s1 ⟨y,H1,I1,r1,q1⟩=>?_) hs
 exact Zev I1 hN hi hx r1 (fun s2 I2=>⟨_,H1,I2,q1⟩) hf
noncomputable def tAug (i:Nat) (te:TE) (ti:TIp):TS:=fun D σ H=>∃ x,σ[i]? = some (some x)/\te σ H fun y H1=>ti x y H1 fun z H2=>D.nx (σ.set i (some z)) H2
theorem Zfg {i:Nat} {x:Str} {e:Expr} {te:TE} {op:Operator} {ti:TIp} {pos':Pos} (hN:X.N.Nodup) (hi:X.N[i]? = some x) (hx:Loc X.env.scope x) (he:PE X e te) (ho:PIp X op ti) (hf:X.fn x=true\/X.env.scope.names.lookup x=some .local:=by first | exact .inl rfl | exact .inr rfl | assumption) :
  PS X (.AugAssign (.Name x pos') op e pos) (tAug i te ti):=by
 intro pins s σ H D I h
 obtain ⟨v,e1,h⟩:=h
 obtain ⟨m,hn,hl⟩:=I.loc
 have vis:Vis X.env.scope x:=by rcases hx with k | k;exact .inl k;exact .inr (.inl k)
 obtain ⟨u,r,l⟩:=hl i x v hi e1 vis
 refine wpAny_AugAssign_Name ?_
 have go:wpAny (model X.prog X.w) X.A (eval e X.env) (fun w s₂=>wpAny (model X.prog X.w) X.A (inplaceOp op u w) (fun r s₃=>wpAny (model X.prog X.w) X.A (storeName X.env x r) (fun _=>SP X pins D .next) X.xe s₃) X.xe s₂) X.xe s:=by
  refine thn (he pins s σ H _ I h) fun w s1 h_q=>?_
  obtain ⟨y,H1,I1,r1,q1⟩:=h_q
  refine thn (ho pins s1 σ H1 v y u w _ I1 r r1 q1) fun z s2 h_q=>?_
  obtain ⟨zv,H2,I2,r2,q2⟩:=h_q
  exact Zev I2 hN hi hx r2 (fun s3 I3=>⟨_,H2,I3,q2⟩) hf
 rcases l with ⟨hk,hm⟩ | ⟨hk,c,hc,hcell⟩
 ·exact Yci I.ok.kind hk hn hm go
 ·rcases hk with hk | hk
  ·exact Ycp I.ok.kind hk hc hcell go
  ·rcases hx with k | k
   ·have:X.env.scope.names.lookup x=some .free:=hk
    rw [k] at this;cases this
   ·have:X.env.scope.names.lookup x=some .free:=hk
    rw [k] at this;cases this
end
section
variable {X:Cx} {pos:Pos}
noncomputable def tWhile (c:TT) (tb:TS):TS:=fun D σ H=>∃ W:Nat->St->Hp->Prop,(∃ m,W m σ H)/\∀ m σ H,W m σ H ->
 c σ H fun b H1=>if b=true then ∃ N:St->Hp->Prop,(∀ σ' H',N σ' H'->∃ m',m' < m/\W m' σ' H')/\tb { D with nx:=N,ct:=N,bk:=D.nx } σ H1 else D.nx σ H1
theorem ps_while {c:Expr} {body:List Stmt} {tc:TT} {tb:TS} (hp:PassesOwn (model X.prog X.w) X.A X.env X.xe) (hc:PT X c tc) (hb:PSs X body tb):PS X (.While c body [] pos) (tWhile tc tb):=by
 intro pins s σ H D I h
 obtain ⟨W,⟨m0,w0⟩,turn⟩:=h
 refine wpAny_While (codeAny_whileLoop (fun n s'=>∃ σ' H',Inv X pins σ' H' s'/\W n σ' H') ?_ m0 ⟨σ,H,I,w0⟩)
 rintro n s1 ⟨σ1,H1,I1,w1⟩
 refine YaD hp (thn (hc pins s1 σ1 H1 _ I1 (turn n σ1 H1 w1)) fun b s2 h_q=>?_)
 obtain ⟨H2,I2,q2⟩:=h_q
 cases b with
 | true =>
  obtain ⟨N,hN,q2⟩:=q2
  rw [if_pos rfl]
  refine YaD hp (thn (hb pins s2 σ1 H2 _ I2 q2) fun f s3 q3=>?_)
  cases f with
  | next =>
   obtain ⟨σ3,H3,I3,n3⟩:=q3
   obtain ⟨m',hm,w3⟩:=hN σ3 H3 n3
   exact ⟨m',hm,σ3,H3,I3,w3⟩
  | cont =>
   obtain ⟨σ3,H3,I3,n3⟩:=q3
   obtain ⟨m',hm,w3⟩:=hN σ3 H3 n3
   exact ⟨m',hm,σ3,H3,I3,w3⟩
  | brk=>exact q3
  | ret v=>exact q3
 | false =>
  rw [if_neg Yx]
  exact Yby ⟨σ1,H2,I2,q2⟩
end
structure It where
 go:Nat->Hp->Prop
 yld:Nat->Hp->V->Hp->Prop
 stop:Nat->Hp->Prop
noncomputable def FpOk (X:Cx) (pins:List (Addr × Obj)) (H:Hp) (b:Addr):Prop :=
 H b=none/\b≠X.env.locals/\b ∉ X.fs/\(b∈X.ex\/X.s₀.heap.objs.size<=b)/\(∀ x c,X.env.cells.lookup x=some c->c≠b)/\∀ p∈X.pn++pins,p.1≠b
theorem Inv.fpOk {X:Cx} {pins:List (Addr × Obj)} {σ:St} {H H':Hp} {s:Shared} {b:Addr} (I:Inv X pins σ H s) (hb:s.heap.objs.size<=b) (hn:H' b=none):FpOk X pins H' b:=by
 refine ⟨hn,Ybz (YL I.lt hb),I.nofs hb,.inr (YE I.sz hb),fun x c e z=>?_,fun p hp z=>?_⟩
 ·obtain ⟨v,q⟩:=I.cell x c e
  exact absurd (YL q.lt (by rw [z];exact hb)) (YaO _)
 ·exact absurd (YL (Yo (I.pin p hp).1) (by rw [z];exact hb)) (YaO _)
structure Turn (P:Program) (w:World) (K:YFr) (tg:Expr) (J:It) (fp:List Addr) (it:Addr) (tn:Nat->Heap->Prop):Prop where
 mem:it∈fp
 obj:∀ i h,tn i h->∀ b∈fp,∃ o,h.get? b=some o/\∀ v,o.data≠.cell v
 keep:∀ i h h',tn i h->(∀ b∈fp,∀ o,h.get? b=some o->h'.get? b=some o)->tn i h'
 item : ∀ (X:Cx),X.prog=P->X.w=w->X.K=K->X.calm=true->∀ (i:Nat) (pins:List (Addr × Obj)) (s:Shared) (σ:St) (H:Hp) (E:Value->Shared->Prop),Inv X pins σ H s->(∀ b∈fp,FpOk X pins H b)->tn i s.heap->J.go i H ->
  wpAny (model P w) X.A (pyNext (.ref it)) (fun r s1=>∃ u,r=some u /\
   wpAny (model P w) X.A (letOwnedTupleGo tg (.ref it) u) (fun _ s2=>∃ x H',Inv X pins σ H' s2/\RelV x u/\J.yld i H x H'/\tn (i + 1) s2.heap/\∀ b∈fp,H' b=none) E s1) E s
 done:∀ (X:Cx),X.prog=P->X.w=w->X.K=K->X.calm=true->∀ (i:Nat) (pins:List (Addr × Obj)) (s:Shared) (σ:St) (H:Hp) (E:Value->Shared->Prop),Inv X pins σ H s->(∀ b∈fp,FpOk X pins H b)->tn i s.heap->J.stop i H ->
  wpAny (model P w) X.A (pyNext (.ref it)) (fun r s1=>r=none/\Inv X pins σ H s1) E s
 self:∀ (A:Around) (i:Nat) (s:Shared) (Q:Value->Shared->Prop) (E:Value->Shared->Prop),tn i s.heap->Q (.ref it) s->wpAny (model P w) A (pyIter (.ref it)) Q E s
noncomputable abbrev TI:=St->Hp->(It->Hp->Prop)->Prop
noncomputable def PIE (X:Cx) (pins:List (Addr × Obj)) (σ:St) (tg:Expr) (R:It->Hp->Prop) (itv:Value) (s2:Shared):Prop :=
 ∃ (it:Addr) (fp:List Addr) (tn:Nat->Heap->Prop) (J:It) (H':Hp),itv=.ref it/\Inv X pins σ H' s2/\Turn X.prog X.w X.K tg J fp it tn/\tn 0 s2.heap/\(∀ b∈fp,FpOk X pins H' b)/\R J H'
noncomputable def PI (X:Cx) (tg iter:Expr) (wi:TI):Prop :=
 ∀ (pins:List (Addr × Obj)) (s:Shared) (σ:St) (H:Hp) (R:It->Hp->Prop),Inv X pins σ H s->wi σ H R ->
  wpAny (model X.prog X.w) X.A (eval iter X.env) (fun v s1=>wpAny (model X.prog X.w) X.A (pyIter v) (PIE X pins σ tg R) X.xe s1) X.xe s
theorem go_of {M:Model} {A:Around} {E:Value->Shared->Prop} {s:Shared} {tg:Expr} {it:Addr} {u:Value} {o:Obj} {n:String} {vs:Array Value} {Q:Unit->Shared->Prop} (ho:s.heap.get? it=some o) (hc:o.cls=.type n) (hd:o.data=.fields vs)
  (hn:["enumerate","zip","dict_itemiterator","dict_reverseitemiterator","odict_iterator","itertools.zip_longest","itertools.pairwise"].contains n=false) (hQ:Q () s):wpAny M A (letOwnedTupleGo tg (.ref it) u) Q E s:=by
 unfold letOwnedTupleGo
 cases tg <;> first
  | exact Yl hQ
  | (cases u <;> first
    | exact Yl hQ
    | (refine Yd (wpAny_load ho ?_);rw [hc,hd];show wpAny M A (if (["enumerate","zip","dict_itemiterator","dict_reverseitemiterator","odict_iterator","itertools.zip_longest","itertools.pairwise"].contains n && vs[0]? == some (rawInt _))=true then _ else _) Q E s;rw [if_neg (by intro h;rw [hn,YH] at h;cases h)];exact Yl hQ))
noncomputable def Itl (K:YFr) (a:Addr):It :=
 ⟨fun i H=>∃ xs x,SqL K H a xs/\xs[i]? = some x,fun i H x H'=>H'=H/\∀ xs,SqL K H a xs->xs[i]? = some x,fun i H=>∃ xs,SqL K H a xs/\xs.length<=i⟩
noncomputable def Itt (K:YFr) (a:Addr):It :=
 ⟨fun i H=>∃ xs x,SqT K H a xs/\xs[i]? = some x,fun i H x H'=>H'=H/\∀ xs,SqT K H a xs->xs[i]? = some x,fun i H=>∃ xs,SqT K H a xs/\xs.length<=i⟩
noncomputable def Itr (lo:Int) (n:Nat):It:=⟨fun i _=>i < n,fun i H x H'=>H'=H/\x=.int (lo + i),fun i _=>n<=i⟩
theorem ZiL {P:Program} {w:World} {K:YFr} {tg:Expr} (a it:Addr):Turn P w K tg (Itl K a) [it] it (fun i h=>h.IsListIter it a i) where
 mem:=by simp
 obj := fun i h st b hb=>by
  have e:b=it:=by simpa using hb
  subst e
  obtain ⟨o,e,c,d⟩:=st
  exact ⟨o,e,fun v z=>by rw [d] at z;cases z⟩
 keep:=fun i h h' st k=>st.at fun o e=>k it (by simp) o e
 item:=by
  intro X hP hw hK hc i pins s σ H E I hf st hg
  subst hP hw hK
  obtain ⟨xs,x,hq,hx⟩:=hg
  obtain ⟨its,rv,p,hz⟩:=I.list hq
  obtain ⟨u,hu,ru⟩:=rv.get hx
  obtain ⟨f0,f1,f2,f3,f4,f5⟩:=hf it (by simp)
  refine Ybl st p.isList (x:=u) (by simpa using hu) fun h' st' sb=>?_
  have I1:Inv X pins σ H { s with heap:=h' }:=I.turned (t':=s.toks) (fun b o hb e=>(sb.2 b hb).trans e) f0 f1 f3 f4 f5
  obtain ⟨o,e,c,d⟩:=id st'
  exact ⟨u,rfl,go_of (s:={ s with heap:=h' }) e c d (by decide) ⟨x,H,I1,ru,⟨rfl,fun ys hy=>by rw [I.list_inj hy hq];exact hx⟩,st',fun b hb=>(hf b hb).1⟩⟩
 done:=by
  intro X hP hw hK hc i pins s σ H E I hf st hg
  subst hP hw hK
  obtain ⟨xs,hq,hx⟩:=hg
  obtain ⟨its,rv,p,hz⟩:=I.list hq
  obtain ⟨f0,f1,f2,f3,f4,f5⟩:=hf it (by simp)
  have hl:=rv.length
  exact Ycc (I.ok.hd hc) st p.isList (by simp;lia) fun h' eb=>⟨rfl,I.turned (t':=s.toks) (fun b o hb e=>eb b o hb e) f0 f1 f3 f4 f5⟩
 self:=fun _ _ _ _ _ st h=>wpAny_pyIter_listiter st h
theorem ZhO {P:Program} {w:World} {K:YFr} {tg:Expr} (a it:Addr):Turn P w K tg (Itt K a) [it] it (fun i h=>h.IsTupleIter it a i) where
 mem:=by simp
 obj := fun i h st b hb=>by
  have e:b=it:=by simpa using hb
  subst e
  obtain ⟨o,e,c,d⟩:=st
  exact ⟨o,e,fun v z=>by rw [d] at z;cases z⟩
 keep:=fun i h h' st k=>st.at fun o e=>k it (by simp) o e
 item:=by
  intro X hP hw hK hc i pins s σ H E I hf st hg
  subst hP hw hK
  obtain ⟨xs,x,hq,hx⟩:=hg
  obtain ⟨its,rv,p,hz⟩:=I.tuple hq
  obtain ⟨u,hu,ru⟩:=rv.get hx
  obtain ⟨f0,f1,f2,f3,f4,f5⟩:=hf it (by simp)
  refine wpAny_pyNext_tuple_item st (show s.heap.IsTuple a its.toArray from p) (x:=u) (by simpa using hu) fun h' st' sb=>?_
  have I1:Inv X pins σ H { s with heap:=h' }:=I.turned (t':=s.toks) (fun b o hb e=>(sb.2 b hb).trans e) f0 f1 f3 f4 f5
  obtain ⟨o,e,c,d⟩:=id st'
  exact ⟨u,rfl,go_of (s:={ s with heap:=h' }) e c d (by decide) ⟨x,H,I1,ru,⟨rfl,fun ys hy=>by rw [I.tuple_inj hy hq];exact hx⟩,st',fun b hb=>(hf b hb).1⟩⟩
 done:=by
  intro X hP hw hK hc i pins s σ H E I hf st hg
  subst hP hw hK
  obtain ⟨xs,hq,hx⟩:=hg
  obtain ⟨its,rv,p,hz⟩:=I.tuple hq
  obtain ⟨f0,f1,f2,f3,f4,f5⟩:=hf it (by simp)
  have hl:=rv.length
  exact wpAny_pyNext_tuple_end (I.ok.hd hc) st (show s.heap.IsTuple a its.toArray from p) (by simp;lia) fun h' eb=>⟨rfl,I.turned (t':=s.toks) (fun b o hb e=>eb b o hb e) f0 f1 f3 f4 f5⟩
 self:=fun _ _ _ _ _ st h=>wpAny_pyIter_tupleiter st h
theorem ZhS {P:Program} {w:World} {K:YFr} {tg:Expr} (it:Addr) (lo:Int) (n:Nat):Turn P w K tg (Itr lo n) [it] it (fun i h=>IsRangeIter h it (lo + (i:Nat) * 1) ((n:Int) - (i:Nat)) 1) where
 mem:=by simp
 obj := fun i h st b hb=>by
  have e:b=it:=by simpa using hb
  subst e
  exact ⟨_,st,fun v z=>by
   have z':Data.fields _=Data.cell v:=z
   cases z'⟩
 keep:=fun i h h' st k=>k it (by simp) _ st
 item:=by
  intro X hP hw hK hc i pins s σ H E I hf st hg
  subst hP hw hK
  obtain ⟨f0,f1,f2,f3,f4,f5⟩:=hf it (by simp)
  have W:=Walks.range (prog:=X.prog) (w:=X.w) (I.ok.hd hc) it lo 1 n
  refine W.item i s _ _ hg st fun v h' tk hv st' kk=>?_
  obtain ⟨t,rfl⟩:=hv
  have I1:Inv X pins σ H { s with heap:=h',toks:=tk }:=I.turned (fun b o hb e=>kk b o (by simpa using hb) e) f0 f1 f3 f4 f5
  refine ⟨_,rfl,go_of (s:={ s with heap:=h',toks:=tk }) (n:="range_iterator") st' rfl rfl (by decide) ⟨.int (lo + i),H,I1,⟨t,?_⟩,⟨rfl,rfl⟩,st',fun b hb=>(hf b hb).1⟩⟩
  rw [Int.mul_one]
 done:=by
  intro X hP hw hK hc i pins s σ H E I hf st hg
  subst hP hw hK
  obtain ⟨f0,f1,f2,f3,f4,f5⟩:=hf it (by simp)
  exact wpAny_pyNext_range_end (I.ok.hd hc) st (by have:n<=i:=hg;lia) fun h' eb=>⟨rfl,I.turned (t':=s.toks) (fun b o hb e=>eb b o hb e) f0 f1 f3 f4 f5⟩
 self:=fun _ _ _ _ _ st h=>wpAny_pyIter_rangeiter st h
section
variable {X:Cx} {tg:Expr}
theorem Zg7 {pins:List (Addr × Obj)} {σ:St} {H:Hp} {s:Shared} {R:It->Hp->Prop} {E:Value->Shared->Prop} {lo hi:Int} {t u v:Tok} {tk:Nat} (I:Inv X pins σ H s) (h1:-(2 ^ 62)<=lo) (h2:lo < 2 ^ 62) (h3:-(2 ^ 62)<=hi) (h4:hi < 2 ^ 62)
  (q:R (Itr lo (hi - lo).toNat) H):wpAny (model X.prog X.w) X.A (pyIter (.ref s.heap.objs.size)) (PIE X pins σ tg R) E { s with heap:=s.heap.push { cls:=.type "range",data:=.fields #[.int lo t,.int hi u,.int 1 v] },toks:=tk }:=by
 refine wpAny_pyIter_range (IsRange.new ..) (small_one h1 h2 h3 h4) ?_
 have I1:Inv X pins σ H { s with heap:=s.heap.push { cls:=.type "range",data:=.fields #[.int lo t,.int hi u,.int 1 v] },toks:=tk }:=I.kept fun b o e=>Yi _ e
 refine ⟨(s.heap.push { cls:=.type "range",data:=.fields #[.int lo t,.int hi u,.int 1 v] }).objs.size,[(s.heap.push { cls:=.type "range",data:=.fields #[.int lo t,.int hi u,.int 1 v] }).objs.size],_,_,H,rfl,
  I1.kept (t':=tk) fun b o e=>Yi _ e,ZhS _ lo (hi - lo).toNat,?_,fun b hb=>?_,q⟩
 ·have e1:lo + ((0:Nat):Int) * 1=lo:=by simp
  have e2:(((hi - lo).toNat:Nat):Int) - ((0:Nat):Int)=Builtin.Range.rangeSize lo hi 1:=by rw [rangeSize_one];split <;> lia
  show IsRangeIter _ _ (lo + ((0:Nat):Int) * 1) ((((hi - lo).toNat:Nat):Int) - ((0:Nat):Int)) 1
  rw [e1,e2]
  exact YI _ rfl
 ·have e:b=(s.heap.push { cls:=.type "range",data:=.fields #[.int lo t,.int hi u,.int 1 v] }).objs.size:=by simpa using hb
  subst e
  exact I1.fpOk (Yg _) (I1.hok.fresh (Yg _))
noncomputable def tFor (wi:TI) (g:TG) (tb:TS):TS:=fun D σ H=>wi σ H fun J H1=>∃ W:Nat->Nat->St->Hp->Prop,(∃ m,W 0 m σ H1)/\∀ i m σ H,W i m σ H ->
 (J.stop i H/\D.nx σ H)\/(J.go i H/\∃ N:St->Hp->Prop,(∀ σ' H',N σ' H'->∃ m',m' < m/\W (i + 1) m' σ' H')/\∀ x H',J.yld i H x H'->g x σ H' fun σ2 H2=>tb { D with nx:=N,ct:=N,bk:=D.nx } σ2 H2)
noncomputable def ZeA (fp:List Addr) (h:Heap):List (Addr × Obj):=fp.filterMap fun b=>(h.get? b).map fun o=>(b,o)
theorem Za0 {fp:List Addr} {h:Heap} {b:Addr} {o:Obj} (hb:b∈fp) (e:h.get? b=some o):(b,o)∈ZeA fp h:=Ycy.mpr ⟨b,hb,by rw [e];rfl⟩
theorem Zij {fp:List Addr} {h:Heap} {p:Addr × Obj} (hp:p∈ZeA fp h):p.1∈fp/\h.get? p.1=some p.2:=by
 obtain ⟨b,hb,e⟩:=Ycy.mp hp
 cases q:h.get? b with
 | none=>rw [q] at e;cases e
 | some o =>
  rw [q] at e
  have e':(b,o)=p:=Y0 e
  subst e'
  exact ⟨hb,q⟩
theorem Inv.pinned {pins:List (Addr × Obj)} {σ:St} {H:Hp} {s:Shared} {fp:List Addr} (I:Inv X pins σ H s) (hf:∀ b∈fp,FpOk X pins H b) (ho:∀ b∈fp,∃ o,s.heap.get? b=some o/\∀ v,o.data≠.cell v):Inv X (pins++ZeA fp s.heap) σ H s :=
 I.pins_of fun p hp=>(YK.mp hp).elim (fun z=>I.pin p (Yw _ z)) fun z=>by
  obtain ⟨hb,e⟩:=Zij z
  obtain ⟨f0,f1,f2,_⟩:=hf p.1 hb
  obtain ⟨o,e',d⟩:=ho p.1 hb
  rw [e] at e';cases e'
  exact ⟨e,f0,f1,f2,d⟩
theorem Inv.unpinned {pins pl:List (Addr × Obj)} {σ:St} {H:Hp} {s:Shared} (I:Inv X (pins++pl) σ H s):Inv X pins σ H s:=I.pins_of fun p hp=>I.pin p (Yw _ (Yau _ hp))
theorem Zbz {iter:Expr} {body:List Stmt} {wi:TI} {g:TG} {tb:TS} {pos:Pos} (hp:PassesOwn (model X.prog X.w) X.A X.env X.xe) (hc:X.calm=true) (hi:PI X tg iter wi) (hg:PG X tg g) (hb:PSs X body tb)
  (hs:∀ x,foldedSetIterable iter X.env x=pure x:=by intro _;rfl):PS X (.For tg iter body [] pos) (tFor wi g tb):=by
 intro pins s σ H D I h
 refine wpAny_For (thn (hi pins s σ H _ I h) fun v s1 h1=>thn h1 fun itv s2 h2=>?_) hs
 obtain ⟨it,fp,tn,J,H2,e,I2,T,st2,f2,W,⟨m0,w0⟩,turn⟩:=h2
 subst e
 have stat:∀ {H':Hp},(∀ b∈fp,H' b=none)->∀ b∈fp,FpOk X pins H' b:=fun hn b hb=>⟨hn b hb,(f2 b hb).2⟩
 refine codeAny_forLoop_any (fun n s'=>∃ i σ' H',Inv X pins σ' H' s'/\tn i s'.heap/\(∀ b∈fp,H' b=none)/\W i n σ' H') ?_ m0 ⟨0,σ,H2,I2,st2,fun b hb=>(f2 b hb).1,w0⟩
 rintro n s3 ⟨i,σ3,H3,I3,st3,fr3,w3⟩
 rcases turn i n σ3 H3 w3 with ⟨stop,qn⟩ | ⟨go,N,hN,step⟩
 ·refine YaD hp (thn (T.done X rfl rfl rfl hc i pins s3 σ3 H3 X.xe I3 (stat fr3) st3 stop) fun r s4 h_q=>?_)
  obtain ⟨hr,I4⟩:=h_q
  subst hr
  exact Yby ⟨σ3,H3,I4,qn⟩
 ·refine YaD hp (thn (T.item X rfl rfl rfl hc i pins s3 σ3 H3 X.xe I3 (stat fr3) st3 go) fun r s4 h_q=>?_)
  obtain ⟨u,hr,h4⟩:=h_q
  subst hr
  refine YaD hp (thn h4 fun _ s5 h_q=>?_)
  obtain ⟨x,H5,I5,r5,y5,st5,fr5⟩:=h_q
  have I5':=I5.pinned (stat fr5) (T.obj _ _ st5)
  refine YaD hp (thn (hg _ s5 σ3 H5 x u _ I5' r5 (step x H5 y5)) fun _ s6 h_q=>?_)
  obtain ⟨σ6,H6,I6,q6⟩:=h_q
  refine YaD hp (thn (hb _ s6 σ6 H6 _ I6 q6) fun f s7 q7=>?_)
  have again:∀ {σ7:St} {H7:Hp},Inv X (pins++ZeA fp s5.heap) σ7 H7 s7->N σ7 H7->∃ m,m < n/\∃ i σ' H',Inv X pins σ' H' s7/\tn i s7.heap/\(∀ b∈fp,H' b=none)/\W i m σ' H':=fun {σ7 H7} I7 n7=>by
   obtain ⟨m',hm,w7⟩:=hN σ7 H7 n7
   refine ⟨m',hm,i + 1,σ7,H7,I7.unpinned,T.keep _ _ _ st5 fun b hb o e=>(I7.pin (b,o) (Yw _ (Yw _ (Za0 hb e)))).1,fun b hb=>?_,w7⟩
   obtain ⟨o,e,d⟩:=T.obj _ _ st5 b hb
   exact (I7.pin (b,o) (Yw _ (Yw _ (Za0 hb e)))).2.1
  cases f with
  | next=>obtain ⟨σ7,H7,I7,n7⟩:=q7;exact again I7 n7
  | cont=>obtain ⟨σ7,H7,I7,n7⟩:=q7;exact again I7 n7
  | brk=>obtain ⟨σ7,H7,I7,q7⟩:=q7;exact ⟨σ7,H7,I7.unpinned,q7⟩
  | ret v=>obtain ⟨x7,σ7,H7,I7,r7,q7⟩:=q7;exact ⟨x7,σ7,H7,I7.unpinned,r7,q7⟩
end
noncomputable abbrev R2:=V->V->Hp->VK->Prop
noncomputable def OpR (X:Cx) (f:Value->Value->Sem Value) (r:R2):Prop :=
 ∀ (pins:List (Addr × Obj)) (s:Shared) (σ:St) (H:Hp) (x y:V) (v u:Value) (Q:VK),Inv X pins σ H s->RelV x v->RelV y u->r x y H Q ->
  wpAny (model X.prog X.w) X.A (f v u) (EP X pins σ Q) X.xe s
noncomputable def UnR (X:Cx) (f:Value->Sem Value) (r:V->Hp->VK->Prop):Prop :=
 ∀ (pins:List (Addr × Obj)) (s:Shared) (σ:St) (H:Hp) (x:V) (v:Value) (Q:VK),Inv X pins σ H s->RelV x v->r x H Q ->
  wpAny (model X.prog X.w) X.A (f v) (EP X pins σ Q) X.xe s
noncomputable def Zbi (X:Cx) (f:Value) (r:List V->Hp->VK->Prop):Prop :=
 ∀ (pins:List (Addr × Obj)) (s:Shared) (σ:St) (H:Hp) (xs:List V) (us:List Value) (Q:VK),Inv X pins σ H s->Vals xs us->r xs H Q ->
  wpAny (model X.prog X.w) X.A (call f us) (EP X pins σ Q) X.xe s
noncomputable def TruR (X:Cx) (r:V->Hp->(Bool->Hp->Prop)->Prop):Prop :=
 ∀ (pins:List (Addr × Obj)) (s:Shared) (σ:St) (H:Hp) (x:V) (v:Value) (Q:Bool->Hp->Prop),Inv X pins σ H s->RelV x v->r x H Q ->
  wpAny (model X.prog X.w) X.A (truthy v) (TP X pins σ Q) X.xe s
noncomputable def tOp (r:R2) (ta tb:TE):TE:=fun σ H Q=>ta σ H fun x H1=>tb σ H1 fun y H2=>r x y H2 Q
noncomputable def tUn (r:V->Hp->VK->Prop) (ta:TE):TE:=fun σ H Q=>ta σ H fun x H1=>r x H1 Q
noncomputable def rI (C:Int->Int->Prop) (g:Int->Int->V):R2:=fun x y H Q=>∃ i j,x=.int i/\y=.int j/\C i j/\Q (g i j) H
noncomputable def rI0 (g:Int->Int->V):R2:=fun x y H Q=>∃ i j,x=.int i/\y=.int j/\Q (g i j) H
noncomputable def rU (g:Int->V):V->Hp->VK->Prop:=fun x H Q=>∃ i,x=.int i/\Q (g i) H
section
variable {X:Cx} {a b c:Expr} {ta tb tc:TE} {pos:Pos}
theorem binT (ha:PE X a ta) (hb:PE X b tb) {pins:List (Addr × Obj)} {s:Shared} {σ:St} {H:Hp} {R:V->V->Hp->Prop} (I:Inv X pins σ H s)
  (h:ta σ H fun x H1=>tb σ H1 fun y H2=>R x y H2) {Q:Value->Shared->Prop} {f:Value->Value->Sem Value}
  (hf:∀ v u s2 x y H2,Inv X pins σ H2 s2->RelV x v->RelV y u->R x y H2->wpAny (model X.prog X.w) X.A (f v u) Q X.xe s2) :
  wpAny (model X.prog X.w) X.A (eval a X.env) (fun v s₁=>wpAny (model X.prog X.w) X.A (eval b X.env) (fun u s₂=>wpAny (model X.prog X.w) X.A (f v u) Q X.xe s₂) X.xe s₁) X.xe s:=by
 refine thn (ha pins s σ H _ I h) fun v s1 h_q=>?_
 obtain ⟨x,H1,I1,r1,q1⟩:=h_q
 refine thn (hb pins s1 σ H1 _ I1 q1) fun u s2 h_q=>?_
 obtain ⟨y,H2,I2,r2,q2⟩:=h_q
 exact hf v u s2 x y H2 I2 r1 r2 q2
theorem ZL {op:Operator} {r:R2} (ho:OpR X (binaryOp op) r) (ha:PE X a ta) (hb:PE X b tb):PE X (.BinOp a op b pos) (tOp r ta tb):=by
 intro pins s σ H Q I h
 exact wpAny_BinOp (binT ha hb I h fun v u s2 x y H2 I2 rx ry q=>ho pins s2 σ H2 x y v u Q I2 rx ry q)
theorem ZdB {op:UnaryOp} {r:V->Hp->VK->Prop} (ho:UnR X (unaryOp op) r) (ha:PE X a ta):PE X (.UnaryOp op a pos) (tUn r ta):=by
 intro pins s σ H Q I h
 exact UnaryOp_ (thn (ha pins s σ H _ I h) fun v s1 ⟨x,H1,I1,r1,q1⟩=>ho pins s1 σ H1 x v Q I1 r1 q1)
theorem opI {f:Value->Value->Sem Value} {C:Int->Int->Prop} {g:Int->Int->Int}
  (rule:∀ (i j:Int) (t u:Tok) (s:Shared) (Q:Value->Shared->Prop) (E:Value->Shared->Prop),C i j->Q (.int (g i j) s.toks) { s with toks:=s.toks + 1 }->wpAny (model X.prog X.w) X.A (f (.int i t) (.int j u)) Q E s) :
  OpR X f (rI C fun i j=>.int (g i j)):=by
 intro pins s σ H x y v u Q I rx ry h
 obtain ⟨i,j,rfl,rfl,hc,q⟩:=h
 obtain ⟨t,rfl⟩:=rx
 obtain ⟨t',rfl⟩:=ry
 exact rule i j t t' s _ _ hc ⟨.int (g i j),H,I.tok _,⟨_,rfl⟩,q⟩
theorem opI0 {f:Value->Value->Sem Value} {g:Int->Int->Int}
  (rule:∀ (i j:Int) (t u:Tok) (s:Shared) (Q:Value->Shared->Prop) (E:Value->Shared->Prop),Q (.int (g i j) s.toks) { s with toks:=s.toks + 1 }->wpAny (model X.prog X.w) X.A (f (.int i t) (.int j u)) Q E s) :
  OpR X f (rI0 fun i j=>.int (g i j)):=by
 intro pins s σ H x y v u Q I rx ry h
 obtain ⟨i,j,rfl,rfl,q⟩:=h
 obtain ⟨t,rfl⟩:=rx
 obtain ⟨t',rfl⟩:=ry
 exact rule i j t t' s _ _ ⟨.int (g i j),H,I.tok _,⟨_,rfl⟩,q⟩
theorem opB0 {f:Value->Value->Sem Value} {g:Int->Int->Bool}
  (rule:∀ (i j:Int) (t u:Tok) (s:Shared) (Q:Value->Shared->Prop) (E:Value->Shared->Prop),Q (.bool (g i j)) s->wpAny (model X.prog X.w) X.A (f (.int i t) (.int j u)) Q E s) :
  OpR X f (rI0 fun i j=>.bl (g i j)):=by
 intro pins s σ H x y v u Q I rx ry h
 obtain ⟨i,j,rfl,rfl,q⟩:=h
 obtain ⟨t,rfl⟩:=rx
 obtain ⟨t',rfl⟩:=ry
 exact rule i j t t' s _ _ ⟨.bl (g i j),H,I,rfl,q⟩
noncomputable def CDiv (i j:Int):Prop:=0 < j/\j < 1073741824
noncomputable def CPow (i j:Int):Prop:=0<=j/\j<=1000000/\i.natAbs < 2 ^ 64
noncomputable def CMul (i j:Int):Prop:=(-(2 ^ 64) < i/\i < 2 ^ 64)\/(-(2 ^ 64) < j/\j < 2 ^ 64)
theorem CMul.ok {i j:Int} (h:CMul i j):IntMulOk i j:=by
 rcases h with ⟨h1,h2⟩ | ⟨h1,h2⟩
 ·exact .of_left (intBits_le_64 h1 h2)
 ·exact .of_right (intBits_le_64 h1 h2)
theorem op_add:OpR X (binaryOp .Add) (rI0 fun i j=>.int (i + j)):=opI0 fun _ _ _ _ _ _ _ q=>add_int q
theorem op_sub:OpR X (binaryOp .Sub) (rI0 fun i j=>.int (i - j)):=opI0 fun _ _ _ _ _ _ _ q=>sub_int q
theorem op_fdiv:OpR X (binaryOp .FloorDiv) (rI CDiv fun i j=>.int (i / j)):=opI fun i j _ _ _ _ _ hc q=>by
 have h1:(0:Int) < j:=hc.1
 have h2:j < 1073741824:=hc.2
 exact floordiv_int (by lia) (by rw [Int.fdiv_eq_ediv_of_nonneg i (by lia)];exact q) (.inl (PyProof.noPylong_small (by lia)))
theorem op_mod:OpR X (binaryOp .Mod) (rI (fun _ j=>0 < j) fun i j=>.int (i % j)):=opI fun i j _ _ _ _ _ hc q=>by
 have h1:(0:Int) < j:=hc
 exact mod_int' (by lia) (by rw [Int.fmod_eq_emod_of_nonneg i (by lia)];exact q)
theorem op_pow:OpR X (binaryOp .Pow) (rI CPow fun i j=>.int (i ^ j.toNat)):=opI fun _ _ _ _ _ _ _ hc q=>pow_int_small hc.1 hc.2.1 hc.2.2 q
theorem unI {f:Value->Sem Value} {g:Int->Int}
  (rule:∀ (i:Int) (t:Tok) (s:Shared) (Q:Value->Shared->Prop) (E:Value->Shared->Prop),Q (.int (g i) s.toks) { s with toks:=s.toks + 1 }->wpAny (model X.prog X.w) X.A (f (.int i t)) Q E s) :
  UnR X f (rU fun i=>.int (g i)):=by
 intro pins s σ H x v Q I rx h
 obtain ⟨i,rfl,q⟩:=h
 obtain ⟨t,rfl⟩:=rx
 exact rule i t s _ _ ⟨.int (g i),H,I.tok _,⟨_,rfl⟩,q⟩
theorem Zb1:UnR X (unaryOp .USub) (rU fun i=>.int (-i)):=unI fun _ _ _ _ _ q=>neg_int q
end
noncomputable def scal:V->V->Bool
 | .non,.non=>true | .non,.int _=>true | .int _,.non=>true | .non,.bl _=>true | .bl _,.non=>true | .non,.str _=>true | .str _,.non=>true
 | .int _,.int _=>true | .bl _,.bl _=>true | .str _,.str _=>true | .byt _,.byt _=>true
 | .int _,.str _=>true | .str _,.int _=>true | .bl _,.str _=>true | .str _,.bl _=>true
 | _,_=>false
noncomputable def rEq:R2:=fun x y H Q=>scal x y=true/\Q (.bl (decide (x=y))) H
noncomputable def rNe:R2:=fun x y H Q=>scal x y=true/\Q (.bl (!decide (x=y))) H
theorem Zib {i j:Int}:decide (V.int i=V.int j)=(i == j):=by
 rw [YaQ]
 simp
theorem dec_bl {i j:Bool}:decide (V.bl i=V.bl j)=(i == j):=by
 rw [YaQ]
 simp
theorem ZiT {i j:Str}:decide (V.str i=V.str j)=(i == j):=by
 rw [YaQ]
 simp
theorem ZiW {i j:Array UInt8}:decide (V.byt i=V.byt j)=(i.toList == j.toList):=by
 rw [YaQ]
 cases i
 cases j
 simp
section
variable {X:Cx} {a b c:Expr} {ta tb tc:TE} {pos:Pos}
theorem Zaf {pins:List (Addr × Obj)} {σ:St} {H:Hp} {s:Shared} {Q:VK} {k k':Bool} (I:Inv X pins σ H s) (q:Q (.bl k) H) (e:k=k'):EP X pins σ Q (.bool k') s:=by
 subst e
 exact ⟨.bl k,H,I,rfl,q⟩
theorem op_eq:OpR X (compareOp .Eq) rEq:=by
 intro pins s σ H x y v u Q I rx ry h
 obtain ⟨hs,q⟩:=h
 cases x with
 | non =>
  cases rx
  cases y with
  | non=>cases ry;exact PySem.EqNone.eq_none_none (Zaf I q (by simp))
  | bl j=>cases ry;exact PySem.EqNone.eq_none_bool (Zaf I q (by simp))
  | int j=>obtain ⟨t',rfl⟩:=ry;exact PySem.EqNone.eq_none_int (Zaf I q (by simp))
  | str j=>obtain ⟨t',rfl⟩:=ry;exact PySem.EqNone.eq_none_str (Zaf I q (by simp))
  | _=>exact absurd (show false=true from hs) Yx
 | bl i =>
  cases rx
  cases y with
  | non=>cases ry;exact PySem.EqNone.eq_bool_none (Zaf I q (by simp))
  | bl j=>cases ry;exact eq_bool (Zaf I q dec_bl)
  | str j=>obtain ⟨t',rfl⟩:=ry;exact PySem.EqMixed.eq_bool_str (Zaf I q (by simp))
  | _=>exact absurd (show false=true from hs) Yx
 | int i =>
  obtain ⟨t,rfl⟩:=rx
  cases y with
  | non=>cases ry;exact PySem.EqNone.eq_int_none (Zaf I q (by simp))
  | int j=>obtain ⟨t',rfl⟩:=ry;exact eq_int (Zaf I q Zib)
  | str j=>obtain ⟨t',rfl⟩:=ry;exact PySem.EqMixed.eq_int_str (Zaf I q (by simp))
  | _=>exact absurd (show false=true from hs) Yx
 | str i =>
  obtain ⟨t,rfl⟩:=rx
  cases y with
  | non=>cases ry;exact PySem.EqNone.eq_str_none (Zaf I q (by simp))
  | bl j=>cases ry;exact PySem.EqMixed.eq_str_bool (Zaf I q (by simp))
  | int j=>obtain ⟨t',rfl⟩:=ry;exact PySem.EqMixed.eq_str_int (Zaf I q (by simp))
  | str j=>obtain ⟨t',rfl⟩:=ry;exact eq_str (Zaf I q ZiT)
  | _=>exact absurd (show false=true from hs) Yx
 | byt i =>
  obtain ⟨t,rfl⟩:=rx
  cases y with
  | byt j=>obtain ⟨t',rfl⟩:=ry;exact PySem.W.eq_bytes (Zaf I q ZiW)
  | _=>exact absurd (show false=true from hs) Yx
 | _=>cases y <;> exact absurd (show false=true from hs) Yx
theorem op_ne:OpR X (compareOp .NotEq) rNe:=by
 intro pins s σ H x y v u Q I rx ry h
 obtain ⟨hs,q⟩:=h
 cases x with
 | non =>
  cases rx
  cases y with
  | non=>cases ry;exact PySem.EqNone.ne_none_none (Zaf I q (by simp))
  | bl j=>cases ry;exact PySem.EqNone.ne_none_bool (Zaf I q (by simp))
  | int j=>obtain ⟨t',rfl⟩:=ry;exact PySem.EqNone.ne_none_int (Zaf I q (by simp))
  | str j=>obtain ⟨t',rfl⟩:=ry;exact PySem.EqNone.ne_none_str (Zaf I q (by simp))
  | _=>exact absurd (show false=true from hs) Yx
 | bl i =>
  cases rx
  cases y with
  | non=>cases ry;exact PySem.EqNone.ne_bool_none (Zaf I q (by simp))
  | bl j=>cases ry;exact ne_bool (Zaf I q (congrArg not dec_bl))
  | str j=>obtain ⟨t',rfl⟩:=ry;exact PySem.EqMixed.ne_bool_str (Zaf I q (by simp))
  | _=>exact absurd (show false=true from hs) Yx
 | int i =>
  obtain ⟨t,rfl⟩:=rx
  cases y with
  | non=>cases ry;exact PySem.EqNone.ne_int_none (Zaf I q (by simp))
  | int j=>obtain ⟨t',rfl⟩:=ry;exact ne_int (Zaf I q (congrArg not Zib))
  | str j=>obtain ⟨t',rfl⟩:=ry;exact PySem.EqMixed.ne_int_str (Zaf I q (by simp))
  | _=>exact absurd (show false=true from hs) Yx
 | str i =>
  obtain ⟨t,rfl⟩:=rx
  cases y with
  | non=>cases ry;exact PySem.EqNone.ne_str_none (Zaf I q (by simp))
  | bl j=>cases ry;exact PySem.EqMixed.ne_str_bool (Zaf I q (by simp))
  | int j=>obtain ⟨t',rfl⟩:=ry;exact PySem.EqMixed.ne_str_int (Zaf I q (by simp))
  | str j=>obtain ⟨t',rfl⟩:=ry;exact ne_str (Zaf I q (congrArg not ZiT))
  | _=>exact absurd (show false=true from hs) Yx
 | byt i =>
  obtain ⟨t,rfl⟩:=rx
  cases y with
  | byt j=>obtain ⟨t',rfl⟩:=ry;exact PySem.W.ne_bytes (Zaf I q (congrArg not ZiW))
  | _=>exact absurd (show false=true from hs) Yx
 | _=>cases y <;> exact absurd (show false=true from hs) Yx
theorem op_lt:OpR X (compareOp .Lt) (rI0 fun i j=>.bl (decide (i < j))):=opB0 fun _ _ _ _ _ _ _ q=>lt_int q
theorem op_gt:OpR X (compareOp .Gt) (rI0 fun i j=>.bl (decide (j < i))):=opB0 fun _ _ _ _ _ _ _ q=>gt_int q
theorem Zil:OpR X (compareOp .Lt) (fun x y H Q=>∃ i j,x=.str i/\y=.str j/\Q (.bl (decide (i.cps.toList < j.cps.toList))) H):=by
 intro pins s σ H x y v u Q I rx ry h
 obtain ⟨i,j,rfl,rfl,q⟩:=h
 obtain ⟨t,rfl⟩:=rx
 obtain ⟨t',rfl⟩:=ry
 exact lt_str (Zaf I q rfl)
theorem Zh2:OpR X (compareOp .In) (fun x y H Q=>∃ i j,x=.str i/\y=.str j/\Q (.bl (!(Builtin.Str.occurrences j i 0 j.length 1).isEmpty)) H):=by
 intro pins s σ H x y v u Q I rx ry h
 obtain ⟨i,j,rfl,rfl,q⟩:=h
 obtain ⟨t,rfl⟩:=rx
 obtain ⟨t',rfl⟩:=ry
 exact in_str (Zaf I q rfl)
theorem OpR.or {f:Value->Value->Sem Value} {r r':R2} (h:OpR X f r) (h':OpR X f r'):OpR X f (fun x y H Q=>r x y H Q\/r' x y H Q):=by
 intro pins s σ H x y v u Q I rx ry q
 rcases q with q | q
 ·exact h pins s σ H x y v u Q I rx ry q
 ·exact h' pins s σ H x y v u Q I rx ry q
theorem Z2 (b:Expr) {op:CmpOp} (h:op≠.In:=by decide) (h2:op≠.NotIn:=by decide):behindInMarks op b=false:=by
 have e1:(op == CmpOp.In)=false:=by cases op <;> first | rfl | exact absurd rfl h
 have e2:(op == CmpOp.NotIn)=false:=by cases op <;> first | rfl | exact absurd rfl h2
 cases b <;> simp [behindInMarks,e1,e2]
theorem Zf1 {op:CmpOp} {r:R2} (ho:OpR X (compareOp op) r) (ha:PE X a ta) (hb:PE X b tb) (hm:behindInMarks op b=false):PE X (.Compare a [op] [b] pos) (tOp r ta tb):=by
 intro pins s σ H Q I h
 exact wpAny_Compare1 (binT ha hb I h fun v u s2 x y H2 I2 rx ry q=>ho pins s2 σ H2 x y v u Q I2 rx ry q) hm
noncomputable def tTest (t:TE):TT:=fun σ H Q=>t σ H fun x H'=>∃ k,x=.bl k/\Q k H'
theorem Zs {op:CmpOp} {r:R2} (ho:OpR X (compareOp op) r) (ha:PE X a ta) (hb:PE X b tb) (hm:behindInMarks op b=false):PT X (.Compare a [op] [b] pos) (tTest (tOp r ta tb)):=by
 intro pins s σ H Q I h
 refine wpAny_isTrue_Compare1 (thn (ha pins s σ H _ I h) fun v s1 ⟨x,H1,I1,r1,q1⟩=>thn (hb pins s1 σ H1 _ I1 q1) fun u s2 ⟨y,H2,I2,r2,q2⟩ =>
  thn (ho pins s2 σ H2 x y v u _ I2 r1 r2 q2) fun c s3 ⟨z,H3,I3,r3,k,e,q3⟩=>?_) hm
 subst e
 cases r3
 exact Yaz ⟨H3,I3,q3⟩
noncomputable def TruV (K:YFr) (x:V) (H:Hp) (k:Bool):Prop :=
 match x with
 | .non=>k=false
 | .bl b=>k=b
 | .int i=>k=(i != 0)
 | .str y=>y.length<=sizeLine/\k=((y.length:Int) != 0)
 | .byt y=>y.size<=sizeLine/\k=((y.size:Int) != 0)
 | .ref p=>(∃ xs,SqL K H p xs/\k=!xs.isEmpty)\/(∃ xs,SqT K H p xs/\k=!xs.isEmpty)\/∃ kvs,H p=some (.dK kvs)/\k=!kvs.isEmpty
 | _=>False
theorem Zhn {κ:Type} {kvs:List (κ × V)} {vs:List (κ × Value)} (r:KV kvs vs):(!vs.isEmpty)=!kvs.isEmpty:=by
 cases r <;> rfl
theorem ZdP {xs:List V} {its:List Value} (r:Vals xs its):(!its.toArray.isEmpty)=!xs.isEmpty:=by
 cases r <;> simp
theorem ZcT:(sizeLine:Nat) < 2 ^ 63:=by rw [Yaa];decide
theorem tru_ok:TruR X (fun x H Q=>∃ k,TruV X.K x H k/\Q k H):=by
 intro pins s σ H x v Q I rx h
 obtain ⟨k,e,q⟩:=h
 have hl:=ZcT
 have hs:sizeLine=16777216:=Yaa
 cases x with
 | non =>
  cases rx
  have e':k=false:=e
  subst e'
  exact truthy_none ⟨H,I,q⟩
 | bl b =>
  cases rx
  have e':k=b:=e
  subst e'
  exact Yaz ⟨H,I,q⟩
 | int i =>
  obtain ⟨t,rfl⟩:=rx
  have e':k=(i != 0):=e
  subst e'
  exact PySem.P.truthy_int ⟨H,I,q⟩
 | str y =>
  obtain ⟨t,rfl⟩:=rx
  obtain ⟨hy,e'⟩:y.length<=sizeLine/\k=((y.length:Int) != 0):=e
  subst e'
  exact PySem.P.truthy_str (by lia) ⟨H,I.tok _,q⟩
 | byt y =>
  obtain ⟨t,rfl⟩:=rx
  obtain ⟨hy,e'⟩:y.size<=sizeLine/\k=((y.size:Int) != 0):=e
  subst e'
  exact PySem.W.truthy_bytes (by lia) ⟨H,I.tok _,q⟩
 | ref p =>
  cases rx
  have e':(∃ xs,SqL X.K H p xs/\k=!xs.isEmpty)\/(∃ xs,SqT X.K H p xs/\k=!xs.isEmpty)\/∃ kvs,H p=some (.dK kvs)/\k=!kvs.isEmpty:=e
  rcases e' with ⟨xs,hx,e'⟩ | ⟨xs,hx,e'⟩ | ⟨kvs,hx,e'⟩
  ·subst e'
   obtain ⟨its,r,pl,hz⟩:=I.list hx
   have hlen:=r.length
   exact wpAny_truthy_list pl.isList (by simp only [Yj];lia) ⟨H,I.tok _,by rw [ZdP r];exact q⟩
  ·subst e'
   obtain ⟨its,r,pl,hz⟩:=I.tuple hx
   have hlen:=r.length
   exact truthy_tuple pl (by simp only [Yj];lia) ⟨H,I.tok _,by rw [ZdP r];exact q⟩
  ·subst e'
   obtain ⟨hz,hS,vs,r,m⟩:kvs.length<=sizeLine/\(p == sysModules)=false/\∃ vs,KV kvs vs/\s.heap.DictOf (Zfy X.prog X.w) p vs:=I.hok p _ hx
   have hlen:kvs.length=vs.length:=Paired.length r
   exact wpAny_truthy_dict hS m (by lia) ⟨H,I.tok _,by rw [Zhn r];exact q⟩
 | _=>exact (show False from e).elim
theorem pt_truth (ha:PE X a ta) (he:∀ whole,isTrue a X.env whole=(do let v <- whole;standAt a.pos;holding [v] (truthy v))) :
  PT X a (fun σ H Q=>ta σ H fun x H'=>∃ k,TruV X.K x H' k/\Q k H'):=by
 intro pins s σ H Q I h
 exact isTrue_plain (thn (ha pins s σ H _ I h) fun v s1 ⟨x,H1,I1,r1,q1⟩=>tru_ok pins s1 σ H1 x v Q I1 r1 q1) (he _)
theorem ZhK:OpR X (binaryOp .Add) (fun x y H Q=>∃ i j,x=.str i/\y=.str j/\i.length + j.length<=sizeLine/\Q (.str (i++j)) H):=by
 intro pins s σ H x y v u Q I rx ry h
 obtain ⟨i,j,rfl,rfl,hz,q⟩:=h
 obtain ⟨t,rfl⟩:=rx
 obtain ⟨t',rfl⟩:=ry
 exact add_str (fun t' tk=>⟨.str (i++j),H,I.tok _,⟨_,rfl⟩,q⟩) hz
theorem vals1 {x:V} {us:List Value} (r:Vals [x] us):∃ u,us=[u]/\RelV x u:=by
 cases r with
 | cons r1 r2=>cases r2;exact ⟨_,rfl,r1⟩
theorem vals2 {x y:V} {us:List Value} (r:Vals [x,y] us):∃ u w',us=[u,w']/\RelV x u/\RelV y w':=by
 cases r with
 | cons r1 r2 =>
  cases r2 with
  | cons r3 r4=>cases r4;exact ⟨_,_,rfl,r1,r3⟩
theorem Zic (hc:X.calm=true):Zbi X (.builtin "max") (fun xs H Q=>∃ i j,xs=[.int i,.int j]/\Q (.int (if j > i then j else i)) H):=by
 intro pins s σ H xs us Q I r h
 obtain ⟨i,j,rfl,q⟩:=h
 obtain ⟨u,w',rfl,⟨t,rfl⟩,⟨t',rfl⟩⟩:=vals2 r
 refine max_two_ints (I.ok.hd hc) fun h' tk k=>⟨_,H,I.kept k,?_,q⟩
 by_cases hj:j > i
 ·rw [if_pos hj,if_pos hj];exact ⟨_,rfl⟩
 ·rw [if_neg hj,if_neg hj];exact ⟨_,rfl⟩
end
structure ObjM (h:Heap) (x dx C:Addr) (mA:Str->Option Value):Prop where
 obj:h.get? x=some (PySem.W.instObj C dx)
 ns:h.Ns1 dx mA
 ne:dx≠x
theorem ZjJ {h:Heap} {dx:Addr} {mA:Str->Option Value} (n:h.Ns1 dx mA):∃ od,h.get? dx=some od/\∀ name,PySem.W.lookIn name od=some (mA name):=by
 obtain ⟨o,es,ep,ho,hd,hk,_,hm⟩:=n
 refine ⟨o,ho,fun name=>?_⟩
 have e:=hm name
 unfold nsFind findBy at e
 rw [<- Array.find?_toList] at e
 unfold PySem.W.lookIn
 rw [hd]
 dsimp only
 split
 ·rename_i y q
  rw [q] at e
  exact congrArg some e
 ·rename_i q
  rw [q] at e
  have a:es.toList.any (·.refKey)=false:=by
   rw [List.any_eq_false]
   intro y hy
   obtain ⟨z,t,hkey⟩:=hk y (Array.mem_toList_iff.mp hy)
   simp [DictEntry.refKey,hkey]
  have a':¬ es.toList.any (·.refKey)=true:=by rw [a];exact Yx
  rw [if_neg a']
  exact congrArg some e
theorem ObjM.look {h:Heap} {x dx C:Addr} {mA:Str->Option Value} (I:ObjM h x dx C mA):∃ od,PySem.W.InstAt h x (PySem.W.instObj C dx) C (some od)/\∀ name,PySem.W.lookIn name od=some (mA name) :=
 let ⟨od,ho,hl⟩:=ZjJ I.ns
 ⟨od,⟨I.obj,rfl,rfl,ho⟩,hl⟩
section
variable {P:Program} {w:World} {H H':Hp} {h h':Heap} {a C dx:Addr} {fs fs':List (Str × V)}
theorem Zd3 (hok:HOk P w H h) (e:H a=some (.ins C dx fs)):∃ mA,ObjM h a dx C mA/\(∀ f,RelO (fs.lookup f) (mA f))/\PySem.Within mA (fs.map (·.1))/\fs.length<=1000/\H dx=some (.own a):=by
 obtain ⟨d,z,ne,ob,mA,n,r,q⟩:=(show Zbo P w H h a (.ins C dx fs) from hok a _ e)
 exact ⟨mA,⟨ob,n,ne⟩,r,q,z,d⟩
end
structure Cls (K:YFr) (C:Addr):Prop where
 pg:PySem.W.plainGet K C Str.empty=true
 hd:PySem.W.hasDictIn K C=true
 po:PySem.W.plainOver K C=true
 sa:PySem.W.findIn K (.ref C) "__setattr__"=some (some (.builtin "object.__setattr__"))
theorem Cls.get {K:YFr} {C:Addr} (c:Cls K C) (f:Str):PySem.W.plainGet K C f=true:=c.pg
section
variable {X:Cx} {pins:List (Addr × Obj)} {σ:St} {H:Hp} {s:Shared} {A:Around} {E:Value->Shared->Prop} {Q:Value->Shared->Prop} {c:Value} {b:Bool}
inductive TyOf (K:YFr) (H:Hp):V->Value->Prop where
 | non:TyOf K H .non (.type "NoneType")
 | bl (x:Bool):TyOf K H (.bl x) (.type "bool")
 | int (i:Int):TyOf K H (.int i) (.type "int")
 | str (x:Str):TyOf K H (.str x) (.type "str")
 | flt (x:UInt64):TyOf K H (.flt x) (.type "float")
 | lst {a:Addr} {xs:List V} (e:H a=some (.lst xs)):TyOf K H (.ref a) (.type "list")
 | frz {a:Addr} {o:Obj} {xs:List V} (e:H a=some (.frz o (.lst xs))):TyOf K H (.ref a) (.type "list")
 | tup {a:Addr} {xs:List V} (e:H a=some (.tup xs)):TyOf K H (.ref a) (.type "tuple")
 | dK {a:Addr} {kvs:List (Key × V)} (e:H a=some (.dK kvs)):TyOf K H (.ref a) (.type "dict")
 | dT {a:Addr} {kvs:List (List Key × V)} (e:H a=some (.dT kvs)):TyOf K H (.ref a) (.type "dict")
 | ins {a C dx:Addr} {fs:List (Str × V)} (e:H a=some (.ins C dx fs)) (cl:Cls K C) (ha:PySem.W.findIn K (.ref C) "__class__"=some (some (.builtin "object.__class__")))
   (hn:PySem.W.specialIn K (.builtin "object.__class__") "__get__"=some (some (.builtin "getset_descriptor.__get__"))) (htk:PySem.W.takesIn K (.builtin "object.__class__")=some true)
   (hm:PySem.W.mroIn K C (.type "object")=some true):TyOf K H (.ref a) (.ref C)
theorem Zig {x:V} {u t:Value} (I:Inv X pins σ H s) (rx:RelV x u) (ty:TyOf X.K H x t) (e:PySem.W.kitOne X.K t c=some b) (h:∀ tk,Q (.bool b) { s with toks:=tk }) :
  wpAny (model X.prog X.w) A (call (.builtin "isinstance") [u,c]) Q E s:=by
 cases ty with
 | non=>cases (show u=Value.none from rx);exact Yag PySem.W.kitx_none I.kIn True.intro e (fun z=>nomatch z) h
 | bl y=>cases (show u=Value.bool y from rx);exact Yag PySem.W.kitx_bool I.kIn True.intro e (fun z=>nomatch z) h
 | int i=>obtain ⟨t,q⟩:=(show ∃ t,u=Value.int i t from rx);cases q;exact Yag PySem.W.kitx_int I.kIn True.intro e (fun z=>nomatch z) h
 | str y=>obtain ⟨t,q⟩:=(show ∃ t,u=Value.str y t from rx);cases q;exact Yag PySem.W.kitx_str I.kIn True.intro e (fun z=>nomatch z) h
 | flt y=>obtain ⟨t,q⟩:=(show ∃ t,u=Value.float y t from rx);cases q;exact Yag PySem.W.kitx_float I.kIn True.intro e (fun z=>nomatch z) h
 | @lst a xs ea =>
  cases (show u=Value.ref a from rx)
  obtain ⟨_,_,n,_,h1⟩:=(show Zbo X.prog X.w H s.heap a (.lst xs) from I.hok a _ ea)
  exact Yag YcG I.kIn ⟨_,h1,rfl⟩ e (fun z=>nomatch z) h
 | @frz a ob xs ea =>
  cases (show u=Value.ref a from rx)
  obtain ⟨_,_,_,n,_,h1⟩:=(show Zbo X.prog X.w H s.heap a (.frz ob (.lst xs)) from I.hok a _ ea)
  exact Yag YcG I.kIn ⟨_,h1,rfl⟩ e (fun z=>nomatch z) h
 | @tup a xs ea =>
  cases (show u=Value.ref a from rx)
  obtain ⟨_,_,_,p⟩:=(show Zbo X.prog X.w H s.heap a (.tup xs) from I.hok a _ ea)
  obtain ⟨o,h1,h2,_⟩:=p
  exact Yag Ycz I.kIn ⟨o,h1,h2⟩ e (fun z=>nomatch z) h
 | @dK a kvs ea =>
  cases (show u=Value.ref a from rx)
  obtain ⟨_,_,vs,_,p⟩:=(show Zbo X.prog X.w H s.heap a (.dK kvs) from I.hok a _ ea)
  obtain ⟨o,es,ep,h1,h2,_⟩:=p
  exact Yag YcH I.kIn ⟨o,h1,h2.1⟩ e (fun z=>nomatch z) h
 | @dT a kvs ea =>
  cases (show u=Value.ref a from rx)
  obtain ⟨_,_,xs,_,o,es,ep,h1,h2,_⟩:=(show Zbo X.prog X.w H s.heap a (.dT kvs) from I.hok a _ ea)
  exact Yag YcH I.kIn ⟨o,h1,h2.1⟩ e (fun z=>nomatch z) h
 | @ins a C dx fs ea cl ha hn htk hm =>
  cases (show u=Value.ref a from rx)
  obtain ⟨mA,O,_⟩:=Zd3 I.hok ea
  obtain ⟨od,J,_⟩:=O.look
  exact Yag (PySem.W.kitx_own (cl.get _) cl.hd ha hn htk hm) I.kIn J e (fun z=>nomatch z) h
end
structure Room (k:Nat) (A:Around):Prop where
 hd:A.handled=none
 dp:A.depth + 3 * k + 5 < recursionLimit
 un:A.units + 16 * k + 200 < cLine
theorem Room.mono {j k:Nat} {A:Around} (r:Room k A) (h:j<=k):Room j A:=⟨r.hd,by have:=r.dp;lia,by have:=r.un;lia⟩
theorem Room.deeper {k:Nat} {A:Around} (r:Room (k + 1) A) (env:Env):Room k (A.deeper env) :=
 ⟨r.hd,by have:=r.dp;show A.depth + 1 + 3 * k + 5 < _;lia,by have:=r.un;show A.units + 3 + 16 * k + 200 < _;lia⟩
theorem Room.in1 {k:Nat} {A:Around} (r:Room (k + 1) A):Room k A.in1 :=
 ⟨r.hd,by have:=r.dp;show A.depth + 3 * k + 5 < _;lia,by have:=r.un;show A.units + 1 + 16 * k + 200 < _;lia⟩
theorem Room.depth {k:Nat} {A:Around} (r:Room k A):A.depth < recursionLimit:=by have:=r.dp;lia
noncomputable def tNil:TA:=fun _ H Q=>Q [] H
noncomputable def Zcy (ta:TE) (tr:TA):TA:=fun σ H Q=>ta σ H fun x H1=>tr σ H1 fun xs H2=>Q (x::xs) H2
section
variable {X:Cx} {e:Expr} {es:List Expr} {te:TE} {t:TA} {pos:Pos}
theorem Ze:PA X [] tNil:=fun _ _ _ _ H Q I h=>YbJ ⟨[],H,I,.nil,h⟩
theorem Za (ha:PE X e te) (hr:PA X es t) (hs:starEach (e::es) X.env=(false,eval e X.env)::starEach es X.env:=by rfl):PA X (e::es) (Zcy te t):=by
 intro pos pins s σ H Q I h
 rw [hs]
 show wpAny _ _ (spliced ((false,eval e X.env)::backTo pos (starEach es X.env))) _ _ s
 refine YbG (thn (ha pins s σ H _ I h) fun u s1 h_q=>?_)
 obtain ⟨x,H1,I1,r1,q1⟩:=h_q
 exact thn (hr pos pins s1 σ H1 _ I1 q1) fun us s2 ⟨xs,H2,I2,r2,q2⟩=>⟨x::xs,H2,I2,.cons r1 r2,q2⟩
noncomputable def tTup (t:TA):TE:=fun σ H Q=>t σ H fun xs H1=>xs.length<=sizeLine/\∀ p,H1 p=none->Q (.ref p) (upd H1 p (.tup xs))
noncomputable def tLst (t:TA):TE:=fun σ H Q=>t σ H fun xs H1=>xs.length<=sizeLine/\∀ p,H1 p=none->Q (.ref p) (upd H1 p (.lst xs))
theorem ZW {x1} (h:PA X es t):PE X (.Tuple es x1 pos) (tTup t):=by
 intro pins s σ H Q I hq
 refine wpAny_Tuple_spliced (thn (h pos pins s σ H _ I hq) fun us s1 ⟨xs,H1,I1,r,z,q⟩=>⟨by rw [<- r.length];exact z,?_⟩)
 have hf:H1 s1.heap.objs.size=none:=I1.hok.fresh (Yg _)
 refine ⟨.ref s1.heap.objs.size,upd H1 s1.heap.objs.size (.tup xs),I1.laid (t':=s1.toks) (fun b u e=>Yi _ e) (Yg _) ?_,rfl,q _ hf⟩
 exact ⟨z,us,r,⟨_,YI _ rfl,rfl,_,rfl⟩⟩
theorem ZaD (h:PA X es t):PE X (.List es pos) (tLst t):=by
 intro pins s σ H Q I hq
 refine wpAny_List_spliced (thn (h pos pins s σ H _ I hq) fun us s1 ⟨xs,H1,I1,r,z,q⟩=>⟨by rw [<- r.length];exact z,?_⟩)
 have hf:H1 s1.heap.objs.size=none:=I1.hok.fresh (Yg _)
 refine ⟨.ref s1.heap.objs.size,upd H1 s1.heap.objs.size (.lst xs),I1.laid (t':=s1.toks) (fun b u e=>Yi _ e) (Yg _) ?_,rfl,q _ hf⟩
 exact ⟨z,us,0,r,YI _ rfl⟩
end
noncomputable abbrev Sp:=List V->Hp->VK->XK->Prop
noncomputable abbrev CXT:=List Env->Hp->Shared->XK->Value->Shared->Prop
structure Env0 (P:Program) (w:World) (K:YFr) (mg:Str->Option Value) (base:Heap) (A:Around) (outer:List Env) (s:Shared) (H:Hp):Prop where
 frames:A.frames=some outer
 mod:Mod K mg base
 bs:∀ b o,base.get? b=some o->s.heap.get? b=some o/\H b=none
 bsz:base.objs.size<=s.heap.objs.size
 funs:s.heap.FunFrames base outer
 frf:∀ b∈frs outer,H b=none
 hok:HOk P w H s.heap
 bare:AllBare s.gens
noncomputable def CE (outer:List Env) (P:Program) (w:World) (H:Hp) (s:Shared) (Q:VK) (u:Value) (s':Shared):Prop :=
 ∃ v H',s'.os=s.os/\AllBare s'.gens/\Un (frs outer) [] H H' s.heap s'.heap/\HOk P w H' s'.heap/\RelV v u/\Q v H'
noncomputable def CR (CX:CXT) (outer:List Env) (P:Program) (w:World) (H:Hp) (s:Shared) (Q:VK) (E:XK) (r:Result) (s':Shared):Prop :=
 match r with
 | .ok (.ret u)=>CE outer P w H s Q u s'
 | .ok _=>False
 | .error e=>CX outer H s E e s'
structure FnOk (P:Program) (w:World) (K:YFr) (mg:Str->Option Value) (base:Heap) (CX:CXT) (k:Nat) (f:Addr) (fd:FuncData) (ps:List Str) (sp:Sp):Prop where
 len:∀ vs H Q E,sp vs H Q E->vs.length=ps.length
 run : ∀ (A:Around) (outer:List Env) (s:Shared) (H:Hp) (args:Args) (us:List Value) (vs:List V) (Q:VK) (E:XK),Room k A->Env0 P w K mg base A outer s H->BindsTo s fd args (ps.zip us)->Vals vs us->sp vs H Q E ->
  codeAny (model P w) A (.call (.ref f) args) (CR CX outer P w H s Q E) s
theorem FnOk.mono {P:Program} {w:World} {K:YFr} {mg:Str->Option Value} {base:Heap} {CX:CXT} {j k:Nat} {f:Addr} {fd:FuncData} {ps:List Str} {sp:Sp} (F:FnOk P w K mg base CX j f fd ps sp) (h:j<=k) :
  FnOk P w K mg base CX k f fd ps sp:=⟨F.len,fun A outer s H args us vs Q E hr=>F.run A outer s H args us vs Q E (hr.mono h)⟩
theorem FnOk.imp {P:Program} {w:World} {K:YFr} {mg:Str->Option Value} {base:Heap} {CX:CXT} {k:Nat} {f:Addr} {fd:FuncData} {ps:List Str} {sp sp':Sp} (F:FnOk P w K mg base CX k f fd ps sp)
  (h:∀ vs H Q E,sp' vs H Q E->sp vs H Q E):FnOk P w K mg base CX k f fd ps sp' :=
 ⟨fun vs H Q E q=>F.len vs H Q E (h _ _ _ _ q),fun A outer s H args us vs Q E hr he hb hv hs=>F.run A outer s H args us vs Q E hr he hb hv (h _ _ _ _ hs)⟩
section
variable {X:Cx} {pins:List (Addr × Obj)} {σ:St} {H:Hp} {s s':Shared}
theorem Inv.env0 (I:Inv X pins σ H s):Env0 X.prog X.w X.K X.mg X.base X.A X.stack s H :=
 ⟨I.ok.frames,I.ok.mod,I.bs,YE I.ok.bsz I.sz,I.stack,I.stkFree,I.hok,I.bare⟩
theorem Inv.after {Q:VK} {u:Value} (I:Inv X pins σ H s) (h:CE X.stack X.prog X.w H s Q u s'):EP X pins σ Q u s':=by
 obtain ⟨v,H',os,bare,un,hok,r,q⟩:=h
 obtain ⟨hh,g,d,t,os'⟩:=s'
 obtain rfl:os'=s.os:=os
 exact ⟨v,H',I.call (h':=hh) (g':=g) (d':=d) (t':=t) (ch:=[]) un hok bare (fun b z=>absurd z (by simp)),r,q⟩
end
noncomputable def tCall (sp:Sp) (dvs:List V) (E:XK) (t:TA):TE:=fun σ H Q=>t σ H fun vs H1=>sp (vs++dvs) H1 Q E
noncomputable def Zao (K:YFr) (fd:FuncData) (ps:List Str) (ds:List Value):Prop :=
 ∀ (s:Shared) (us:List Value),K.In s.heap->(us++ds).length=ps.length->BindsTo s fd ⟨us,[]⟩ (ps.zip (us++ds))
theorem Zao.all {K:YFr} {fd:FuncData} {ps:List Str} (h:∀ us:List Value,us.length=ps.length->bindArgs fd ⟨us,[]⟩=pure (ps.zip us)):Zao K fd ps []:=fun s us _ hl=>by
 rw [Y8] at hl ⊢
 exact .of_eq (h us hl)
noncomputable def Zf9 (CX:CXT) (X:Cx) (E:XK):Prop:=∀ (pins:List (Addr × Obj)) (σ:St) (H:Hp) (s:Shared) (e:Value) (s':Shared),Inv X pins σ H s->CX X.stack H s E e s'->X.xe e s'
section
variable {X:Cx} {CX:CXT} {k:Nat} {f C:Addr} {fd:FuncData} {ps:List Str} {sp:Sp} {dvs:List V} {ds:List Value} {E:XK} {x m:Str} {p pos apos:Pos} {e o:Expr} {es:List Expr} {ta:TE} {t:TA}
theorem run_fn {pins:List (Addr × Obj)} {σ:St} {H:Hp} {s:Shared} {Q:VK} {us:List Value} {vs:List V} (F:FnOk X.prog X.w X.K X.mg X.base CX k f fd ps sp) (hr:Room k X.A) (hb:Zao X.K fd ps ds) (hd:Vals dvs ds) (hx:Zf9 CX X E)
  (I:Inv X pins σ H s) (r:Vals vs us) (h:sp (vs++dvs) H Q E):wpAny (model X.prog X.w) X.A (call (.ref f) us) (EP X pins σ Q) X.xe s:=by
 have r2:Vals (vs++dvs) (us++ds):=r.append hd
 have hl:(us++ds).length=ps.length:=by rw [<- r2.length];exact F.len _ _ _ _ h
 refine Ycj (Ya7 (F.run X.A X.stack s H ⟨us,[]⟩ (us++ds) (vs++dvs) Q E hr I.env0 (hb s us I.kIn hl) r2 h) fun r s' hq=>?_)
 cases r with
 | error e=>exact hx pins σ H s e s' I hq
 | ok fl =>
  cases fl with
  | ret u=>exact I.after hq
  | next=>exact False.elim hq
  | brk=>exact False.elim hq
  | cont=>exact False.elim hq
theorem Zu (F:FnOk X.prog X.w X.K X.mg X.base CX k f fd ps sp) (hr:Room k X.A) (hg:Gl X x) (hm:X.mg x=some (.ref f)) (hk:PySem.W.keepIn X.K (.ref f)=true) (hb:Zao X.K fd ps ds) (hd:Vals dvs ds) (hx:Zf9 CX X E)
  (ha:PA X (e::es) t) (hdb:(x == ("__debug__":Str))=false:=by decide) (he:starEach (e::es) X.env=(false,eval e X.env)::starEach es X.env:=by rfl) (hpl:(backTo pos (starEach es X.env)).any (·.1)=false:=by rfl) :
  PE X (.Call (.Name x p) (e::es) [] pos) (tCall sp dvs E t):=by
 intro pins s σ H Q I h
 refine Yaj (ZjA I hg hm ?_ hdb)
 refine YcA (h₀:=X.base) I.ok.mod.kin hk (thn (ha pos pins s σ H _ I h) fun us s1 ⟨vs,H1,I1,r,q⟩=>⟨I1.kIn,?_⟩) he hpl
 exact run_fn F hr hb hd hx I1 r q
end
noncomputable def PK (X:Cx) (kws:List Keyword) (t:TA):Prop :=
 ∀ (pos:Pos) (pins:List (Addr × Obj)) (s:Shared) (σ:St) (H:Hp) (Q:List V->Hp->Prop),Inv X pins σ H s->t σ H Q->wpAny (model X.prog X.w) X.A (evalAll ((backToKw pos (keywordEach kws X.env)).map (·.2))) (AP X pins σ Q) X.xe s
section
variable {X:Cx} {CX:CXT} {k:Nat} {f C:Addr} {fd:FuncData} {ps ks:List Str} {sp:Sp} {E:XK} {x m:Str} {p pos apos kpos:Pos} {e o:Expr} {es:List Expr} {kws:List Keyword} {te ta:TE} {t tk:TA} {nm:Option Str}
theorem pk_nil:PK X [] tNil:=fun _ _ _ _ H Q I h=>Ybk ⟨[],H,I,.nil,h⟩
theorem ZiR (ha:PE X e te) (hr:PK X kws t):PK X (⟨nm,e,kpos⟩::kws) (Zcy te t):=by
 intro pos pins s σ H Q I h
 show wpAny _ _ (evalAll ((do let v <- eval e X.env;standAt pos;pure v)::(backToKw pos (keywordEach kws X.env)).map (·.2))) _ _ s
 refine Ya8 (Yd (thn (ha pins s σ H _ I h) fun u s1 ⟨x,H1,I1,r1,q1⟩=>Yd (YaG (Yl ?_))))
 exact thn (hr pos pins s1 σ H1 _ I1 q1) fun us s2 ⟨xs,H2,I2,r2,q2⟩=>⟨x::xs,H2,I2,.cons r1 r2,q2⟩
variable {g:List Value->List Value->List Value} {gV:List V->List V->List V}
end
structure ZA (N P:List Str) (sc:Scope):Prop where
 kind:sc.kind=.function
 co:sc.isCoroutine=false
 gen:sc.isGenerator=false
 nd:N.Nodup
 pre:N.take P.length=P
 par:∀ x∈P,sc.names.lookup x=some .local\/sc.names.lookup x=some .cell
 nofree:∀ y∈sc.names,y.2≠.free
theorem Zfi {kindOf:Str->Option NameKind} {x:Str}:∀ {binds:List (Str × Value)} {m:Str->Option Value},(∀ v,(x,v) ∉ binds)->bindL kindOf binds m x=m x
 | [],_,_=>rfl
 | (n, v)::r,m,h=>by
  unfold bindL
  rw [Zfi fun w hw=>h w (YF _ hw)]
  split
  ·have:x≠n:=by rintro rfl;exact h v YG
   simp [this]
  ·rfl
theorem ZeB {kindOf:Str->Option NameKind} {x:Str}:∀ {binds:List (Str × Value)} {m:Str->Option Value},(∀ v,(x,v) ∉ binds)->bindC kindOf binds m x=m x
 | [],_,_=>rfl
 | (n, v)::r,m,h=>by
  unfold bindC
  rw [ZeB fun w hw=>h w (YF _ hw)]
  split
  ·rfl
  ·have:x≠n:=by rintro rfl;exact h v YG
   simp [this]
theorem Zex {kindOf:Str->Option NameKind} {x:Str} {v:Value}:∀ {P:List Str} {vs:List Value} {i:Nat} {m:Str->Option Value},P.Nodup->P[i]? = some x->vs[i]? = some v->kindOf x=some .local ->
  bindL kindOf (P.zip vs) m x=some v
 | [],_,_,_,_,h,_,_=>by simp at h
 | _::_,[],_,_,_,_,h,_=>by simp at h
 | p :: P,w::vs,0,m,nd,h1,h2,hk=>by
  simp at h1 h2;subst h1;subst h2
  show bindL kindOf ((p,w)::P.zip vs) m p=_
  unfold bindL
  rw [Zfi fun v hv=>(YQ.mp nd).1 (Yb3 hv).1,if_pos hk]
  simp
 | p :: P,w::vs,i + 1,m,nd,h1,h2,hk=>by
  show bindL kindOf ((p,w)::P.zip vs) m x=_
  unfold bindL
  exact Zex (i:=i) (YQ.mp nd).2 (by simpa using h1) (by simpa using h2) hk
theorem Ze9 {kindOf:Str->Option NameKind} {x:Str} {v:Value}:∀ {P:List Str} {vs:List Value} {i:Nat} {m:Str->Option Value},P.Nodup->P[i]? = some x->vs[i]? = some v->kindOf x≠some .local ->
  bindC kindOf (P.zip vs) m x=some v
 | [],_,_,_,_,h,_,_=>by simp at h
 | _::_,[],_,_,_,_,h,_=>by simp at h
 | p :: P,w::vs,0,m,nd,h1,h2,hk=>by
  simp at h1 h2;subst h1;subst h2
  show bindC kindOf ((p,w)::P.zip vs) m p=_
  unfold bindC
  rw [ZeB fun v hv=>(YQ.mp nd).1 (Yb3 hv).1,if_neg hk]
  simp
 | p :: P,w::vs,i + 1,m,nd,h1,h2,hk=>by
  show bindC kindOf ((p,w)::P.zip vs) m x=_
  unfold bindC
  exact Ze9 (i:=i) (YQ.mp nd).2 (by simpa using h1) (by simpa using h2) hk
noncomputable def start (N:List Str) (vs:List V):St:=vs.map some++List.replicate (N.length - vs.length) none
noncomputable def cxOf (CX:CXT) (P:Program) (w:World) (K:YFr) (mg:Str->Option Value) (base:Heap) (N:List Str) (qual:Str) (scope:Scope) (f:Addr) (cd:Value) (A:Around) (outer:List Env) (s:Shared) (H:Hp) (E:XK):Cx where
 prog:=P
 w := w
 K := K
 mg:=mg
 base:=base
 A := A.deeper (envOfC qual scope s.heap.objs.size f cd)
 N := N
 s₀:=s
 H₀:=H
 env:=envOfC qual scope s.heap.objs.size f cd
 outer:=outer
 stack:=envOfC qual scope s.heap.objs.size f cd::outer
 ex:=[]
 calm:=true
 fn:=fun _=>true
 pn:=[]
 xe:=fun e s'=>wpAny (model P w) (A.deeper (envOfC qual scope s.heap.objs.size f cd)) (leaving (envOfC qual scope s.heap.objs.size f cd) e) (fun _ s''=>CX outer H s E e s'') (fun e' s''=>CX outer H s E e' s'') s'
theorem Zgj {sc:Scope} {n:Nat} {x:Str} (h:sc.names.lookup x=some .cell):∃ c,(cellsFrom n sc.names []).lookup x=some c:=by
 have q:=YaV sc.names n [] (.inl h)
 exact Ya9.mp q
theorem Zdv {CX:CXT} {P:Program} {w:World} {K:YFr} {mg:Str->Option Value} {base:Heap} {N ps:List Str} {qual:Str} {scope:Scope} {f:Addr} {cd:Value} {A:Around} {outer:List Env} {s s1:Shared} {H:Hp} {E:XK} {us:List Value} {vs:List V}
  (S:ZA N ps scope) (hd:A.handled=none) (e0:Env0 P w K mg base A outer s H) (hl:vs.length=ps.length) (r:Vals vs us)
  (x:InCallC s s.heap.objs.size (bindL (envOfC qual scope s.heap.objs.size f cd).kindOf (ps.zip us) fun _=>none) (cellsFrom (s.heap.objs.size + 1) scope.names []) (bindC (envOfC qual scope s.heap.objs.size f cd).kindOf (ps.zip us) fun _=>none) s1) :
  Inv (cxOf CX P w K mg base N qual scope f cd A outer s H E) [] (start N vs) H s1:=by
 have hpl:ps.length<=N.length:=by have:=congrArg List.length S.pre;rw [YJ] at this;lia
 obtain ⟨h1,tk,rfl,hk⟩:=x.done
 have noA:∀ b:Addr,b ∉ (cxOf CX P w K mg base N qual scope f cd A outer s H E).ex:=fun b z=>absurd (show b∈([]:List Addr) from z) (by simp)
 refine ⟨⟨e0.mod,S.kind,rfl,rfl,Yg _,fun y z c h1 h2=>?_,fun y hy=>?_,fun y c _ h=>?_,fun _=>hd,Around.frames_deeper e0.frames,.inr ⟨rfl,rfl⟩,fun b z=>absurd z (noA b),e0.bs,e0.bsz,fun b _ _=>noA b,fun b z=>absurd z (noA b),e0.funs,e0.frf⟩,
  rfl,e0.bare,Un.kept hk,⟨_,x.toInCall.ns,fun i y v h1 h2 h3=>?_⟩,fun y c h=>⟨_,x.cell y c h⟩,e0.hok.fresh (Yg _),fun y c h=>?_,fun p hp=>absurd (show p∈([]:List (Addr × Obj)) from hp) (by simp),e0.hok.kept hk,?_⟩
 ·exact name_of_addr x.apart (Yao h1) (Yao h2)
 ·have hy:scope.names.lookup y=some .cell\/scope.names.lookup y=some .free:=hy
  rcases hy with hy | hy
  ·exact Zgj hy
  ·exact absurd rfl (S.nofree _ (Yao hy))
 ·exact YbN (x.above y c (Yao h))
 ·have hi:i < vs.length:=by
   unfold start at h2
   by_cases hi:i < vs.length
   ·exact hi
   ·rw [Yae (by simpa using hi)] at h2
    rw [Yb1] at h2
    split at h2 <;> cases h2
  have ha:vs[i]? = some v:=by
   unfold start at h2
   rw [Yar (by simpa using hi),Yr] at h2
   cases e:vs[i]? with
   | none=>rw [e] at h2;cases h2
   | some a=>rw [e] at h2;cases h2;rfl
  obtain ⟨u,hu,rv⟩:=r.get ha
  have hp:ps[i]? = some y:=by
   rw [<- S.pre,YbO (by lia)];exact h1
  have ndP:ps.Nodup:=by rw [<- S.pre];exact S.nd.sublist (List.take_sublist _ _)
  refine ⟨u,rv,?_⟩
  rcases S.par y (Yn hp) with k | k
  ·exact .inl ⟨k,Zex ndP hp hu k⟩
  ·obtain ⟨c,e⟩:=Zgj (n:=s.heap.objs.size + 1) k
   refine .inr ⟨.inl k,c,e,?_⟩
   have q:=x.cell y c e
   rw [Ze9 ndP hp hu (by show scope.names.lookup y≠_;rw [k];decide)] at q
   exact q
 ·exact e0.hok.fresh (YbN (x.above y c (Yao h)))
 ·unfold start
  show _=N.length
  rw [Yh,Yb,Ycd]
  lia
theorem fn_of {CX:CXT} {P:Program} {w:World} {K:YFr} {mg:Str->Option Value} {base:Heap} {k:Nat} {f:Addr} {name qual:Str} {params:Arguments} {body:List Stmt} {scope:Scope} {dV kV doc pm cdv ct oc:Value} {an od:Option Addr}
  {osl:Array (Option Value)} {N ps:List Str} {sp:Sp} (lk:K.lookup f=some ⟨oc,od,.func (PySem.W.fnOf name qual params body scope dV kV doc pm an cdv ct),osl⟩) (hcd:PySem.W.codeIn K cdv qual=true) (S:ZA N ps scope)
  (len:∀ vs H Q E,sp vs H Q E->vs.length=ps.length)
  (hbody:∀ (A:Around) (outer:List Env) (s:Shared) (H:Hp) (vs:List V) (Q:VK) (E:XK),Room k (A.deeper (envOfC qual scope s.heap.objs.size f cdv))->sp vs H Q E ->
   ∃ t,PSs (cxOf CX P w K mg base N qual scope f cdv A outer s H E) body t/\t { nx:=fun _ H'=>Q .non H',rt:=Q } (start N vs) H) :
  FnOk P w K mg base CX (k + 1) f (PySem.W.fnOf name qual params body scope dV kV doc pm an cdv ct) ps sp:=by
 refine ⟨len,fun A outer s H args us vs Q E hr e0 hb r hsp=>?_⟩
 have hl:=len _ _ _ _ hsp
 have KX:K.In s.heap:=e0.mod.kin.keeps fun b o e=>(e0.bs b o e).1
 have lim:s.heap.NoLimit:=e0.mod.nolimit.keeps fun b o e=>(e0.bs b o e).1
 have hkind:∀ y∈ps.zip us,scope.names.lookup y.1=some .local\/(scope.names.lookup y.1=some .cell/\((cellsFrom (s.heap.objs.size + 1) scope.names []).lookup y.1).isSome=true):=fun hq0 hy=>by
  obtain ⟨n,v⟩:=hq0
  rcases S.par n (Yb3 hy).1 with q | q
  ·exact .inl q
  ·exact .inr ⟨q,YaV _ _ _ (.inl q)⟩
 refine codeAny_call_function hr.depth (KX _ _ lk) rfl S.co S.gen rfl (PySem.W.codeRec_of KX hcd) (hb _ _ _ _ ?_)
 refine Ya2 S.kind hkind fun env he s1 x=>?_
 subst he
 refine ⟨lim.keeps x.toInCall.keep,codeAny_func ?_⟩
 obtain ⟨t,ht,hq⟩:=hbody A outer s H vs Q E (hr.deeper _) hsp
 have I:Inv (cxOf CX P w K mg base N qual scope f cdv A outer s H E) [] (start N vs) H s1:=Zdv S hr.hd e0 hl r x
 refine YV (ht [] s1 (start N vs) H _ I hq) (fun fl s' hs=>?_) fun e s' hs=>hs
 have fin:∀ {σ':St} {H':Hp} {v:V} {u:Value},Inv (cxOf CX P w K mg base N qual scope f cdv A outer s H E) [] σ' H' s'->RelV v u->Q v H'->CE outer P w H s Q u s' :=
  fun {σ' H' v u} J rv q=>⟨v,H',J.os,J.bare,J.base,J.hok,rv,q⟩
 cases fl with
 | ret u =>
  obtain ⟨v,σ',H',J,rv,q⟩:=hs
  exact fin J rv q
 | next =>
  obtain ⟨σ',H',J,q⟩:=hs
  exact fin (v:=V.non) (u:=Value.none) J rfl q
 | brk =>
  obtain ⟨_,_,_,q⟩:=hs
  exact False.elim q
 | cont =>
  obtain ⟨_,_,_,q⟩:=hs
  exact False.elim q
section
variable {X:Cx} {x:Str} {p pos:Pos} {e:Expr} {es:List Expr} {t:TA} {id T:String} {r:List V->Hp->VK->Prop}
noncomputable def tCB (r:List V->Hp->VK->Prop) (t:TA):TE:=fun σ H Q=>t σ H fun vs H1=>r vs H1 Q
theorem Zw (hc:Zbi X (.builtin id) r) (hg:Gl X x) (hm:X.mg x=none) (hv:bootBuiltins x=some (.builtin id)) (ha:PA X (e::es) t) (hn:x≠"__name__":=by decide) (hdb:(x == ("__debug__":Str))=false:=by decide)
  (he:starEach (e::es) X.env=(false,eval e X.env)::starEach es X.env:=by rfl) (hpl:(backTo pos (starEach es X.env)).any (·.1)=false:=by rfl):PE X (.Call (.Name x p) (e::es) [] pos) (tCB r t):=by
 intro pins s σ H Q I h
 refine Yaj (ZbF I hg hm hv ?_ hn hdb)
 exact PyProof.Rows.callWith_builtin1 (thn (ha pos pins s σ H _ I h) fun us s1 ⟨vs,H1,I1,r1,q1⟩=>hc pins s1 σ H1 vs us Q I1 r1 q1) he hpl
theorem Zaj (hc:Zbi X (.type T) r) (hg:Gl X x) (hm:X.mg x=none) (hv:bootBuiltins x=some (.type T)) (ha:PA X (e::es) t) (hn:x≠"__name__":=by decide) (hdb:(x == ("__debug__":Str))=false:=by decide)
  (he:starEach (e::es) X.env=(false,eval e X.env)::starEach es X.env:=by rfl) (hpl:(backTo pos (starEach es X.env)).any (·.1)=false:=by rfl):PE X (.Call (.Name x p) (e::es) [] pos) (tCB r t):=by
 intro pins s σ H Q I h
 refine Yaj (ZbF I hg hm hv ?_ hn hdb)
 exact Y9 (thn (ha pos pins s σ H _ I h) fun us s1 ⟨vs,H1,I1,r1,q1⟩=>hc pins s1 σ H1 vs us Q I1 r1 q1) he hpl
end
end L2
namespace HT
open PySem PyProof.Rows
theorem rcLt_int (A:Around) (s:Shared) (a:Int) (t:Tok) (c:Int) (u:Tok) (prog:Program) (w:World) (E:Value->Shared->Prop) (Q:Value->Shared->Prop) (h:Q (.bool (decide (a < c))) s) :
  wpAny (model prog w) A (richCompare .Lt (.int a t) (.int c u)) Q E s :=
 (YbB h:wpAny (model prog w) A (compareOp .Lt (.int a t) (.int c u)) Q E s)
section
variable {prog:Program} {w:World} {A:Around} {E:Value->Shared->Prop} {s:Shared}
theorem cat_tup {t b:Addr} {vs ws:List Value} {Q:Value->Shared->Prop} (ht:IsTup s.heap t vs.toArray) (hb:IsTup s.heap b ws.toArray) (hv:vs≠[])
  (h1:ws=[]->Q (.ref t) s) (h2:ws≠[]->Q (.ref s.heap.objs.size) { s with heap:=s.heap.push { cls:=.type "tuple",data:=.seq (vs++ws).toArray } })
  (hsz:vs.length + ws.length<=sizeLine):wpAny (model prog w) A (binaryOp .Add (.ref t) (.ref b)) Q E s:=by
 obtain ⟨⟨cls,dd,data,sl⟩,ho,hc,n,hd⟩:=id ht
 obtain ⟨⟨cls2,dd2,data2,sl2⟩,ho2,hc2,n2,hd2⟩:=id hb
 simp only at hc hd hc2 hd2
 subst hc hd hc2 hd2
 have e:vs.toArray++ws.toArray=(vs++ws).toArray:=by simp
 by_cases hw:ws=[]
 ·exact YbP ⟨_,ho,rfl⟩ ⟨_,ho2,rfl⟩ YcQ seq_tuple_add Ybm Ybi (Yba _ _)
   (tuple_addW1 t b vs.toArray ws.toArray n n2 dd dd2 sl sl2 (by simpa using hv) (by simp [hw])) ⟨ho,ho2,h1 hw⟩
 ·refine YbP ⟨_,ho,rfl⟩ ⟨_,ho2,rfl⟩ YcQ seq_tuple_add Ybm Ybi (Yba _ _)
   (tuple_addW2 t b vs.toArray ws.toArray n n2 dd dd2 sl sl2 (by simpa using hv) (by simpa using hw) (by rw [Yj,Yj];exact hsz)) ⟨ho,ho2,?_⟩
  rw [e]
  exact h2 hw
noncomputable def sIx (n d:Nat):Option Int->Nat
 | none=>d
 | some v=>if v < 0 then (v + (n:Int)).toNat else min v.toNat n
theorem sIx_none (n d:Nat):sIx n d none=d:=rfl
theorem sIx_nat (n d k:Nat):sIx n d (some (k:Int))=min k n:=by
 show (if (k:Int) < 0 then ((k:Int) + (n:Int)).toNat else min (k:Int).toNat n)=min k n
 rw [if_neg (by lia),Int.toNat_natCast]
theorem sIx_le (n d:Nat) (hd:d<=n) (o:Option Int):sIx n d o<=n:=by
 cases o with
 | none=>exact hd
 | some v =>
  show (if v < 0 then (v + (n:Int)).toNat else min v.toNat n)<=n
  by_cases hv:v < 0
  ·rw [if_pos hv];lia
  ·rw [if_neg hv];exact Nat.min_le_right _ _
theorem clip_eq (v:Int) (n d:Nat):(if v < 0 then max (v + (n:Int)) 0 else min v (n:Int))=((sIx n d (some v):Nat):Int):=by
 show (if v < 0 then max (v + (n:Int)) 0 else min v (n:Int))=(((if v < 0 then (v + (n:Int)).toNat else min v.toNat n):Nat):Int)
 by_cases hv:v < 0
 ·simp only [if_pos hv];lia
 ·simp only [if_neg hv];lia
theorem ZhR (lo hi:Option Int) (n:Nat):Builtin.Slice.sliceAdjust lo hi 1 (n:Int)=(((sIx n 0 lo:Nat):Int),((sIx n n hi:Nat):Int)):=by
 have h1:¬ ((1:Int) < 0):=by lia
 unfold Builtin.Slice.sliceAdjust
 simp only [h1,YaH]
 refine Prod.ext ?_ ?_
 ·cases lo with
  | none=>rfl
  | some v=>exact clip_eq v n 0
 ·cases hi with
  | none=>rfl
  | some v=>exact clip_eq v n n
theorem Zhy (i j:Nat):Builtin.Slice.slicePlaces (i:Int) (j:Int) 1=j - i:=by
 unfold Builtin.Slice.slicePlaces
 have h1:(1:Int) > 0:=by lia
 simp only [h1,if_true,Int.ediv_one]
 split <;> lia
theorem ZdI {v:Value} {o:Option Int} {Q:Option Int->Shared->Prop} (p:IsPart v o) (h:Q o s):wpAny (model prog w) A (Builtin.Slice.slicePartIndex v) Q E s:=by
 cases p with
 | none=>exact slicePart_none h
 | int i t=>exact slicePart_int h
theorem sliceApplied_gen {sl:Addr} {vl vu:Value} {lo hi:Option Int} {n:Nat} {Q:Int × Int × Nat->Shared->Prop} (hs:s.heap.IsSliceOf sl vl vu .none) (pl:IsPart vl lo) (pu:IsPart vu hi)
  (h:Q (((sIx n 0 lo:Nat):Int),1,sIx n n hi - sIx n 0 lo) s):wpAny (model prog w) A (Builtin.Slice.sliceApplied (.ref sl) (pure (n:Int))) Q E s:=by
 obtain ⟨os,hos,hcs,hds⟩:=id hs
 unfold Builtin.Slice.sliceApplied Builtin.Slice.sliceFields
 refine Yd (Yd (Ybn hos hds (x:=vl) rfl (Yd (Ybn hos hds (x:=vu) rfl (Yd (Ybn hos hds (x:=.none) rfl (Yl ?_)))))))
 refine Yd (slicePart_none ?_)
 show wpAny _ _ (if ((1:Int) == 0)=true then _ else _) _ _ s
 rw [if_neg (by decide)]
 refine Yd (ZdI pl (Yd (ZdI pu (Yd (Yl ?_)))))
 show wpAny _ _ (match Builtin.Slice.sliceAdjust lo hi 1 (n:Int) with | (lo,hi)=>pure (lo,(1:Int),Builtin.Slice.slicePlaces lo hi 1)) _ _ s
 rw [ZhR lo hi n]
 show wpAny _ _ (pure (((sIx n 0 lo:Nat):Int),(1:Int),Builtin.Slice.slicePlaces ((sIx n 0 lo:Nat):Int) ((sIx n n hi:Nat):Int) 1)) _ _ s
 rw [Zhy]
 exact Yl h
theorem pick_gen (xs:Array Value) (i k:Nat):((List.range k).filterMap fun (m:Nat)=>xs[((i:Int) + (m:Int) * 1).toNat]?).toArray=((xs.toList.drop i).take k).toArray:=by
 have e:(fun (m:Nat)=>xs[((i:Int) + (m:Int) * 1).toNat]?)=fun m=>xs[i + m]?:=by
  funext m
  have:((i:Int) + (m:Int) * 1).toNat=i + m:=by lia
  rw [this]
 rw [e]
 have:=pick_run xs i k
 rw [List.filterMap_map] at this
 have e2:((fun x=>xs[x]?) ∘ fun x=>i + x)=fun m=>xs[i + m]?:=rfl
 rw [e2] at this
 rw [this]
theorem getItem_tuple_cut {t sl:Addr} {items:Array Value} {vl vu:Value} {lo hi:Option Int} {Q:Value->Shared->Prop} (ht:IsTup s.heap t items) (hs:s.heap.IsSliceOf sl vl vu .none) (pl:IsPart vl lo) (pu:IsPart vu hi)
  (hw:¬ (sIx items.size 0 lo=0/\sIx items.size items.size hi=items.size))
  (h:Q (.ref s.heap.objs.size) { s with heap:=s.heap.push { cls:=.type "tuple",data:=.seq ((items.toList.drop (sIx items.size 0 lo)).take (sIx items.size items.size hi - sIx items.size 0 lo)).toArray } })
  (hsz:items.size<=sizeLine):wpAny (model prog w) A (getItem (.ref t) (.ref sl)) Q E s:=by
 have htake:sizeOk (.seq ((items.toList.drop (sIx items.size 0 lo)).take (sIx items.size items.size hi - sIx items.size 0 lo)).toArray):=by
  show ((items.toList.drop (sIx items.size 0 lo)).take (sIx items.size items.size hi - sIx items.size 0 lo)).toArray.size<=sizeLine
  rw [Yj,YJ,YR,Array.length_toList]
  lia
 have hj:sIx items.size items.size hi<=items.size:=sIx_le _ _ (Yg _) hi
 obtain ⟨os,hos,hcs,hds⟩:=id hs
 have hTs:s.TypeIs (.ref sl) "slice":=⟨os,hos,hcs⟩
 unfold getItem
 try with_reducible refine YU ?_
 first | refine Yd (Yl ?_) | skip
 refine Yd (YbK ht.typeIs (by decide) ?_)
 refine Yd (Ybj (name:=Str.ofString "__getitem__") ht.typeIs Yac
  (Ybq Yac ht.typeIs entry_tuple_getitem ?_ (args_tuple_getitem _ _)))
 show wpAny _ _ (Builtin.Tuple.tupleItemsOf (.ref t) >>= _) _ _ s
 refine Yd (tupleItemsOf_ ht ?_)
 refine Yd (Ybb hTs ?_)
 rw [if_pos (by decide)]
 refine Yd (sliceApplied_gen hs pl pu ?_)
 have hno:¬ ((((sIx items.size 0 lo:Nat):Int) == 0 && (1:Int) == 1 && (sIx items.size items.size hi - sIx items.size 0 lo) == items.size)=true):=by
  intro q
  rw [Yc,Yc] at q
  have q1:((sIx items.size 0 lo:Nat):Int)=0:=Yb4 q.1.1
  have q2:sIx items.size items.size hi - sIx items.size 0 lo=items.size:=Yb4 q.2
  exact hw ⟨by lia,by lia⟩
 show wpAny _ _ (if (((sIx items.size 0 lo:Nat):Int) == 0 && (1:Int) == 1 && (sIx items.size items.size hi - sIx items.size 0 lo) == items.size)=true then _ else _) _ _ s
 rw [if_neg hno,pick_gen]
 first
  | exact Yd (m:=Builtin.Tuple.tupleExact _) (YaW (Yl ⟨_,rfl,Yl h⟩) htake)
  | exact Yd (m:=Builtin.Tuple.tupleExact _) (YaW (Yd (Yl (Yl ⟨_,rfl,Yl h⟩))) htake)
  | exact Yd (Yd (m:=Builtin.Tuple.tupleExact _) (YaW (Yl (Yl ⟨_,rfl,Yl h⟩)) htake))
  | exact Yd (Yd (m:=Builtin.Tuple.tupleExact _) (YaW (Yl ⟨_,rfl,Yl h⟩) htake))
end
end HT
namespace L2
open PySem PySem.Spec PyProof.Rows
noncomputable abbrev TO:=St->Hp->(Option Int->Hp->Prop)->Prop
noncomputable def PO (X:Cx) (e:Option Expr) (t:TO):Prop :=
 ∀ (pins:List (Addr × Obj)) (s:Shared) (σ:St) (H:Hp) (Q:Option Int->Hp->Prop),Inv X pins σ H s->t σ H Q ->
  wpAny (model X.prog X.w) X.A (evalPart e X.env) (fun u s'=>∃ o H',Inv X pins σ H' s'/\IsPart u o/\Q o H') X.xe s
noncomputable def ZiE:TO:=fun _ H Q=>Q none H
noncomputable def tPart (t:TE):TO:=fun σ H Q=>t σ H fun x H1=>∃ i,x=.int i/\Q (some i) H1
section
variable {X:Cx} {e:Expr} {te:TE} {lo hi:Option Expr} {tl th:TO} {pos p2:Pos}
theorem Z1:PO X none ZiE:=by
 intro pins s σ H Q I h
 rw [evalPart_none]
 exact Yl ⟨none,H,I,.none,h⟩
theorem ZO (h:PE X e te):PO X (some e) (tPart te):=by
 intro pins s σ H Q I hw
 rw [evalPart_some]
 refine thn (h pins s σ H _ I hw) fun u s1 h_q=>?_
 obtain ⟨x,H1,I1,r1,q1⟩:=h_q
 obtain ⟨i,rfl,q⟩:=q1
 obtain ⟨t,rfl⟩:=r1
 exact ⟨some i,H1,I1,.int i t,q⟩
noncomputable def SlR (X:Cx) (r:V->Option Int->Option Int->Hp->VK->Prop):Prop :=
 ∀ (pins:List (Addr × Obj)) (s:Shared) (σ:St) (H:Hp) (x:V) (v vl vu:Value) (lo hi:Option Int) (sl:Addr) (Q:VK),Inv X pins σ H s->RelV x v->s.heap.IsSliceOf sl vl vu .none->IsPart vl lo->IsPart vu hi->r x lo hi H Q ->
  ∃ T id,typeLookup (.type T) "__getitem__"=pure (some (.builtin id))/\s.TypeIs v T/\wpAny (model X.prog X.w) X.A (getItem v (.ref sl)) (EP X pins σ Q) X.xe s
noncomputable def tSl (r:V->Option Int->Option Int->Hp->VK->Prop) (te:TE) (tl th:TO):TE:=fun σ H Q=>te σ H fun x H1=>tl σ H1 fun l H2=>th σ H2 fun u H3=>r x l u H3 Q
theorem ZK {r:V->Option Int->Option Int->Hp->VK->Prop} (hr:SlR X r) (he:PE X e te) (hl:PO X lo tl) (hu:PO X hi th):PE X (.Subscript e (.Slice lo hi none p2) pos) (tSl r te tl th):=by
 intro pins s σ H Q I h
 refine Subscript_ (thn (he pins s σ H _ I h) fun v s1 h_q=>?_)
 obtain ⟨x,H1,I1,r1,q1⟩:=h_q
 refine wpAny_Slice (thn (hl pins s1 σ H1 _ I1 q1) fun vl s2 ⟨l,H2,I2,pl,q2⟩=>thn (hu pins s2 σ H2 _ I2 q2) fun vu s3 h_q=>?_)
 obtain ⟨u,H3,I3,pu,q3⟩:=h_q
 rw [evalPart_none]
 refine Yl ?_
 have I4:Inv X pins σ H3 { s3 with heap:=s3.heap.push { cls:=.type "slice",data:=.fields #[vl,vu,.none] } }:=I3.kept (t':=s3.toks) fun b ob q=>Yi _ q
 obtain ⟨T,id,hT,ht,hg⟩:=hr pins { s3 with heap:=s3.heap.push { cls:=.type "slice",data:=.fields #[vl,vu,.none] } } σ H3 x v vl vu l u s3.heap.objs.size Q I4 r1 (YcB ..) pl pu q3
 show wpAny (model X.prog X.w) X.A (subscriptTail e (.Slice lo hi none p2) v (.ref s3.heap.objs.size)) (EP X pins σ Q) X.xe { s3 with heap:=s3.heap.push { cls:=.type "slice",data:=.fields #[vl,vu,.none] } }
 exact tail_any (ops:=[.ref s3.heap.objs.size,v]) ht hT hg (by with_unfolding_all rfl)
noncomputable def cutV (xs:List V) (lo hi:Option Int):List V:=(xs.drop (HT.sIx xs.length 0 lo)).take (HT.sIx xs.length xs.length hi - HT.sIx xs.length 0 lo)
theorem Zdc (xs:List V) (lo hi:Option Int):(cutV xs lo hi).length<=xs.length:=by
 unfold cutV
 rw [YJ,YR]
 lia
noncomputable def rSlT (K:YFr):V->Option Int->Option Int->Hp->VK->Prop:=fun x lo hi H Q=>∃ a xs,x=.ref a/\SqT K H a xs /\
 ¬ (HT.sIx xs.length 0 lo=0/\HT.sIx xs.length xs.length hi=xs.length)/\∀ p,H p=none->Q (.ref p) (upd H p (.tup (cutV xs lo hi)))
theorem sl_tup:SlR X (rSlT X.K):=by
 intro pins s σ H x v vl vu lo hi sl Q I rx hs pl pu h
 obtain ⟨a,xs,rfl,hx,hw,q⟩:=h
 cases rx
 obtain ⟨its,r,ht,hz⟩:=I.tuple hx
 have hlen:its.toArray.size=xs.length:=by rw [Yj];exact r.length.symm
 refine ⟨"tuple",_,Yac.lookup,ht.typeIs,?_⟩
 refine HT.getItem_tuple_cut ht hs pl pu (by rw [hlen];exact hw) ?_ (by rw [hlen];exact hz)
 rw [hlen]
 refine ⟨.ref s.heap.objs.size,_,I.laid (t':=s.toks) (o:=.tup (cutV xs lo hi)) (fun b ob q=>Yi _ q) (Yg _) ?_,rfl,q _ (I.hok.fresh (Yg _))⟩
 exact ⟨YE (Zdc xs lo hi) hz,_,(r.drop (HT.sIx xs.length 0 lo)).take (HT.sIx xs.length xs.length hi - HT.sIx xs.length 0 lo),Yc0 _ _⟩
noncomputable def rCatT (K:YFr):R2:=fun x y H Q=>∃ a b xs ys,x=.ref a/\y=.ref b/\SqT K H a xs/\SqT K H b ys/\xs≠[]/\xs.length + ys.length<=sizeLine /\
 (ys=[]->Q (.ref a) H)/\(ys≠[]->∀ p,H p=none->Q (.ref p) (upd H p (.tup (xs++ys))))
theorem Vals.nil_iff {xs:List V} {us:List Value} (r:Vals xs us):us=[] ↔ xs=[]:=by
 cases r with
 | nil=>simp
 | cons _ _=>simp
theorem op_catT:OpR X (binaryOp .Add) (rCatT X.K):=by
 intro pins s σ H x y v u Q I rx ry h
 obtain ⟨a,b,xs,ys,rfl,rfl,ha,hb,hx,hz,q1,q2⟩:=h
 cases rx
 cases ry
 obtain ⟨its,r1,p1,_⟩:=I.tuple ha
 obtain ⟨its2,r2,p2,_⟩:=I.tuple hb
 refine HT.cat_tup p1 p2 (fun z=>hx (r1.nil_iff.mp z)) (fun z=>⟨.ref a,H,I,rfl,q1 (r2.nil_iff.mp z)⟩) (fun z=>?_) (by rw [<- r1.length,<- r2.length];exact hz)
 refine ⟨.ref s.heap.objs.size,_,I.laid (t':=s.toks) (o:=.tup (xs++ys)) (fun b ob q=>Yi _ q) (Yg _) ?_,rfl,q2 (fun w=>z (r2.nil_iff.mpr w)) _ (I.hok.fresh (Yg _))⟩
 exact ⟨by rw [Yh];exact hz,_,r1.append r2,Yc0 _ _⟩
end
noncomputable def ixN (n:Nat) (i:Int):Option Nat:=if 0<=i then (if i < n then some i.toNat else none) else if -(n:Int)<=i then some (i + n).toNat else none
noncomputable def atI {α:Type} (xs:List α) (i:Int):Option α:=(ixN xs.length i).bind fun j=>xs[j]?
theorem ZjB {n:Nat} {i:Int} {j:Nat} (h:ixN n i=some j):seqIndex? i n=some j/\j < n/\-(n:Int)<=i/\i < n:=by
 unfold ixN at h
 by_cases h0:0<=i
 ·rw [if_pos h0] at h
  by_cases h1:i < n
  ·rw [if_pos h1] at h
   have e:i.toNat=j:=Y0 h
   exact ⟨by rw [seqIndex_of h0 h1,e],by lia,by lia,h1⟩
  ·rw [if_neg h1] at h;cases h
 ·rw [if_neg h0] at h
  by_cases h1:-(n:Int)<=i
  ·rw [if_pos h1] at h
   have e:(i + n).toNat=j:=Y0 h
   exact ⟨by rw [seqIndex_neg (by lia) h1,e],by lia,h1,by lia⟩
  ·rw [if_neg h1] at h;cases h
theorem ZfI {α:Type} {xs:List α} {i:Int} {v:α} (h:atI xs i=some v):∃ j,seqIndex? i xs.length=some j/\xs[j]? = some v/\j < xs.length/\-(xs.length:Int)<=i/\i < xs.length:=by
 unfold atI at h
 cases e:ixN xs.length i with
 | none=>rw [e] at h;cases h
 | some j =>
  rw [e] at h
  obtain ⟨h1,h2,h3,h4⟩:=ZjB e
  exact ⟨j,h1,h,h2,h3,h4⟩
theorem Zau {α:Type} {xs:List α} {j:Nat} {v:α} (h:xs[j]? = some v):atI xs (j:Int)=some v:=by
 have hj:j < xs.length:=(Yp.mp h).1
 have e:ixN xs.length (j:Int)=some j:=by
  unfold ixN
  rw [if_pos (by lia),if_pos (by lia)];simp
 unfold atI;rw [e];exact h
noncomputable def PlainIx (b:Expr):Prop:=∀ o i,subscripted b false o i=operate [o,i] (getItem o i)
noncomputable def IxR (X:Cx) (r:R2):Prop :=
 ∀ (value slice:Expr) (pins:List (Addr × Obj)) (s:Shared) (σ:St) (H:Hp) (x y:V) (v u:Value) (Q:VK),Inv X pins σ H s->RelV x v->RelV y u->r x y H Q ->
  subscripted slice false v u=operate [v,u] (getItem v u)->wpAny (model X.prog X.w) X.A (subscriptTail value slice v u) (EP X pins σ Q) X.xe s
noncomputable def MtR (X:Cx) (id:String) (r:V->List V->Hp->VK->Prop):Prop :=
 ∀ (pins:List (Addr × Obj)) (s:Shared) (σ:St) (H:Hp) (x:V) (xs:List V) (v:Value) (us:List Value) (Q:VK),Inv X pins σ H s->RelV x v->Vals xs us->r x xs H Q ->
  wpAny (model X.prog X.w) X.A (call (.builtin id) (v::us)) (EP X pins σ Q) X.xe s
section
variable {X:Cx} {a b:Expr} {ta tb:TE} {pos:Pos}
theorem IxR.or {r r':R2} (h:IxR X r) (h':IxR X r'):IxR X (fun x y H Q=>r x y H Q\/r' x y H Q):=by
 intro value slice pins s σ H x y v u Q I rx ry q hs
 rcases q with q | q
 ·exact h value slice pins s σ H x y v u Q I rx ry q hs
 ·exact h' value slice pins s σ H x y v u Q I rx ry q hs
theorem ZR {r:R2} (hr:IxR X r) (ha:PE X a ta) (hb:PE X b tb) (hs:PlainIx b):PE X (.Subscript a b pos) (tOp r ta tb):=by
 intro pins s σ H Q I h
 exact Subscript_ (binT ha hb I h fun v u s2 x y H2 I2 rx ry q=>hr a b pins s2 σ H2 x y v u Q I2 rx ry q (hs _ _))
noncomputable def rIxL (K:YFr):R2:=fun x y H Q=>∃ p xs i v,x=.ref p/\y=.int i/\SqL K H p xs/\atI xs i=some v/\Q v H
noncomputable def rIxT (K:YFr):R2:=fun x y H Q=>∃ p xs i v,x=.ref p/\y=.int i/\SqT K H p xs/\atI xs i=some v/\Q v H
noncomputable def rIxS:R2:=fun x y H Q=>∃ z i c,x=.str z/\y=.int i/\z.length<=sizeLine/\atI z.cps.toList i=some c/\Q (.str ⟨#[c]⟩) H
theorem ix_list:IxR X (rIxL X.K):=by
 intro value slice pins s σ H x y v u Q I rx ry h hs
 obtain ⟨p,xs,i,z,rfl,rfl,hq,he,q⟩:=h
 cases rx
 obtain ⟨t,rfl⟩:=ry
 obtain ⟨its,r,pl,hz⟩:=I.list hq
 obtain ⟨j,h1,h2,h3,h4,h5⟩:=ZfI he
 obtain ⟨w,ew,rw'⟩:=r.get h2
 have hl:=r.length
 have hn:=ZcT
 have fin:EP X pins σ Q w s:=⟨z,H,I,rw',q⟩
 by_cases h0:0<=i
 ·have hj:i.toNat=j:=by
   rw [seqIndex_of h0 h5] at h1
   exact Y0 h1
  exact item_listR pl.isList h0 (by lia) (by rw [hj];simpa using ew) fin hs
 ·have hj:(i + (its.toArray.size:Int)).toNat=j:=by
   rw [seqIndex_neg (by lia) h4] at h1
   rw [Yj,<- hl]
   exact Y0 h1
  exact Yb9 (x:=w) pl.isList.typeIs YcI.lookup
   (wpAny_getItem_list_neg (Q:=fun r s'=>r=w/\EP X pins σ Q r s') pl.isList (by lia) (by rw [Yj] <;> lia) (by lia) (by rw [hj];simpa using ew) ⟨rfl,fin⟩) hs
theorem ix_tup:IxR X (rIxT X.K):=by
 intro value slice pins s σ H x y v u Q I rx ry h hs
 obtain ⟨p,xs,i,z,rfl,rfl,hq,he,q⟩:=h
 cases rx
 obtain ⟨t,rfl⟩:=ry
 obtain ⟨its,r,pl,hz⟩:=I.tuple hq
 obtain ⟨j,h1,h2,h3,h4,h5⟩:=ZfI he
 obtain ⟨w,ew,rw'⟩:=r.get h2
 have hl:=r.length
 have hn:=ZcT
 have fin:EP X pins σ Q w s:=⟨z,H,I,rw',q⟩
 exact Yb9 (x:=w) pl.typeIs slot_tuple_getitem.lookup
  (getItem_tuple (j:=j) (Q:=fun r s'=>r=w/\EP X pins σ Q r s') pl (by lia) (by lia) (by rw [Yj,<- hl];exact h1) (by simpa using ew) ⟨rfl,fin⟩) hs
theorem ix_str:IxR X rIxS:=by
 intro value slice pins s σ H x y v u Q I rx ry h hs
 obtain ⟨z,i,c,rfl,rfl,hz,he,q⟩:=h
 obtain ⟨t,rfl⟩:=rx
 obtain ⟨t',rfl⟩:=ry
 obtain ⟨j,h1,h2,h3,h4,h5⟩:=ZfI he
 have hl:z.cps.toList.length=z.length:=by simp [Str.length]
 rw [hl] at h1 h4 h5
 have hn:=ZcT
 exact tail_any (typeIs_str s z t) slot_str_getitem.lookup (getItem_str (c:=c) (by
  have e1:decide (i < -(2 ^ 63:Int))=false:=YZ (by lia)
  have e2:decide (i ≥ 2 ^ 63)=false:=YZ (by lia)
  rw [e1,e2,Bool.or_false]) (by rw [h1];simpa using h2) ⟨.str ⟨#[c]⟩,H,I.tok _,⟨_,rfl⟩,q⟩) hs
noncomputable def rIx (K:YFr):R2:=fun x y H Q=>rIxL K x y H Q\/rIxT K x y H Q\/rIxS x y H Q
theorem ix_seq:IxR X (rIx X.K):=ix_list.or (ix_tup.or ix_str)
theorem Zhc (its:List Value) (n j:Nat) (u:Value):Obj.mapSeq (·.setIfInBounds j u) { cls:=.type "list",data:=.seq its.toArray n }={ cls:=.type "list",data:=.seq (its.set j u).toArray n }:=by
 simp [Obj.mapSeq]
theorem Inv.lst {pins:List (Addr × Obj)} {σ:St} {H:Hp} {s:Shared} {p:Addr} {xs:List V} (I:Inv X pins σ H s) (h:H p=some (.lst xs)) :
  ∃ (its:List Value) (n:Nat),Vals xs its/\s.heap.get? p=some { cls:=.type "list",data:=.seq its.toArray n }/\xs.length<=sizeLine:=by
 obtain ⟨z,its,n,r,e⟩:=I.hok p _ h
 exact ⟨its,n,r,e,z⟩
theorem Inv.lstUpd {pins:List (Addr × Obj)} {σ:St} {H:Hp} {s:Shared} {p:Addr} {xs ys:List V} {its its':List Value} {n n':Nat} {f:Obj->Obj} (I:Inv X pins σ H s) (h:H p=some (.lst xs))
  (ho:s.heap.get? p=some { cls:=.type "list",data:=.seq its.toArray n }) (hf:f { cls:=.type "list",data:=.seq its.toArray n }={ cls:=.type "list",data:=.seq its'.toArray n' }) (r:Vals ys its') (hz:ys.length<=sizeLine) (t:Nat) :
  Inv X pins σ (upd H p (.lst ys)) { s with heap:=s.heap.update p f,toks:=t }:=by
 have e:(s.heap.update p f).get? p=some { cls:=.type "list",data:=.seq its'.toArray n' }:=by
  rw [Yce f ho (by rw [hf] <;> rfl),hf]
 refine I.write (x:=p) (e:=p) (by rw [h];trivial) (.inl rfl) (fun b u hb q=>(Ybo _ _ (Ne.symm hb)).trans q) ⟨_,e⟩ ?_
 exact ⟨hz,its',n',r,e⟩
noncomputable def rSetL:V->V->V->Hp->(Hp->Prop)->Prop:=fun o i v H Q=>∃ p xs k j,o=.ref p/\i=.int k/\H p=some (.lst xs)/\ixN xs.length k=some j/\Q (upd H p (.lst (xs.set j v)))
theorem set_list:PSet X rSetL:=by
 intro pins s σ H o i v ov iv u Q I ro ri rv h
 obtain ⟨p,xs,k,j,rfl,rfl,hp,hj,q⟩:=h
 cases ro
 obtain ⟨t,rfl⟩:=ri
 obtain ⟨its,n,r,ho,hz⟩:=I.lst hp
 obtain ⟨h1,h2,h3,h4⟩:=ZjB hj
 have hl:=r.length
 have hn:=ZcT
 have I':Inv X pins σ (upd H p (.lst (xs.set j v))) { s with heap:=s.heap.update p (Obj.mapSeq (·.setIfInBounds j u)) } :=
  I.lstUpd hp ho (Zhc its n j u) (r.set rv j) (by rw [List.length_set];exact hz) s.toks
 by_cases h0:0<=k
 ·have hk:k.toNat=j:=by
   rw [seqIndex_of h0 h4] at h1
   exact Y0 h1
  exact PySem.W.ki_setAt ho h0 (by lia) (by rw [Yj,<- hl];exact h4) (by rw [hk];exact ⟨_,I',q⟩)
 ·have hk:(k + (its.toArray.size:Int)).toNat=j:=by
   rw [seqIndex_neg (by lia) h3] at h1
   rw [Yj,<- hl]
   exact Y0 h1
  exact PySem.W.ki_setBack ho (by lia) (by rw [Yj,<- hl];exact h3) (by lia) (by rw [hk];exact ⟨_,I',q⟩)
theorem Ze0 (lo hi:Option Int) (n:Nat):(sliceBounds lo hi none n).1=((HT.sIx n 0 lo:Nat):Int)/\(sliceBounds lo hi none n).2.1=((HT.sIx n n hi:Nat):Int)/\(sliceBounds lo hi none n).2.2=1:=by
 refine ⟨?_,?_,rfl⟩
 ·cases lo with
  | none=>simp [sliceBounds,HT.sIx]
  | some i =>
   simp only [sliceBounds,HT.sIx,Option.getD_none,show (1:Int) > 0 by decide,if_true]
   by_cases h:i < 0
   ·simp only [h,if_true] <;> lia
   ·simp only [h,YaH] <;> lia
 ·cases hi with
  | none=>simp [sliceBounds,HT.sIx]
  | some i =>
   simp only [sliceBounds,HT.sIx,Option.getD_none,show (1:Int) > 0 by decide,if_true]
   by_cases h:i < 0
   ·simp only [h,if_true] <;> lia
   ·simp only [h,YaH] <;> lia
theorem Zep (its:List Value) (lo hi:Option Int):slicePick its.toArray lo hi none=((its.drop (HT.sIx its.length 0 lo)).take (HT.sIx its.length its.length hi - HT.sIx its.length 0 lo)).toArray:=by
 obtain ⟨h1,h2,h3⟩:=Ze0 lo hi its.toArray.size
 unfold slicePick
 rw [h1,h2,h3]
 simp only [sliceRange_one,pick_run,Yj] <;> rfl
noncomputable def rSlL (K:YFr):V->Option Int->Option Int->Hp->VK->Prop:=fun x lo hi H Q=>∃ a xs,x=.ref a/\SqL K H a xs/\∀ p,H p=none->Q (.ref p) (upd H p (.lst (cutV xs lo hi)))
theorem sl_list:SlR X (rSlL X.K):=by
 intro pins s σ H x v vl vu lo hi sl Q I rx hs pl pu h
 obtain ⟨a,xs,rfl,hx,q⟩:=h
 cases rx
 obtain ⟨its,r,ht,hz⟩:=I.list hx
 have hlen:=r.length
 refine ⟨"list",_,YcI.lookup,ht.isList.typeIs,?_⟩
 refine wpAny_getItem_list_slice ht.isList hs pl pu .none (by simp) ?_ (by rw [Yj] <;> lia)
 rw [Zep,<- hlen]
 refine ⟨.ref s.heap.objs.size,_,I.laid (t':=s.toks) (o:=.lst (cutV xs lo hi)) (fun b ob q=>Yi _ q) (Yg _) ?_,rfl,q _ (I.hok.fresh (Yg _))⟩
 exact ⟨YE (Zdc xs lo hi) hz,_,0,(r.drop (HT.sIx xs.length 0 lo)).take (HT.sIx xs.length xs.length hi - HT.sIx xs.length 0 lo),YI _ rfl⟩
noncomputable def Zca:V->Bool
 | .non=>true
 | .bl _=>true
 | .int _=>true
 | .str _=>true
 | _=>false
noncomputable def eqV:V->V->Bool
 | .non,.non=>true
 | .bl a,.bl b=>a == b
 | .bl a,.int b=>(if a then 1 else 0) == b
 | .int a,.bl b=>a == (if b then 1 else 0)
 | .int a,.int b=>a == b
 | .str a,.str b=>a == b
 | _,_=>false
theorem eqAt_V {A:Around} {s:Shared} {y x:V} {u v:Value} (ry:RelV y u) (rx:RelV x v) (fy:Zca y=true) (fx:Zca x=true):SeqAt.EqAt A s u v (eqV y x):=by
 cases y with
 | non =>
  cases ry
  cases x with
  | non=>cases rx;exact SeqAt.EqAt.same _
  | bl b=>cases rx;exact SeqAt.EqAt.none_bool b
  | int b=>obtain ⟨t,rfl⟩:=rx;exact SeqAt.EqAt.none_int b t
  | str b=>obtain ⟨t,rfl⟩:=rx;exact SeqAt.EqAt.none_str b t
  | _=>exact absurd (show false=true from fx) Yx
 | bl a =>
  cases ry
  cases x with
  | non=>cases rx;exact SeqAt.EqAt.bool_none a
  | bl b=>cases rx;exact SeqAt.EqAt.bool_bool a b
  | int b=>obtain ⟨t,rfl⟩:=rx;exact SeqAt.EqAt.bool_int a b t
  | str b=>obtain ⟨t,rfl⟩:=rx;exact SeqAt.EqAt.bool_str a b t
  | _=>exact absurd (show false=true from fx) Yx
 | int a =>
  obtain ⟨t',rfl⟩:=ry
  cases x with
  | non=>cases rx;exact SeqAt.EqAt.int_none a t'
  | bl b=>cases rx;exact SeqAt.EqAt.int_bool a t' b
  | int b=>obtain ⟨t,rfl⟩:=rx;exact SeqAt.EqAt.int_int a t' b t
  | str b=>obtain ⟨t,rfl⟩:=rx;exact Ycw a t' b t
  | _=>exact absurd (show false=true from fx) Yx
 | str a =>
  obtain ⟨t',rfl⟩:=ry
  cases x with
  | non=>cases rx;exact SeqAt.EqAt.str_none a t'
  | bl b=>cases rx;exact SeqAt.EqAt.str_bool a t' b
  | int b=>obtain ⟨t,rfl⟩:=rx;exact Ycx a t' b t
  | str b=>obtain ⟨t,rfl⟩:=rx;exact SeqAt.EqAt.str_str a t' b t
  | _=>exact absurd (show false=true from fx) Yx
 | _=>exact absurd (show false=true from fy) Yx
noncomputable def eqU (x:V) (u:Value):Bool:=match u with
 | .none=>eqV .non x
 | .bool b=>eqV (.bl b) x
 | .int i _=>eqV (.int i) x
 | .str z _=>eqV (.str z) x
 | _=>false
theorem eqU_of {x y:V} {u:Value} (r:RelV y u) (f:Zca y=true):eqU x u=eqV y x:=by
 cases y with
 | non=>cases r;rfl
 | bl b=>cases r;rfl
 | int i=>obtain ⟨t,rfl⟩:=r;rfl
 | str z=>obtain ⟨t,rfl⟩:=r;rfl
 | _=>exact absurd (show false=true from f) Yx
theorem ZfJ {x:V}:∀ {xs:List V} {us:List Value},Vals xs us->xs.all Zca=true->us.any (eqU x)=xs.any fun y=>eqV y x
 | _,_,.nil,_=>rfl
 | y :: xs,u::us,.cons r t,f=>by
  rw [List.all_cons,Yc] at f
  rw [List.any_cons,List.any_cons,eqU_of r f.1,ZfJ t f.2]
theorem Zef {A:Around} {s:Shared} {x:V} {v:Value} (rx:RelV x v) (fx:Zca x=true):∀ {xs:List V} {us:List Value},Vals xs us->xs.all Zca=true->∀ u∈us,SeqAt.EqAt A s u v (eqU x u)
 | _,_,.nil,_=>fun u hu=>by cases hu
 | y :: xs,u::us,.cons r t,f=>fun u' hu=>by
  rw [List.all_cons,Yc] at f
  rcases Yt.mp hu with rfl | hu
  ·rw [eqU_of r f.1];exact eqAt_V r rx f.1 fx
  ·exact Zef rx fx t f.2 u' hu
noncomputable def inV (x:V) (xs:List V):Bool:=xs.any fun y=>eqV y x
noncomputable def rIn (K:YFr) (neg:Bool):R2:=fun x y H Q=>∃ p xs,y=.ref p/\(SqL K H p xs\/SqT K H p xs)/\Zca x=true/\xs.all Zca=true/\Q (.bl (if neg then !inV x xs else inV x xs)) H
theorem Zji:OpR X (compareOp .In) (rIn X.K false):=by
 intro pins s σ H x y v u Q I rx ry h
 obtain ⟨p,xs,rfl,hq,fx,fs,q⟩:=h
 cases ry
 rcases hq with hq | hq
 ·obtain ⟨its,r,pl,hz⟩:=I.list hq
  refine SeqAt.in_listAt (eqU x) pl.isList (fun w hw=>Zef rx fx r fs w (by simpa using hw)) ⟨.bl _,H,I,rfl,?_⟩
  rw [show its.toArray.any (eqU x)=its.any (eqU x) by simp,ZfJ r fs]
  exact q
 ·obtain ⟨its,r,pl,hz⟩:=I.tuple hq
  refine SeqAt.in_tupleAt (eqU x) pl (fun w hw=>Zef rx fx r fs w (by simpa using hw)) ⟨.bl _,H,I,rfl,?_⟩
  rw [show its.toArray.any (eqU x)=its.any (eqU x) by simp,ZfJ r fs]
  exact q
theorem ZeH:Zbi X (.builtin "len") (fun xs H Q=>∃ p ys,xs=[.ref p]/\(SqL X.K H p ys\/SqT X.K H p ys)/\Q (.int ys.length) H):=by
 intro pins s σ H xs us Q I r h
 obtain ⟨p,ys,rfl,hq,q⟩:=h
 obtain ⟨u,rfl,rx⟩:=vals1 r
 cases rx
 have hn:=ZcT
 rcases hq with hq | hq
 ·obtain ⟨its,r',pl,hz⟩:=I.list hq
  have hlen:=r'.length
  exact Calls.call_len_list pl.isList (by simp only [Yj] <;> lia) ⟨.int ys.length,H,I.tok _,⟨s.toks + 1,by rw [Yj,hlen]⟩,q⟩
 ·obtain ⟨its,r',pl,hz⟩:=I.tuple hq
  have hlen:=r'.length
  exact len_tuple pl (by simp only [Yj] <;> lia) ⟨.int ys.length,H,I.tok _,⟨s.toks + 1,by rw [Yj,hlen]⟩,q⟩
theorem ZeR:Zbi X (.builtin "len") (fun xs H Q=>∃ z,xs=[.str z]/\z.length<=sizeLine/\Q (.int z.length) H):=by
 intro pins s σ H xs us Q I r h
 obtain ⟨z,rfl,hz,q⟩:=h
 obtain ⟨u,rfl,t,rfl⟩:=vals1 r
 have hn:=ZcT
 exact len_str (by lia) ⟨.int z.length,H,I.tok _,⟨_,rfl⟩,q⟩
theorem Zbi.or {f:Value} {r r':List V->Hp->VK->Prop} (h:Zbi X f r) (h':Zbi X f r'):Zbi X f (fun xs H Q=>r xs H Q\/r' xs H Q):=by
 intro pins s σ H xs us Q I rs q
 rcases q with q | q
 ·exact h pins s σ H xs us Q I rs q
 ·exact h' pins s σ H xs us Q I rs q
theorem ZeJ:Zbi X (.type "list") (fun xs H Q=>∃ p ys,xs=[.ref p]/\(SqL X.K H p ys\/SqT X.K H p ys)/\∀ l,H l=none->Q (.ref l) (upd H l (.lst ys))):=by
 intro pins s σ H xs us Q I r h
 obtain ⟨p,ys,rfl,hq,q⟩:=h
 obtain ⟨u,rfl,rx⟩:=vals1 r
 cases rx
 have fin:∀ (its:List Value),Vals ys its->ys.length<=sizeLine->∀ (h':Heap) (c':Nat),(∀ b o',s.heap.get? b=some o'->h'.get? b=some o') ->
   h'.get? s.heap.objs.size=some { cls:=.type "list",dict:=none,data:=.seq its.toArray c',slots:=#[] }->EP X pins σ Q (.ref s.heap.objs.size) { s with heap:=h' }:=fun its r' hz h' c' kp e =>
  ⟨.ref s.heap.objs.size,_,I.laid (t':=s.toks) kp (Yg _) (show Zbo X.prog X.w _ h' _ (.lst ys) from ⟨hz,its,c',r',e⟩),rfl,q _ (I.hok.fresh (Yg _))⟩
 rcases hq with hq | hq
 ·obtain ⟨its,r',pl,hz⟩:=I.list hq
  have hlen:=r'.length
  obtain ⟨o,ho,hc,n,hd⟩:=pl.isList
  exact call_list_seq p (.inl rfl) ho hc hd (fun h' c' kp e=>fin its r' hz h' c' kp e) (by simp only [Yj] <;> lia)
 ·obtain ⟨its,r',pl,hz⟩:=I.tuple hq
  have hlen:=r'.length
  obtain ⟨o,ho,hc,n,hd⟩:=pl
  exact call_list_seq p (.inr rfl) ho hc hd (fun h' c' kp e=>fin its r' hz h' c' kp e) (by simp only [Yj] <;> lia)
theorem Zd8:Zbi X (.type "tuple") (fun xs H Q=>∃ p ys,xs=[.ref p]/\((SqL X.K H p ys/\∀ l,H l=none->Q (.ref l) (upd H l (.tup ys)))\/(SqT X.K H p ys/\Q (.ref p) H))):=by
 intro pins s σ H xs us Q I r h
 obtain ⟨p,ys,rfl,h⟩:=h
 obtain ⟨u,rfl,rx⟩:=vals1 r
 cases rx
 rcases h with ⟨hq,q⟩ | ⟨hq,q⟩
 ·obtain ⟨its,r',pl,hz⟩:=I.list hq
  have hlen:=r'.length
  refine call_tuple_list pl.isList (fun h' kp=>?_) (by simp only [Yj] <;> lia)
  have I1:Inv X pins σ H { s with heap:=h' }:=I.kept (t':=s.toks) kp
  have I2:Inv X pins σ (upd H h'.objs.size (.tup ys)) { s with heap:=h'.push { cls:=.type "tuple",data:=.seq its.toArray } } :=
   I1.laid (t':=s.toks) (fun b o e=>Yi _ e) (Yg _) (show Zbo X.prog X.w _ _ _ (.tup ys) from ⟨hz,its,r',Yc0 _ _⟩)
  exact ⟨.ref h'.objs.size,_,I2,rfl,q _ (I1.hok.fresh (Yg _))⟩
 ·obtain ⟨its,r',pl,hz⟩:=I.tuple hq
  exact call_tuple_same pl ⟨.ref p,H,I,rfl,q⟩
noncomputable def tyV (K:YFr) (T:String) (x:V) (H:Hp):Prop:=match x with
 | .str _=>T="str"
 | .int _=>T="int"
 | .ref p=>(T="list"/\∃ xs,SqL K H p xs)\/(T="tuple"/\∃ o,K.lookup p=some o/\o.cls=.type "tuple"/\o.dict=none) \/
   (T="dict"/\((∃ kvs,H p=some (.dK kvs))\/∃ kvs,H p=some (.dT kvs)))\/(T="set"/\∃ S n,H p=some (.set S n))
 | _=>False
theorem tyV_is {pins:List (Addr × Obj)} {σ:St} {H:Hp} {s:Shared} {T:String} {x:V} {v:Value} (I:Inv X pins σ H s) (r:RelV x v) (ty:tyV X.K T x H) :
  s.TypeIs v T/\∀ a,v=.ref a->∃ ob,s.heap.get? a=some ob/\ob.dict=none:=by
 cases x with
 | str z =>
  obtain ⟨t,rfl⟩:=r
  cases (show T="str" from ty)
  exact ⟨typeIs_str s z t,fun _ e=>nomatch e⟩
 | int i =>
  obtain ⟨t,rfl⟩:=r
  cases (show T="int" from ty)
  exact ⟨typeIs_int s i t,fun _ e=>nomatch e⟩
 | ref p =>
  cases r
  rcases ty with ⟨rfl,xs,hq⟩ | ⟨rfl,o,hk,hc,hd⟩ | ⟨rfl,hk⟩ | ⟨rfl,S,n,hk⟩
  ·obtain ⟨its,_,pl,_⟩:=I.list hq
   refine ⟨pl.isList.typeIs,fun a e=>?_⟩
   cases e
   obtain ⟨o,n,e,c,hd,_⟩:=pl
   exact ⟨o,e,hd⟩
  ·refine ⟨⟨o,I.kIn p o hk,hc⟩,fun a e=>?_⟩
   cases e
   exact ⟨o,I.kIn _ o hk,hd⟩
  ·have z:∃ o,s.heap.get? p=some o/\o.ExactDict:=by
    rcases hk with ⟨kvs,hk⟩ | ⟨kvs,hk⟩
    ·obtain ⟨_,_,_,_,o,_,_,e,ex,_⟩:=I.hok p _ hk
     exact ⟨o,e,ex⟩
    ·obtain ⟨_,_,_,_,o,_,_,e,ex,_⟩:=I.hok p _ hk
     exact ⟨o,e,ex⟩
   obtain ⟨o,e,ex⟩:=z
   refine ⟨⟨o,e,ex.1⟩,fun a e2=>?_⟩
   cases e2
   exact ⟨o,e,ex.2.1⟩
  ·obtain ⟨o,_,_,_,e,ex,_⟩:=I.hok p _ hk
   refine ⟨⟨o,e,ex.1⟩,fun a e2=>?_⟩
   cases e2
   exact ⟨o,e,ex.2.1⟩
 | _=>exact False.elim ty
noncomputable def tBM0 (K:YFr) (T:String) (r:V->List V->Hp->VK->Prop) (to:TE):TE:=fun σ H Q=>to σ H fun x H1=>tyV K T x H1/\r x [] H1 Q
noncomputable def tBM (K:YFr) (T:String) (r:V->List V->Hp->VK->Prop) (to:TE) (t:TA):TE:=fun σ H Q=>to σ H fun x H1=>tyV K T x H1/\t σ H1 fun xs H2=>r x xs H2 Q
variable {o e:Expr} {es:List Expr} {to:TE} {t:TA} {name:Str} {apos cpos:Pos} {T id:String} {r:V->List V->Hp->VK->Prop}
theorem pe_bm0 (pa:PlainAttrs T) (slot:Slot T name id) (hty:typeOf (.builtin id)=pure (.type "method_descriptor")) (hm:MtR X id r) (ho:PE X o to)
  (hbase:attributeBase o name X.env (eval o X.env)=eval o X.env:=by rfl) (hline:(apos.endLine == cpos.line)=true:=by rfl):PE X (.Call (.Attribute o name apos) [] [] cpos) (tBM0 X.K T r to):=by
 intro pins s σ H Q I h
 refine wpAny_Call_method0_late hbase hline (thn (ho pins s σ H _ I h) fun v s1 h_q=>?_)
 obtain ⟨x,H1,I1,r1,ty,q1⟩:=h_q
 obtain ⟨h1,h2⟩:=tyV_is I1 r1 ty
 exact ⟨T,id,pa,slot,hty,h1,h2,Yca rfl (PySem.evalArgs_none (hm pins s1 σ H1 x [] v [] Q I1 r1 .nil q1))⟩
theorem Zdy (pa:PlainAttrs T) (slot:Slot T name id) (hty:typeOf (.builtin id)=pure (.type "method_descriptor")) (hm:MtR X id r) (ho:PE X o to) (ha:PA X (e::es) t)
  (hbase:attributeBase o name X.env (eval o X.env)=eval o X.env:=by rfl)
  (hfew:((backTo cpos (starEach (e::es) X.env)).all (fun x=>!x.1) && (backToKw cpos (keywordEach [] X.env)).all (fun x=>x.1.isSome)
   && decide ((e::es).length + ([]:List Keyword).length + (if ([]:List Keyword).isEmpty then 0 else 1) < 30))=true:=by rfl)
  (hline:(apos.endLine == cpos.line)=true:=by rfl) (hs:starEach (e::es) X.env=(false,eval e X.env)::starEach es X.env:=by rfl) (hplain:(backTo cpos (starEach es X.env)).any (·.1)=false:=by rfl) :
  PE X (.Call (.Attribute o name apos) (e::es) [] cpos) (tBM X.K T r to t):=by
 intro pins s σ H Q I h
 refine wpAny_Call_method_late hbase hfew hline rfl (thn (ho pins s σ H _ I h) fun v s1 h_q=>?_)
 obtain ⟨x,H1,I1,r1,ty,q1⟩:=h_q
 obtain ⟨h1,h2⟩:=tyV_is I1 r1 ty
 refine ⟨T,id,pa,slot,hty,h1,h2,?_⟩
 have hA:=ha cpos pins s1 σ H1 _ I1 q1
 rw [hs] at hA ⊢
 refine Yca (by show (false || (backTo cpos (starEach es X.env)).any (·.1))=false;rw [hplain] <;> rfl) (Calls.evalArgs_plain ?_)
 exact thn hA fun us s2 ⟨vs,H2,I2,r2,q2⟩=>hm pins s2 σ H2 x vs v us Q I2 r1 r2 q2
end
noncomputable def MtM (X:Cx) (id:String) (r:V->List V->Hp->VK->Prop):Prop :=
 ∀ (pins:List (Addr × Obj)) (s:Shared) (σ:St) (H:Hp) (x:V) (xs:List V) (v:Value) (us:List Value) (Q:VK),Inv X pins σ H s->RelV x v->Vals xs us->r x xs H Q ->
  wpAny (model X.prog X.w) X.A (call (.builtin id) (v::us)) (EP X pins σ Q) X.xe s
theorem Vals.one:∀ {x:V} {us:List Value},Vals [x] us->∃ u,us=[u]/\RelV x u
 | _,_,.cons r .nil=>⟨_,rfl,r⟩
theorem Vals.two:∀ {x y:V} {us:List Value},Vals [x,y] us->∃ u v,us=[u,v]/\RelV x u/\RelV y v:=by
 intro x y us h
 cases h with
 | cons r h=>cases h with | cons q h=>cases h;exact ⟨_,_,rfl,r,q⟩
theorem Vals.zero:∀ {us:List Value},Vals [] us->us=[]
 | _,.nil=>rfl
theorem Vals.dropLast {xs:List V} {us:List Value} (h:Vals xs us):Vals xs.dropLast us.dropLast:=by
 induction h with
 | nil=>exact .nil
 | cons r t ih =>
  cases t with
  | nil=>exact .nil
  | cons q t'=>exact .cons r ih
theorem Vals.eraseIdx:∀ {xs:List V} {us:List Value} (i:Nat),Vals xs us->Vals (xs.eraseIdx i) (us.eraseIdx i)
 | _,_,_,.nil=>.nil
 | _,_,0,.cons _ t=>t
 | _,_,i + 1,.cons r t=>.cons r (Vals.eraseIdx i t)
theorem Vals.reverse {xs:List V} {us:List Value} (h:Vals xs us):Vals xs.reverse us.reverse:=by
 induction h with
 | nil=>exact .nil
 | cons r t ih=>rw [Yam,Yam];exact Vals.append ih (.cons r .nil)
theorem Vals.rep {xs:List V} {us:List Value} (h:Vals xs us):∀ k:Nat,Vals (List.replicate k xs).flatten (List.replicate k us).flatten
 | 0=>.nil
 | k + 1=>by
  rw [List.replicate_succ,List.replicate_succ,List.flatten_cons,List.flatten_cons]
  exact Vals.append h (Vals.rep h k)
theorem Zhl {α:Type} (l:List α):l.eraseIdx (l.length - 1)=l.dropLast:=by
 induction l with
 | nil=>rfl
 | cons a r ih =>
  cases r with
  | nil=>rfl
  | cons b r =>
   have e:(a::b::r).length - 1=((b::r).length - 1) + 1:=by
    have h1:(a::b::r).length=r.length + 2:=rfl
    have h2:(b::r).length=r.length + 1:=rfl
    lia
   rw [e,List.eraseIdx_cons_succ,ih]
   all_goals rfl
theorem Zfm {α:Type}:∀ (l:List α) (i:Nat),(l.eraseIdx i).length<=l.length
 | [],_=>Yg _
 | _::_,0=>YcN _
 | _::r,i + 1=>Nat.succ_le_succ (Zfm r i)
theorem ZeM (its:List Value):∀ (k:Nat) (acc:List Value),
  List.foldl (fun x1 x2=>x1++x2) acc.toArray (List.replicate k its.toArray)=(acc++(List.replicate k its).flatten).toArray
 | 0,acc=>by simp
 | k + 1,acc=>by
  have e:acc.toArray++its.toArray=(acc++its).toArray:=by simp
  have e2:(acc++its)++(List.replicate k its).flatten=acc++(List.replicate (k + 1) its).flatten:=by
   rw [List.replicate_succ,List.flatten_cons,Yai]
  rw [<- e2,<- ZeM its k (acc++its),<- e,List.replicate_succ,List.foldl_cons]
section
variable {X:Cx} {pins:List (Addr × Obj)} {σ:St} {H:Hp} {s:Shared} {l b:Addr} {xs ys zs:List V}
theorem Inv.lset {its its':List Value} {n:Nat} {f:Array Value->Array Value} {t':Nat} (I:Inv X pins σ H s) (hH:H l=some (.lst xs))
  (e:s.heap.get? l=some { cls:=.type "list",data:=.seq its.toArray n }) (hf:f its.toArray=its'.toArray) (hv:Vals ys its') (hz:ys.length<=sizeLine) :
  Inv X pins σ (upd H l (.lst ys)) { s with heap:=s.heap.update l (Obj.mapSeq f),toks:=t' }:=by
 have q:=PySem.IsL.update e f
 rw [hf] at q
 refine I.write (x:=l) (e:=l) (by rw [hH];exact trivial) (.inl rfl) (fun b' u hb hu=>(Ybo s.heap (Obj.mapSeq f) (Ne.symm hb)).trans hu) ⟨_,q⟩ ?_
 exact ⟨hz,its',_,hv,q⟩
theorem Inv.lnew {its:List Value} {t':Nat} (I:Inv X pins σ H s) (hv:Vals ys its) (hz:ys.length<=sizeLine) :
  Inv X pins σ (upd H s.heap.objs.size (.lst ys)) { s with heap:=s.heap.push { cls:=.type "list",data:=.seq its.toArray },toks:=t' } :=
 I.laid (fun _ _ q=>Yi _ q) (Yg _) ⟨hz,its,0,hv,YI _ rfl⟩
theorem Inv.fresh (I:Inv X pins σ H s):H s.heap.objs.size=none:=I.hok.fresh (Yg _)
theorem Inv.lstM (I:Inv X pins σ H s) (hH:H l=some (.lst xs)):xs.length<=sizeLine/\∃ (its:List Value) (n:Nat),Vals xs its/\xs.length=its.length/\s.heap.get? l=some { cls:=.type "list",data:=.seq its.toArray n }:=by
 obtain ⟨z,its,n,r,e⟩:=I.hok l _ hH
 exact ⟨z,its,n,r,r.length,e⟩
theorem Zcd {n:Nat} (h:n<=sizeLine):Builtin.List.listTooLong n=false:=by
 unfold Builtin.List.listTooLong
 exact YZ (by lia)
end
section
variable {X:Cx}
noncomputable def ZiQ:V->List V->Hp->VK->Prop:=fun x vs H Q=>∃ l xs y,x=.ref l/\vs=[y]/\H l=some (.lst xs)/\xs.length < sizeLine/\Q .non (upd H l (.lst (xs++[y])))
theorem ZbB:MtM X "list.append" ZiQ:=by
 intro pins s σ H x vs v us Q I rx rv h
 obtain ⟨l,xs,y,rfl,rfl,hH,hz,q⟩:=h
 cases rx
 obtain ⟨u,rfl,ru⟩:=rv.one
 obtain ⟨z,its,n,r,hl,e⟩:=I.lstM hH
 refine YaR F.slot_list_append ⟨_,e,rfl⟩ F.entry_list_append (F.args_list_append_2 _ _) (PySem.list_append l its.toArray n u (by rw [Yj];lia)) ⟨e,?_⟩
 refine ⟨.non,_,I.lset (its':=its++[u]) hH e (by simp) (r.append (.cons ru .nil)) ?_,rfl,q⟩
 rw [Yh,List.length_singleton]
 lia
noncomputable def Zf5:V->List V->Hp->VK->Prop:=fun x vs H Q=>∃ l b xs zs,x=.ref l/\vs=[.ref b]/\H l=some (.lst xs)/\H b=some (.lst zs)/\xs.length + zs.length<=sizeLine/\Q .non (upd H l (.lst (xs++zs)))
theorem Zim:MtM X "list.extend" Zf5:=by
 intro pins s σ H x vs v us Q I rx rv h
 obtain ⟨l,b,xs,zs,rfl,rfl,hH,hB,hz,q⟩:=h
 cases rx
 obtain ⟨u,rfl,ru⟩:=rv.one
 cases ru
 obtain ⟨z,its,n,r,hl,e⟩:=I.lstM hH
 obtain ⟨z2,its2,n2,r2,hl2,e2⟩:=I.lstM hB
 have hsz:its.toArray.size + its2.toArray.size<=sizeLine:=by rw [Yj,Yj];lia
 have hlong:¬ (!its.toArray.isEmpty && Builtin.List.listTooLong (its.toArray.size + its2.toArray.size))=true:=by
  rw [Zcd hsz,Yy]
  exact Yx
 refine YaR YcC ⟨_,e,rfl⟩ Ycq (Yck _ _)
  (AutoSeq1.list_extend_list_list_0 l its.toArray n b its2.toArray n2 hlong (by rw [Yj];lia) (by lia)) ⟨e,e2,?_⟩
 refine ⟨.non,_,I.lset (its':=its++its2) hH e (by simp) (r.append r2) ?_,rfl,q⟩
 rw [Yh]
 lia
noncomputable def rPop:V->List V->Hp->VK->Prop:=fun x vs H Q=>∃ l xs y,x=.ref l/\vs=[]/\H l=some (.lst xs)/\xs[xs.length - 1]? = some y/\Q y (upd H l (.lst xs.dropLast))
theorem mt_pop:MtM X "list.pop" rPop:=by
 intro pins s σ H x vs v us Q I rx rv h
 obtain ⟨l,xs,y,rfl,rfl,hH,hy,q⟩:=h
 cases rx
 have hus:=rv.zero
 subst hus
 obtain ⟨z,its,n,r,hl,e⟩:=I.lstM hH
 obtain ⟨u,hu,ru⟩:=r.get hy
 have hy':its.toArray[its.toArray.size - 1]? = some u:=by
  show its.toArray[its.length - 1]? = some u
  rw [<- Yav,<- hl]
  exact hu
 refine YaR F.slot_list_pop ⟨_,e,rfl⟩ YcR (F.args_list_pop_1 _) (MeetsSeq.list_pop_last l its.toArray n u hy' (by rw [Yj];lia)) ⟨e,?_⟩
 refine ⟨y,_,I.lset (its':=its.dropLast) hH e ?_ r.dropLast ?_,ru,q⟩
 ·show its.toArray.eraseIdxIfInBounds (its.toArray.size - 1)=its.dropLast.toArray
  rw [Yj,Ybx,Zhl]
 ·rw [List.length_dropLast]
  lia
noncomputable def rPopAt:V->List V->Hp->VK->Prop:=fun x vs H Q=>∃ l xs i k y,x=.ref l/\vs=[.int i]/\H l=some (.lst xs)/\-(2 ^ 63)<=i/\i < 2 ^ 63/\seqIndex? i xs.length=some k/\xs[k]? = some y/\Q y (upd H l (.lst (xs.eraseIdx k)))
theorem ZgR:MtM X "list.pop" rPopAt:=by
 intro pins s σ H x vs v us Q I rx rv h
 obtain ⟨l,xs,i,k,y,rfl,rfl,hH,h1,h2,hk,hy,q⟩:=h
 cases rx
 obtain ⟨u,rfl,ru⟩:=rv.one
 obtain ⟨t,rfl⟩:=ru
 obtain ⟨z,its,n,r,hl,e⟩:=I.lstM hH
 obtain ⟨w,hw,rw'⟩:=r.get hy
 refine YaR F.slot_list_pop ⟨_,e,rfl⟩ YcR (F.args_list_pop_2 _ _)
  (MeetsSeq.list_pop_at l its.toArray n i t k w (fitsIndex_both h1 h2) (by rw [Yj,<- hl];exact hk) (by rw [<- Yav];exact hw) (by rw [Yj];lia)) ⟨e,?_⟩
 refine ⟨y,_,I.lset (its':=its.eraseIdx k) hH e ?_ (r.eraseIdx k) ?_,rw',q⟩
 ·show its.toArray.eraseIdxIfInBounds k=(its.eraseIdx k).toArray
  rw [Ybx]
 ·have:=Zfm xs k
  lia
noncomputable def rCat:R2:=fun x y H Q=>∃ l b xs zs,x=.ref l/\y=.ref b/\H l=some (.lst xs)/\H b=some (.lst zs)/\xs.length + zs.length<=sizeLine/\∀ p,H p=none->Q (.ref p) (upd H p (.lst (xs++zs)))
noncomputable def rRep:R2:=fun x y H Q=>∃ l k xs,x=.ref l/\y=.int k/\H l=some (.lst xs)/\-(2 ^ 63)<=k/\k < 2 ^ 63/\xs.length * k.toNat<=sizeLine /\
 ∀ p,H p=none->Q (.ref p) (upd H p (.lst (List.replicate k.toNat xs).flatten))
theorem len_rep {α:Type} (xs:List α) (k:Nat):(List.replicate k xs).flatten.length=k * xs.length:=by
 induction k with
 | zero=>simp
 | succ k ih=>rw [List.replicate_succ,List.flatten_cons,Yh,ih,Nat.succ_mul,Nat.add_comm]
theorem op_rep:OpR X (binaryOp .Mult) rRep:=by
 intro pins s σ H x y v u Q I rx ry h
 obtain ⟨l,k,xs,rfl,rfl,hH,h1,h2,hz,q⟩:=h
 cases rx
 obtain ⟨t,rfl⟩:=ry
 obtain ⟨z,its,n,r,hl,e⟩:=I.lstM hH
 have hlen:its.toArray.size * k.toNat<=sizeLine:=by rw [Yj,<- hl];exact hz
 have hcap:¬ its.toArray.size * k.toNat > (2 ^ 63 - 1) / 8:=by
  have:(sizeLine:Nat)<=(2 ^ 63 - 1) / 8:=by decide
  lia
 have hfit:¬ (!Builtin.List.listFitsIndex k)=true:=by
  rw [fitsIndex_both h1 h2]
  exact Yx
 have hlong:¬ Builtin.List.listTooLong (its.toArray.size * k.toNat)=true:=by
  rw [Zcd hlen]
  exact Yx
 have hnew:List.foldl (fun x1 x2=>x1++x2) #[] (List.replicate (if its.toArray.isEmpty=true then 0 else k.toNat) its.toArray)=(List.replicate k.toNat its).flatten.toArray:=by
  have f0:∀ m:Nat,List.foldl (fun x1 x2=>x1++x2) #[] (List.replicate m its.toArray)=(List.replicate m its).flatten.toArray:=fun m=>by
   have:=ZeM its m []
   rw [List.nil_append] at this
   exact this
  rw [f0]
  cases its with
  | nil=>simp
  | cons a r'=>rw [if_neg (by simp)]
 refine wpAny_binaryOp_repeat_ref (T:="list") (U:="int") (by decide) ⟨_,e,rfl⟩ (fun s'=>typeIs_int s' k t) noFill_list_mul F.fills_int_mul F.slot_int_rmul repeat_list F.slot_int_index.lookup
  (YaR F.slot_int_rmul (typeIs_int s k t) F.entry_int_rmul (F.args_int_rmul_2 _ _) (int___rmul___int_list k t l its.toArray n)
   ⟨e,rfl,⟨_,e,rfl⟩,YaR F.slot_list_mul ⟨_,e,rfl⟩ F.entry_list_mul (F.args_list_mul_2 _ _) (AutoListH.list___mul___list_int_3 l its.toArray n k t hfit hcap hlong) ⟨e,?_⟩⟩)
 rw [hnew]
 exact ⟨.ref _,_,I.lnew (t':=s.toks) (r.rep k.toNat) (by rw [len_rep,Nat.mul_comm];exact hz),rfl,q _ I.fresh⟩
end
end L2
namespace Att
open PySem PySem.W PySem.Calls PyProof.Rows
theorem Zdf {P:Params} {h:Heap}:∀ (ns:List Int) (vs:List Value),WellAll P h vs (ns.map WData.int)->IntsAre vs ns:=by
 intro ns
 induction ns with
 | nil =>
  intro vs w
  rw [Ya0] at w
  cases w
  exact .nil
 | cons n ns ih =>
  intro vs w
  rw [Yu] at w
  cases w with
  | cons a b =>
   cases a
   exact .cons _ _ (ih _ b)
theorem ZhY {l:OpenLaw} {n:Nat} (hn:l.most=some n) {P:Params} {h:Heap} {args:List WData} {vals:List Value}
  (hpre:l.row.toRowW.claim.pre args=true) (hwl:WellAll P h vals args) :
  ∃ a vs ns,vals=[Value.ref a]/\args=[WData.list (ns.map WData.int)]/\h.get? a=some { cls:=.type "list",data:=.seq vs.toArray }/\IntsAre vs ns/\ns.length<=n:=by
 have hsh:WShape.hasAll [] args [.list .int]=true:=(pre_splitW hpre).1
 have hc:l.pre.holds [] { args:=args }=true:=(pre_splitW hpre).2
 obtain ⟨d,r,rfl,h1,h2⟩:=hasAllW_cons hsh
 obtain rfl:=hasAllW_nil h2
 obtain ⟨xs,rfl,h3⟩:=hasW_list h1
 obtain ⟨ns,rfl⟩:=items_int h3
 have hlen:ns.length<=n:=by
  unfold OpenLaw.pre at hc
  have h4:(WTm.not (.lt (.lit (.int (n:Int))) (.len (.arg 0)))).holds [] { args:=[.list (ns.map .int)] }=true:=by
   have h4:=(holds_andW hc).1
   rw [hn] at h4
   exact h4
  have h5:=condW_of h4 (w_not (w_lt w_lit (w_len_list (w_arg rfl))))
  rw [Yb] at h5
  refine YcS fun q=>?_
  have q':(n:Int) < ((ns.length:Nat):Int):=by lia
  first
   | (rw [YaA q'] at h5;exact absurd h5 (by decide))
   | (simp at h5;lia)
 cases hwl with
 | cons w1 w2 =>
  cases w2
  cases w1 with
  | list ho hall=>exact ⟨_,_,ns,rfl,rfl,ho,Zdf ns _ hall,hlen⟩
theorem Zjg (l:OpenLaw) (args:List WData):l.row.toRowW.claim.post args (.bool true) args=true :=
 postW_of (r:=l.row.toRowW) (X:=(true == true))
  (show WShape.has [] (.bool true) .bool=true by first | rfl | decide | simp [WShape.has,WShape.arms,WShape.armsAll])
  (show (WTm.eq .res (.lit (.bool true))).value [] { args:=args,res:=some (.bool true),after:=args }=some (.bool (true == true)) from w_eq_bool (w_res rfl) w_lit) rfl
theorem attach_call {l:OpenLaw} {n:Nat} {q:Program} {loose:List Str} {XP:(Str->Option Value)->Heap->Prop} {YP:World->Heap->Prop} {d:DefRec}
  (hn:l.most=some n) (hdf:d.params.defaults=[])
  (call:∀ (w:World) (s₀ s₁:Shared) (mg mb:Str->Option Value) (fa:Addr) (o:Obj) (pm cd doc:Value) (a:Addr) (vs:List Value) (ns:List Int),
   Ground q loose [] XP w s₀ mg mb s₁.heap->YP w s₁.heap ->
   s₁.heap.get? fa=some o->o.data=.func (docDef d.name d.params d.body d.scope pm cd doc)->s₁.heap.CodeRec cd d.name->mg d.name=some (.ref fa) ->
   s₁.heap.get? a=some { cls:=.type "list",data:=.seq vs.toArray }->IntsAre vs ns->ns.length<=n->s₁.gens=#[] ->
   codeAny (model l.prog w) callerA (.call (.ref fa) ⟨[.ref a],[]⟩) (fun r s'=>r=.ok (.ret (.bool true))/\OldK s₁.heap s'.heap/\s'.os=s₁.os/\AllBare s'.gens) s₁) :
  WalkO q loose XP YP l.row.toRowW d [] (fun f vs=>PySem.call f vs):=by
 intro w s₀ s₁ mg mb G Y fa o pm cd doc dV kV ho hd hcd hD hmg hg args vals as hpre hlay hrd hwl hlo
 obtain rfl:dV=.none:=Dflts.none hD hdf
 obtain rfl:kV=.none:=Dflts.noKw hD
 obtain ⟨a,vs,ns,rfl,rfl,hobj,hints,hlen⟩:=ZhY hn hpre hwl
 refine enter_call (Ya7 (call w s₀ s₁ mg mb fa o pm cd doc a vs ns G Y ho (fd_plain hd) hcd hmg hobj hints hlen hg) fun r s' hq=>?_)
 obtain ⟨rfl,h2,h3,h4⟩:=hq
 exact ⟨.inl ⟨.bool true,.bool true,[],rfl,fun _=>rfl,.bool true,Zjg l _,fun _=>⟨List.Pairwise.nil,fun _ hm=>(nomatch hm)⟩⟩,h2,h3,h4⟩
end Att
namespace L2
open PySem PySem.Spec PyProof.Rows
theorem ZeD:∀ {vs:List Value} {ns:List Int},IntsAre vs ns->Vals (ns.map V.int) vs
 | _,_,.nil=>.nil
 | _,_,.cons n t h=>.cons ⟨t,rfl⟩ (ZeD h)
noncomputable def defArgs (s:Stmt):Arguments:=match s with
 | .FunctionDef _ a _ _ _ _ _ _ _ _=>a
 | _=>{ posonlyargs:=[],args:=[],vararg:=none,kwonlyargs:=[],kw_defaults:=[],kwarg:=none,defaults:=[] }
noncomputable def defBody (s:Stmt):List Stmt:=match s with
 | .FunctionDef _ _ b _ _ _ _ _ _ _=>b
 | _=>[]
noncomputable def defScope (s:Stmt):Scope:=match s with
 | .FunctionDef _ _ _ _ _ _ sc _ _ _=>sc
 | _=>{ kind:=.function,names:=[],isGenerator:=false,isCoroutine:=false }
noncomputable abbrev CX0:CXT:=fun _ _ _ _ _ _=>False
noncomputable abbrev E0:XK:=fun _ _ _=>False
theorem Z7 {X:Cx}:Zf9 CX0 X E0:=fun _ _ _ _ _ _ _ h=>h.elim
structure Fun (K:YFr) (x qual:Str) (st:Stmt) (f:Addr) (fd:FuncData):Prop where
 ex : ∃ (oc:Value) (od:Option Addr) (kV doc pm:Value) (an:Option Addr) (cdv ct:Value) (osl:Array (Option Value)),
  fd=PySem.W.fnOf x qual (defArgs st) (defBody st) (defScope st) .none kV doc pm an cdv ct/\K.lookup f=some ⟨oc,od,.func fd,osl⟩/\PySem.W.codeIn K cdv qual=true
 kp:PySem.W.keepIn K (.ref f)=true
section
variable {P:Program} {w:World} {K:YFr} {mg:Str->Option Value} {base:Heap}
theorem Fun.ok {x qual:Str} {st:Stmt} {f:Addr} {fd:FuncData} {N ps:List Str} {k:Nat} {sp:Sp} (F:Fun K x qual st f fd) (S:ZA N ps (defScope st)) (len:∀ vs H Q E,sp vs H Q E->vs.length=ps.length)
  (hbody:∀ (cdv:Value) (A:Around) (outer:List Env) (s:Shared) (H:Hp) (vs:List V) (Q:VK) (E:XK),Room k (A.deeper (envOfC qual (defScope st) s.heap.objs.size f cdv))->sp vs H Q E ->
   ∃ t,PSs (cxOf CX0 P w K mg base N qual (defScope st) f cdv A outer s H E).nox (defBody st) t/\t { nx:=fun _ H'=>Q .non H',rt:=Q } (start N vs) H):FnOk P w K mg base CX0 (k + 1) f fd ps sp:=by
 obtain ⟨oc,od,kV,doc,pm,an,cdv,ct,osl,rfl,lk,hcd⟩:=F.ex
 refine fn_of lk hcd S len fun A outer s H vs Q E hr hsp=>?_
 obtain ⟨t,h,q⟩:=hbody cdv A outer s H vs Q E hr hsp
 exact ⟨t,h.nox,q⟩
theorem Fun.binds {x qual:Str} {st:Stmt} {f:Addr} {fd:FuncData} {ps:List Str} (F:Fun K x qual st f fd)
  (h:∀ (kV doc pm:Value) (an:Option Addr) (cdv ct:Value) (us:List Value),us.length=ps.length->bindArgs (PySem.W.fnOf x qual (defArgs st) (defBody st) (defScope st) .none kV doc pm an cdv ct) ⟨us,[]⟩=pure (ps.zip us)):Zao K fd ps []:=by
 obtain ⟨oc,od,kV,doc,pm,an,cdv,ct,osl,rfl,lk,hcd⟩:=F.ex
 exact .all (h kV doc pm an cdv ct)
theorem Zag {x qual:Str} {st:Stmt} {f:Addr} {oc:Value} {od an:Option Addr} {osl:Array (Option Value)} {kV doc pm cdv ct:Value} (l:K.lookup f=some ⟨oc,od,.func (PySem.W.fnOf x qual (defArgs st) (defBody st) (defScope st) .none kV doc pm an cdv ct),osl⟩)
  (c:PySem.W.codeIn K cdv qual=true) (k:PySem.W.keepIn K (.ref f)=true):Fun K x qual st f (PySem.W.fnOf x qual (defArgs st) (defBody st) (defScope st) .none kV doc pm an cdv ct):=⟨⟨oc,od,kV,doc,pm,an,cdv,ct,osl,rfl,l,c⟩,k⟩
end
theorem Ziz {n:Nat} (h:n<=1000):n < sizeLine:=Ybc h (by decide)
section
variable {X:Cx}
theorem pv (i:Nat) {x:Str} {pos:Pos} (hN:X.N[i]? = some x:=by rfl) (hv:Vis X.env.scope x:=by first | exact Or.inl rfl | exact Or.inr (Or.inl rfl) | exact Or.inr (Or.inr rfl)) (hd:(x == ("__debug__":Str))=false:=by decide)
  (hcd:(x == ("__classdict__":Str))=false:=by decide):PE X (.Name x pos) (tVar i):=pe_var hN hv hd hcd
end
noncomputable def Same (H H':Hp):Prop:=∀ b o,H b=some o->H' b=some o
theorem Same.refl (H:Hp):Same H H:=fun _ _ h=>h
open PySem PySem.W
noncomputable def Zdz (tb:String->Option Builtin) (p:Program) (w:World) (n₀:Nat) (ann:Option Value):Nat->SharedT->Thread->Option SharedT
 | 0,_,_=>none
 | n + 1, s,t=>match through t with
  | true=>some s
  | false=>match stepOk n₀ ann t with
   | false=>none
   | true=>match stepT (denote tb) p w s t with
    | some (s',t')=>Zdz tb p w n₀ ann n s' t'
    | none=>none
theorem ZeT {tb:String->Option Builtin} {p:Program} {w:World} {n₀:Nat} {ann:Option Value}:∀ {n:Nat} {s s':SharedT} {t:Thread},Zdz tb p w n₀ ann n s t=some s'->topRun tb p w n₀ ann n s.abs t=some s'.abs
 | 0,_,_,_,h=>by cases h
 | n + 1, s,s',t,h=>by
  unfold Zdz at h
  unfold topRun
  cases ht:through t with
  | true=>rw [ht] at h;cases h;rfl
  | false =>
   rw [ht] at h
   cases hk:stepOk n₀ ann t with
   | false=>rw [hk] at h;cases h
   | true =>
    rw [hk] at h
    cases hs:stepT (denote tb) p w s t with
    | none=>rw [hs] at h;cases h
    | some r=>obtain ⟨s₂,t₂⟩:=r;rw [hs] at h;rw [stepT_spec hs];exact ZeT h
noncomputable def ZfM (x:Option (BT × Nat)) (o:Obj):Option (BT × Nat):=match x with
 | none=>none
 | some (t,n)=>match ((t.ins n o).get n).isSome with
  | true=>some (t.ins n o,n + 1)
  | false=>none
noncomputable def Zih (l:List Obj):Option (BT × Nat):=l.foldl ZfM (some (.nil,0))
theorem Zfd:∀ l:List Obj,l.foldl ZfM none=none
 | []=>rfl
 | o::l=>Zfd l
theorem ZgE:∀ (l pre:List Obj) (t:BT) (n:Nat) (T:BT) (m:Nat) (life:Life),n=pre.length->absHeap t n life=⟨pre.toArray,life⟩->l.foldl ZfM (some (t,n))=some (T,m)->m=(pre++l).length/\absHeap T m life=⟨(pre++l).toArray,life⟩
 | [],pre,t,n,T,m,life,hn,h,e=>by
  cases e
  rw [Y8]
  exact ⟨hn,h⟩
 | o :: l,pre,t,n,T,m,life,hn,h,e=>by
  rw [List.foldl_cons] at e
  cases hs:((t.ins n o).get n).isSome with
  | false =>
   have:ZfM (some (t,n)) o=none:=by unfold ZfM;simp only [hs]
   rw [this,Zfd] at e;cases e
  | true =>
   have hp:ZfM (some (t,n)) o=some (t.ins n o,n + 1):=by unfold ZfM;simp only [hs]
   rw [hp] at e
   have:=ZgE l (pre++[o]) (t.ins n o) (n + 1) T m life (by rw [Yh,hn];rfl) (by
    rw [absHeap_ins hs,h]
    show Heap.mk _ _=Heap.mk _ _
    simp) e
   rw [Yai] at this
   exact this
theorem Zi5 {l:List Obj} {T:BT} {m:Nat} {life:Life} (h:Zih l=some (T,m)):m=l.length/\absHeap T m life=⟨l.toArray,life⟩:=by
 have:=ZgE l [] .nil 0 T m life rfl rfl h
 simpa using this
noncomputable def Zgt {β:Type}:List Obj->(List Obj->β)->β
 | [],k=>k []
 | ⟨a,b,c,d⟩::l,k=>Zgt l fun l'=>k (⟨a,b,c,d⟩::l')
theorem ZeN {β:Type}:∀ (l:List Obj) (k:List Obj->β),Zgt l k=k l
 | [],k=>rfl
 | ⟨a,b,c,d⟩::l,k=>by rw [Zgt,ZeN l]
noncomputable def headT {β:Type} (p:Program) (w:World) (os:OsState) (m:Nat) (ann:Option Value) (M:Nat) (k:Shared->β):Option β :=
 match Zih (boot_heap w.params).objs.toList with
 | none=>none
 | some (T,n)=>match Zdz treeTable p w m ann M ⟨T,n,(boot_heap w.params).life,#[],boot_drawn,boot_toks,os⟩ (topStub p) with
  | none=>none
  | some s=>some (Zgt (s.tree.list s.n) fun l=>k ⟨⟨l.toArray,s.life⟩,s.gens,s.drawn,s.toks,s.os⟩)
theorem Zjk {β:Type} {p:Program} {w:World} {os:OsState} {m:Nat} {ann:Option Value} {M:Nat} {k:Shared->β} {r:β} (h:headT p w os m ann M k=some r):∃ s,topRun treeTable p w m ann M ⟨boot_heap w.params,#[],boot_drawn,boot_toks,os⟩ (topStub p)=some s/\k s=r:=by
 unfold headT at h
 cases hb:Zih (boot_heap w.params).objs.toList with
 | none=>rw [hb] at h;cases h
 | some x =>
  obtain ⟨T,n⟩:=x
  rw [hb] at h
  obtain ⟨hn,ha⟩:=Zi5 (life:=(boot_heap w.params).life) hb
  have ha:absHeap T n (boot_heap w.params).life=boot_heap w.params:=by rw [ha]
  simp only at h
  cases ht:Zdz treeTable p w m ann M ⟨T,n,(boot_heap w.params).life,#[],boot_drawn,boot_toks,os⟩ (topStub p) with
  | none=>rw [ht] at h;cases h
  | some s =>
   rw [ht] at h
   simp only [ZeN,Option.some.injEq] at h
   have:=ZeT ht
   rw [show (SharedT.mk T n (boot_heap w.params).life #[] boot_drawn boot_toks os).abs=⟨boot_heap w.params,#[],boot_drawn,boot_toks,os⟩ from by unfold SharedT.abs;simp only;rw [ha]] at this
   exact ⟨s.abs,this,h⟩
theorem ZhG {p q:Program} {loose:List Str} {Xt:Shared->Bool} {α:Type} {Yf:Shared->α} {Ya:World->α} {N:Nat} {g0:Bool} {m:Nat} {ann:Option Value}
  (e:opening p=plainProg p.main.scope.names) (hN:Nat.ble 600 N=true) (f:∀ s,fenceModules? p s=some s)
  (size:∀ w:World,((boot_heap w.params).isNs mainGlobals,(boot_heap w.params).objs.size,(boot_heap w.params).nsMap mainGlobals "__annotations__")=(true,m,ann))
  (run:∀ (w:World) (os:OsState),headT p w os m ann N (fun s=>(staticsOk (importedModules p.main.body) (boot_heap w.params) s.heap && namesBound p s.heap && gensDone s && laidKept (boot_heap w.params) s.heap,openSeen q loose (importedModules p.main.body) Xt g0 s,Yf s))=some (true,openGood q loose,Ya w)) :
  LeftO p q loose Xt Yf Ya N g0:=fun w=>by
 obtain ⟨⟨h,gs,d,k,os⟩,eo,e'⟩:=Yak.mp (boot_open e hN f w)
 obtain ⟨rfl,rfl,rfl,rfl⟩:h=boot_heap w.params/\gs=#[]/\d=boot_drawn/\k=boot_toks:=by simpa using e'
 obtain ⟨z1,z2,z3⟩:_/\_/\_:=by simpa only [Prod.mk.injEq] using size w
 obtain ⟨s,r,l⟩:=Zjk (run w os)
 obtain ⟨l1,l2,l3⟩:_/\_/\_:=by simpa only [Prod.mk.injEq] using l
 have t:topFrom treeTable p w N ⟨boot_heap w.params,#[],boot_drawn,boot_toks,os⟩=some s:=by
  unfold topFrom
  dsimp only
  rw [z1,z2,z3,r]
  show (match staticsOk (importedModules p.main.body) (boot_heap w.params) s.heap && namesBound p s.heap && gensDone s && laidKept (boot_heap w.params) s.heap with | true=>_ | false=>_)=_
  rw [l1]
 unfold openEnds
 rw [eo]
 show (topFrom treeTable p w N _).map _=_
 rw [t]
 exact congrArg some (Prod.ext l2 l3)
noncomputable def hEnt (P:Params) (x:Str) (t:Nat) (v:Value):DictEntry:=⟨PyData.keyHash P x,.str x t,v⟩
noncomputable def hNs (n:Nat) (es:List DictEntry):Obj:=⟨.type "dict",none,.dict es.toArray n,#[]⟩
noncomputable def hTup (vs:List Value):Obj:=⟨.type "tuple",none,.seq vs.toArray 0,#[]⟩
noncomputable def hRf:Option Nat->Value
 | some a=>.ref a
 | none=>.none
noncomputable def ZaX (x q:Str) (t ln ac fl a b:Nat) (d e:Option Nat) (f m n:Nat):Obj :=
 ⟨.type "code",none,.fields #[.str x t,.str q (t + 1),.str "/claim/cut.py" (t + 2),.int ln 0,.int ac 0,.int 0 0,.int 0 0,.int fl 0,.ref a,.bool true,.int 181 0,.ref b,.none,hRf d,hRf e,.ref f,.int m 0,.int ln 0,.str "/claim/cut.py" n],#[]⟩
noncomputable def hFun (st:Stmt) (x q:Str) (pm:Value) (c:Nat):Obj:=⟨.type "function",none,.func (fnOf x q (defArgs st) (defBody st) (defScope st) .none .none .none pm none (.ref c) .none),#[]⟩
noncomputable def hBoot (w:World):Bool × Nat × Option Value:=((boot_heap w.params).isNs mainGlobals,(boot_heap w.params).objs.size,(boot_heap w.params).nsMap mainGlobals "__annotations__")
end L2
set_option maxHeartbeats 4000000
namespace L2
open PySem PySem.Spec PyProof.Rows
theorem Ze2 {prog:Program} {w:World} {A:Around} {R:Result->Shared->Prop} {s:Shared} {elt target iter:Expr} {ifs:List Expr} {scope:Scope} {pos:Pos} {it acc:Value} {env:Env} (I:Nat->Shared->Prop)
  (turn : ∀ n s,I n s->wpAny (model prog w) A (pyNext it) (fun r s₁=>match r with
   | none=>R (.ok .next) s₁
   | some v => wpAny (model prog w) A (letOwnedTupleGo target it v) (fun _ s₁'=>wpAny (model prog w) A (assign target env v) (fun _ s₂ =>
     wpAny (model prog w) A (forIn ifs true fun c r=>if r=true then do let ok <- isTrue c env (eval c env);pure (ForInStep.yield ok) else pure (ForInStep.yield r)) (fun ok s₃ =>
      if ok=true then wpAny (model prog w) A (eval elt env) (fun x s₄ =>
       wpAny (model prog w) A (call (.builtin "list.append") [acc,x]) (fun _ s₅=>∃ m,m < n/\I m s₅) (fun _ _=>False) s₄) (fun _ _=>False) s₃
      else ∃ m,m < n/\I m s₃) (fun _ _=>False) s₂) (fun _ _=>False) s₁') (fun _ _=>False) s₁) (fun _ _=>False) s)
  (n:Nat) (h:I n s) :
  codeAny (model prog w) A (.compLoop (.ListComp elt [⟨target,iter,ifs,0⟩] scope pos) 0 it acc env) R s:=by
 refine codeAny_loop rfl I (fun n s hI=>?_) n h
 show wpAny _ A ((compTurn (.ListComp elt [⟨target,iter,ifs,0⟩] scope pos) 0 it acc env).onRaise (fun x=>do noteFrame x env;theTreesLotGoes x)) _ _ s
 refine wpAny_noted ?_
 rw [compTurn_list]
 refine Yd (YaG (Yd (YV (turn n s hI) (fun r s₁ h₁=>?_) fun _ _ h'=>h'.elim)))
 cases r with
 | none=>exact Yl h₁
 | some v =>
  refine Yd (YV h₁ (fun _ s₁' h₁'=>?_) fun _ _ h'=>h'.elim)
  refine Yd (YV h₁' (fun _ s₂ h₂=>Yd (YV h₂ (fun ok s₃ h₃=>?_) fun _ _ h'=>h'.elim)) fun _ _ h'=>h'.elim)
  cases ok with
  | false=>exact Yl ⟨rfl,h₃⟩
  | true =>
   exact Yd (Yd (YV h₃ (fun x s₄ h₄=>Yd (YV h₄ (fun _ s₅ h₅=>Yl (Yl ⟨rfl,h₅⟩)) fun _ _ h'=>h'.elim)) fun _ _ h'=>h'.elim))
noncomputable def Cx.comp (X:Cx) (scope:Scope) (cl:List (Str × Addr)) (N:List Str) (pins:List (Addr × Obj)) (s:Shared) (H:Hp) (fp:List Addr):Cx where
 prog:=X.prog
 w := X.w
 K := X.K
 mg:=X.mg
 base:=X.base
 A := X.A
 N := N
 s₀:=s
 H₀:=H
 env:=compEnvC scope cl s.heap.objs.size X.env
 outer:=X.stack
 stack:=X.stack
 ex:=fp
 fn:=fun _=>false
 calm:=X.calm
 pn:=X.pn++pins
 xe:=fun _ _=>False
noncomputable def ZaR (nt:Nat) (frs:List (Str × Nat)) (σ:St):St:=List.replicate nt none++frs.map fun p=>(σ[p.2]?).join
structure Za2 (X:Cx) (scope:Scope) (cl:List (Str × Addr)) (ts:List Str) (frs:List (Str × Nat)):Prop where
 clos:closureFor scope X.env=pure cl
 kind:scope.kind=.function
 nocell:∀ y∈scope.names,y.2≠.cell
 names:∀ y∈scope.names,y.2=.local->scope.names.lookup y.1=some .local
 sub:∀ p∈cl,X.env.cells.lookup p.1=some p.2
 has:∀ p∈(relabel scope X.env).names,p.2=.cell\/p.2=.free->(cl.lookup p.1).isSome=true
 out:∀ p∈frs,X.N[p.2]? = some p.1/\(X.env.kindOf p.1=some .cell\/X.env.kindOf p.1=some .free)/\((relabel scope X.env).names.lookup p.1=some .cell\/(relabel scope X.env).names.lookup p.1=some .free)/\(cl.lookup p.1).isSome=true
section
variable {X:Cx} {scope:Scope} {cl:List (Str × Addr)} {ts:List Str} {frs':List (Str × Nat)} {pins:List (Addr × Obj)} {σ:St} {H:Hp} {s:Shared} {fp:List Addr}
theorem Za2.subL (S:Za2 X scope cl ts frs') {x:Str} {c:Addr} (h:cl.lookup x=some c):X.env.cells.lookup x=some c:=S.sub (x,c) (Yao h)
theorem Za2.inv (S:Za2 X scope cl ts frs') (I:Inv X pins σ H s) (hf:∀ b∈fp,FpOk X pins H b) (hlt:∀ b∈fp,b < s.heap.objs.size) {h₁:Heap} {tk:Nat} {m:Str->Option Value} (hns:h₁.Ns s.heap.objs.size m)
  (hk:∀ b o,s.heap.get? b=some o->h₁.get? b=some o):Inv (X.comp scope cl (ts++frs'.map (·.1)) pins s H fp) [] (ZaR ts.length frs' σ) H { s with heap:=h₁,toks:=tk }:=by
 have hC:∀ b o,s.heap.get? b=some o->b≠s.heap.objs.size:=fun b o e=>YD (Yo e)
 have hcell:∀ x c,cl.lookup x=some c->∃ v,h₁.IsCell c v:=fun x c e=>by
  obtain ⟨v,o,ho,hd⟩:=I.cell x c (S.subL e)
  exact ⟨v,o,hk c o ho,hd⟩
 refine ⟨⟨I.ok.mod,?_,I.ok.glob,I.ok.blt,Yg _,fun x y c h1 h2=>I.ok.inj x y c (S.subL h1) (S.subL h2),fun x hx=>?_,fun x c z=>(by cases z),I.ok.hd,I.ok.frames,.inl rfl,fun b hb=>⟨YD (hlt b hb),fun x c e=>?_⟩,I.bs,YE I.ok.bsz I.sz,fun b o e hb=>?_,fun b hb z=>?_,I.stack,I.stkFree⟩,
  rfl,I.bare,Un.kept hk,⟨m,hns,fun i x v h1 h2 h3=>?_⟩,hcell,I.hok.fresh (Yg _),fun x c e=>I.freeC x c (S.subL e),fun p hp=>?_,I.hok.kept hk,?_⟩
 ·exact S.kind
 ·have hx':(relabel scope X.env).names.lookup x=some .cell\/(relabel scope X.env).names.lookup x=some .free:=hx
  have:(cl.lookup x).isSome=true:=by
   rcases hx' with e | e
   ·exact S.has (x,.cell) (Yao e) (.inl rfl)
   ·exact S.has (x,.free) (Yao e) (.inr rfl)
  exact Ya9.mp this
 ·exact (hf b hb).2.2.2.2.1 x c (S.subL e)
 ·obtain ⟨_,_,_,h4,_⟩:=hf b hb
  rcases h4 with h4 | h4
  ·exact I.ok.noex b o e h4
  ·exact absurd (YL (Yo e) (YE I.ok.bsz h4)) (YaO _)
 ·obtain ⟨_,h2,h3,_⟩:=hf b hb
  rcases Yt.mp (I.stkSub b z) with e | e
  ·exact h2 e
  ·exact h3 e
 ·have hi : ts.length<=i:=by
   by_cases hi:ts.length<=i
   ·exact hi
   ·have:(ZaR ts.length frs' σ)[i]? = some none:=by
     unfold ZaR
     rw [Yar (by simp;lia),Yb1,if_pos (by lia)]
    rw [this] at h2;cases h2
  obtain ⟨p,hp,e1,e2⟩:∃ p∈frs',p.1=x/\(σ[p.2]?).join=some v:=by
   have h1':(ts++frs'.map (·.1))[i]? = some x:=h1
   have h2':(ZaR ts.length frs' σ)[i]? = some (some v):=h2
   unfold ZaR at h2'
   rw [Yae hi,Yr] at h1'
   rw [Yae (by simpa using hi),Yr,Ycd] at h2'
   cases e:frs'[i - ts.length]? with
   | none=>rw [e] at h1';cases h1'
   | some p =>
    rw [e] at h1' h2'
    exact ⟨p,Yn e,Y0 h1',Y0 h2'⟩
  obtain ⟨o1,o2,o3,o4⟩:=S.out p hp
  rw [e1] at o1 o2 o3 o4
  have e3:σ[p.2]? = some (some v):=by
   cases e:σ[p.2]? with
   | none=>rw [e] at e2;cases e2
   | some q=>rw [e] at e2;exact congrArg some e2
  obtain ⟨m',_,hl⟩:=I.loc
  have hv:Vis X.env.scope x:=by
   rcases o2 with o2 | o2
   ·exact .inr (.inl o2)
   ·exact .inr (.inr o2)
  obtain ⟨u,r,l⟩:=hl p.2 x v o1 e3 hv
  refine ⟨u,r,.inr ⟨o3,?_⟩⟩
  obtain ⟨c,hc⟩:=Ya9.mp o4
  rcases l with ⟨k,_⟩ | ⟨_,c',e,ob,ho,hd⟩
  ·rcases o2 with o2 | o2 <;> (rw [o2] at k;cases k)
  ·have:c'=c:=by have:=S.subL hc;rw [this] at e;exact (Y0 e).symm
   subst this
   exact ⟨c',hc,ob,hk c' ob ho,hd⟩
 ·have hp':p∈X.pn++pins:=by
   have:p∈(X.pn++pins)++[]:=hp
   rwa [Y8] at this
  obtain ⟨e,n,ne,nf,d⟩:=I.pin p hp'
  refine ⟨hk _ _ e,n,hC _ _ e,fun z=>?_,d⟩
  rcases Yt.mp (I.stkSub _ z) with e' | e'
  ·exact ne e'
  ·exact nf e'
 ·show (ZaR ts.length frs' σ).length=(ts++frs'.map (·.1)).length
  unfold ZaR
  simp
theorem Za2.after (I:Inv X pins σ H s) (hf:∀ b∈fp,FpOk X pins H b) {N:List Str} {σ':St} {H':Hp} {s':Shared} (J:Inv (X.comp scope cl N pins s H fp) [] σ' H' s') {h':Heap} (hs:Heap.SameBut s.heap.objs.size s'.heap h') :
  Inv X pins σ H' { s' with heap:=h' }:=by
 have hC:∀ b o,s.heap.get? b=some o->b≠s.heap.objs.size:=fun b o e=>YD (Yo e)
 have fr:H' s.heap.objs.size=none:=J.free
 refine I.call' (s':={ s' with heap:=h' }) (ch:=fp) J.os ?_ ?_ J.bare fun b hb=>?_
 ·have u:=J.base
  exact ⟨fun b o e n h1 h2=>(hs.2 b (hC b o e)).trans (u.keep b o e n h1 h2),fun b o e n h1 h2=>by
    obtain ⟨sl,q⟩:=u.slot b o e n h1 h2
    exact ⟨sl,(hs.2 b (hC b o e)).trans q⟩,u.free,fun b o e h2=>by
    obtain ⟨o',q⟩:=u.there b o e h2
    exact ⟨o',(hs.2 b (hC b o e)).trans q⟩,u.tups,u.frzs,u.tbls⟩
 ·intro b ob e
  refine (J.hok b ob e).stay (fun c w' hc q=>(hs.2 c ?_).trans q) (fun _ q=>q) fun _ _ q=>q
  rintro rfl
  rcases hc with hc | hc
  ·rw [<- hc,fr] at e;cases e
  ·rw [fr] at hc;cases hc
 ·obtain ⟨h1,h2,h3,h4,h5,h6⟩:=hf b hb
  exact ⟨h4,h2,h5,h6⟩
end
noncomputable def PIfs (X:Cx) (ifs:List Expr) (t:TT):Prop :=
 ∀ (pins:List (Addr × Obj)) (s:Shared) (σ:St) (H:Hp) (Q:Bool->Hp->Prop),Inv X pins σ H s->t σ H Q ->
  wpAny (model X.prog X.w) X.A (forIn ifs true fun c r=>if r=true then do let ok <- isTrue c X.env (eval c X.env);pure (ForInStep.yield ok) else pure (ForInStep.yield r)) (TP X pins σ Q) X.xe s
noncomputable def tTrue:TT:=fun _ H Q=>Q true H
theorem Z3 {X:Cx}:PIfs X [] tTrue:=fun _ _ _ H _ I h=>wpAny_tests_nil ⟨H,I,h⟩
theorem pifs_one {X:Cx} {c:Expr} {t:TT} (h:PT X c t):PIfs X [c] t:=fun pins s σ H Q I q=>wpAny_tests_one (h pins s σ H Q I q)
noncomputable def tComp (nt:Nat) (frs:List (Str × Nat)) (wi:TI) (g:TG) (tt:TT) (te:TE):TE:=fun σ H Q=>wi σ H fun J H1=>∀ l,H1 l=none->∃ W:Nat->Nat->St->Hp->Prop,(∃ m,W 0 m (ZaR nt frs σ) (upd H1 l (.lst []))) /\
 ∀ i m τ H,W i m τ H->(J.stop i H/\Q (.ref l) H)\/(J.go i H/\∀ x H',J.yld i H x H'->g x τ H' fun τ2 H2=>tt τ2 H2 fun ok H3 =>
  if ok=true then te τ2 H3 fun y H4=>∃ ys,H4 l=some (.lst ys)/\ys.length < sizeLine/\∃ m',m' < m/\W (i + 1) m' τ2 (upd H4 l (.lst (ys++[y]))) else ∃ m',m' < m/\W (i + 1) m' τ2 H3)
open PySem PySem.Spec PyProof.Rows PySem.Builtin.Str
noncomputable def cutS (z:Str) (lo hi:Option Int):Str:=⟨((z.cps.toList.drop (HT.sIx z.cps.toList.length 0 lo)).take (HT.sIx z.cps.toList.length z.cps.toList.length hi - HT.sIx z.cps.toList.length 0 lo)).toArray⟩
theorem ZcM (v:Int) (n d:Nat):max 0 (min (if v < 0 then v + (n:Int) else v) (n:Int))=((HT.sIx n d (some v):Nat):Int):=by
 rw [<- HT.clip_eq v n d]
 split <;> lia
theorem Zhh (lo hi:Option Int) (n:Nat):strSliceIndices lo hi 1 n=(List.range (HT.sIx n n hi - HT.sIx n 0 lo)).map fun k=>HT.sIx n 0 lo + k:=by
 have h1:∀ (a b:Nat),sliceRange (a:Int) (b:Int) 1=(List.range (b - a)).map fun k=>a + k:=by
  intro a b
  unfold sliceRange
  simp only [show (1:Int) > 0 by decide,if_true]
  have e:(if (a:Int) < (b:Int) then ((b:Int) - (a:Int) + 1 - 1) / 1 else 0).toNat=b - a:=by
   rw [Int.ediv_one]
   split <;> lia
  rw [e]
  refine Yap fun k _=>?_
  lia
 unfold strSliceIndices
 simp only [show (1:Int) > 0 by decide,if_true]
 cases lo with
 | none =>
  cases hi with
  | none=>exact h1 0 n
  | some v =>
   dsimp only
   rw [ZcM v n n]
   exact h1 0 _
 | some u =>
  cases hi with
  | none =>
   dsimp only
   rw [ZcM u n 0]
   exact h1 _ n
  | some v =>
   dsimp only
   rw [ZcM u n 0,ZcM v n n]
   exact h1 _ _
theorem Zhm (l:List Nat) (a k:Nat) (h:a + k<=l.length):((List.range k).map fun i=>a + i).filterMap (fun i=>l[i]?)=(l.drop a).take k:=by
 induction k generalizing a with
 | zero=>simp
 | succ k ih =>
  rw [List.range_succ_eq_map,Yu,List.filterMap_cons]
  have ha:a < l.length:=by lia
  simp only [Nat.add_zero]
  rw [Ye ha]
  dsimp only
  rw [YaM ha,List.take_succ_cons]
  congr 1
  rw [YO,<- ih (a + 1) (by lia)]
  congr 1
  refine Yap fun i _=>?_
  show a + (i + 1)=a + 1 + i
  lia
theorem slice_eq (x:Str) (lo hi:Option Int):Txt.slice x lo hi=cutS x lo hi:=by
 unfold Txt.slice cutS
 have hn:x.length=x.cps.toList.length:=by show x.cps.size=_;simp
 have ha:=HT.sIx_le x.cps.toList.length 0 (YX _) lo
 have hb:=HT.sIx_le x.cps.toList.length x.cps.toList.length (Yg _) hi
 rw [hn,Zhh]
 generalize HT.sIx x.cps.toList.length 0 lo=a at ha ⊢
 generalize HT.sIx x.cps.toList.length x.cps.toList.length hi=b at hb ⊢
 have hp:=Zhm x.cps.toList a (b - a)
 split
 ·rename_i h
  simp only [Yb,Yab,Yc,beq_iff_eq] at h
  have h2:b - a=x.cps.toList.length:=h.2
  by_cases h0:x.cps.toList.length=0
  ·have:x.cps=#[]:=by
    apply Array.eq_empty_of_size_eq_zero;simpa using h0
   cases x;simp_all
  ·have ea:a=0:=by lia
   subst ea
   rw [YaB,Yal (by lia)]
 ·congr 1
  by_cases hab:a<=b
  ·rw [<- hp (by lia)]
   congr 1
   simp only [Yav]
  ·have:b - a=0:=by lia
   rw [this];simp
section
variable {X:Cx}
noncomputable def rSlS:V->Option Int->Option Int->Hp->VK->Prop:=fun x lo hi H Q=>∃ z,x=.str z/\z.length<=sizeLine/\Q (.str (cutS z lo hi)) H
theorem sl_str:SlR X rSlS:=by
 intro pins s σ H x v vl vu lo hi sl Q I rx hs pl pu h
 obtain ⟨z,rfl,hz,q⟩:=h
 obtain ⟨t,rfl⟩:=rx
 rw [<- slice_eq] at q
 refine ⟨"str",_,F.slot_str_getitem.lookup,typeIs_str _ _ _,?_⟩
 obtain ⟨o,ho,hc,hd⟩:=hs
 have key:∀ (l u:Option (Int × Tok)),vl=partValue l->vu=partValue u->lo=l.map (·.1)->hi=u.map (·.1)->wpAny (model X.prog X.w) X.A (getItem (.str z t) (.ref sl)) (EP X pins σ Q) X.xe s:=by
  intro l u e1 e2 e3 e4
  subst e1 e2 e3 e4
  refine wpAny_getItem_str_slice (l:=l) (u:=u) (st:=none) ⟨o,ho,hc,hd⟩ rfl (post_val_or_str ⟨YE (Txt.slice_le z _ _) hz,fun t' k=>?_⟩)
  exact ⟨.str _,H,I.tok k,⟨_,rfl⟩,q⟩
 cases pl with
 | none =>
  cases pu with
  | none=>exact key none none rfl rfl rfl rfl
  | int j u=>exact key none (some (j,u)) rfl rfl rfl rfl
 | int i t =>
  cases pu with
  | none=>exact key (some (i,t)) none rfl rfl rfl rfl
  | int j u=>exact key (some (i,t)) (some (j,u)) rfl rfl rfl rfl
end
noncomputable def Sq (K:YFr) (H:Hp) (a:Addr) (xs:List V):Prop:=SqL K H a xs\/SqT K H a xs
noncomputable def occ (y x:Str):Bool:=!(occurrences y x 0 y.length 1).isEmpty
noncomputable def uAdd (K:YFr):R2:=fun x y H Q=>match x,y with
 | .int i,.int j=>Q (.int (i + j)) H
 | .str i,.str j=>i.length + j.length<=sizeLine/\Q (.str (i++j)) H
 | .ref a,.ref b=>rCat (.ref a) (.ref b) H Q\/rCatT K (.ref a) (.ref b) H Q
 | _,_=>False
noncomputable def uSub:R2:=fun x y H Q=>match x,y with
 | .int i,.int j=>Q (.int (i - j)) H
 | _,_=>False
noncomputable def uDiv:R2:=fun x y H Q=>match x,y with
 | .int i,.int j=>CDiv i j/\Q (.int (i / j)) H
 | _,_=>False
noncomputable def uMod:R2:=fun x y H Q=>match x,y with
 | .int i,.int j=>0 < j/\Q (.int (i % j)) H
 | _,_=>False
noncomputable def uPow:R2:=fun x y H Q=>match x,y with
 | .int i,.int j=>CPow i j/\Q (.int (i ^ j.toNat)) H
 | _,_=>False
noncomputable def uLt:R2:=fun x y H Q=>match x,y with
 | .int i,.int j=>Q (.bl (decide (i < j))) H
 | .str i,.str j=>Q (.bl (decide (i.cps.toList < j.cps.toList))) H
 | _,_=>False
noncomputable def uGt:R2:=fun x y H Q=>match x,y with
 | .int i,.int j=>Q (.bl (decide (j < i))) H
 | _,_=>False
noncomputable def uEq:R2:=fun x y H Q=>match x,y with
 | .int i,.int j=>Q (.bl (decide (i=j))) H
 | .str i,.str j=>Q (.bl (decide (i=j))) H
 | .bl i,.bl j=>Q (.bl (decide (i=j))) H
 | .non,.non=>Q (.bl true) H
 | .non,.str _=>Q (.bl false) H
 | .str _,.non=>Q (.bl false) H
 | _,_=>False
noncomputable def uNe:R2:=fun x y H Q=>match x,y with
 | .int i,.int j=>Q (.bl (!decide (i=j))) H
 | .str i,.str j=>Q (.bl (!decide (i=j))) H
 | .bl i,.bl j=>Q (.bl (!decide (i=j))) H
 | .non,.non=>Q (.bl false) H
 | .non,.str _=>Q (.bl true) H
 | .str _,.non=>Q (.bl true) H
 | _,_=>False
noncomputable def uIn (K:YFr):R2:=fun x y H Q=>match x,y with
 | .str i,.str j=>Q (.bl (occ j i)) H
 | x,.ref p=>∃ xs,Sq K H p xs/\Zca x=true/\xs.all Zca=true/\Q (.bl (inV x xs)) H
 | _,_=>False
noncomputable def uIx (K:YFr):R2:=fun x y H Q=>match x,y with
 | .str z,.int i=>z.length<=sizeLine/\∃ c,atI z.cps.toList i=some c/\Q (.str ⟨#[c]⟩) H
 | .ref p,.int i=>∃ xs v,Sq K H p xs/\atI xs i=some v/\Q v H
 | _,_=>False
noncomputable def uLen (K:YFr):List V->Hp->VK->Prop:=fun xs H Q=>match xs with
 | [.str z]=>z.length<=sizeLine/\Q (.int z.length) H
 | [.ref p]=>∃ ys,Sq K H p ys/\Q (.int ys.length) H
 | _=>False
noncomputable def uMax:List V->Hp->VK->Prop:=fun xs H Q=>match xs with
 | [.int i,.int j]=>Q (.int (max i j)) H
 | _=>False
section
variable {X:Cx}
theorem OpR.imp {f:Value->Value->Sem Value} {r r':R2} (h:OpR X f r) (hi:∀ x y H Q,r' x y H Q->r x y H Q):OpR X f r':=fun pins s σ H x y v u Q I rx ry q=>h pins s σ H x y v u Q I rx ry (hi _ _ _ _ q)
theorem Zbi.imp {f:Value} {r r':List V->Hp->VK->Prop} (h:Zbi X f r) (hi:∀ xs H Q,r' xs H Q->r xs H Q):Zbi X f r':=fun pins s σ H xs us Q I rx q=>h pins s σ H xs us Q I rx (hi _ _ _ q)
theorem o_sub:OpR X (binaryOp .Sub) uSub:=op_sub.imp fun x y H Q q=>by
 unfold uSub at q
 split at q
 ·exact ⟨_,_,rfl,rfl,q⟩
 ·exact q.elim
theorem Ze7:OpR X (binaryOp .FloorDiv) uDiv:=op_fdiv.imp fun x y H Q q=>by
 unfold uDiv at q
 split at q
 ·exact ⟨_,_,rfl,rfl,q.1,q.2⟩
 ·exact q.elim
theorem ZbG:OpR X (binaryOp .Mod) uMod:=op_mod.imp fun x y H Q q=>by
 unfold uMod at q
 split at q
 ·exact ⟨_,_,rfl,rfl,q.1,q.2⟩
 ·exact q.elim
theorem o_pow:OpR X (binaryOp .Pow) uPow:=op_pow.imp fun x y H Q q=>by
 unfold uPow at q
 split at q
 ·exact ⟨_,_,rfl,rfl,q.1,q.2⟩
 ·exact q.elim
theorem o_lt:OpR X (compareOp .Lt) uLt:=(op_lt.or Zil).imp fun x y H Q q=>by
 unfold uLt at q
 split at q
 ·exact .inl ⟨_,_,rfl,rfl,q⟩
 ·exact .inr ⟨_,_,rfl,rfl,q⟩
 ·exact q.elim
theorem o_gt:OpR X (compareOp .Gt) uGt:=op_gt.imp fun x y H Q q=>by
 unfold uGt at q
 split at q
 ·exact ⟨_,_,rfl,rfl,q⟩
 ·exact q.elim
theorem o_eq:OpR X (compareOp .Eq) uEq:=op_eq.imp fun x y H Q q=>by
 unfold uEq at q
 split at q <;> first | exact q.elim | (refine ⟨rfl,?_⟩;simpa using q)
theorem o_ne:OpR X (compareOp .NotEq) uNe:=op_ne.imp fun x y H Q q=>by
 unfold uNe at q
 split at q <;> first | exact q.elim | (refine ⟨rfl,?_⟩;simpa using q)
theorem o_in:OpR X (compareOp .In) (uIn X.K):=(Zh2.or Zji).imp fun x y H Q q=>by
 unfold uIn at q
 split at q
 ·exact .inl ⟨_,_,rfl,rfl,q⟩
 ·obtain ⟨xs,h1,h2,h3,h4⟩:=q
  exact .inr ⟨_,xs,rfl,h1,h2,h3,h4⟩
 ·exact q.elim
theorem o_ix:IxR X (uIx X.K):=by
 intro value slice pins s σ H x y v u Q I rx ry q hs
 refine ix_seq value slice pins s σ H x y v u Q I rx ry ?_ hs
 unfold uIx at q
 split at q
 ·obtain ⟨h1,c,h2,h3⟩:=q
  exact .inr (.inr ⟨_,_,c,rfl,rfl,h1,h2,h3⟩)
 ·obtain ⟨xs,v,h1 | h1,h2,h3⟩:=q
  ·exact .inl ⟨_,xs,_,v,rfl,rfl,h1,h2,h3⟩
  ·exact .inr (.inl ⟨_,xs,_,v,rfl,rfl,h1,h2,h3⟩)
 ·exact q.elim
theorem Zbe:Zbi X (.builtin "len") (uLen X.K):=(ZeR.or ZeH).imp fun xs H Q q=>by
 unfold uLen at q
 split at q
 ·exact .inl ⟨_,rfl,q.1,q.2⟩
 ·obtain ⟨ys,h1,h2⟩:=q
  exact .inr ⟨_,ys,rfl,h1,h2⟩
 ·exact q.elim
theorem c_max (hc:X.calm=true):Zbi X (.builtin "max") uMax:=(Zic hc).imp fun xs H Q q=>by
 unfold uMax at q
 split at q
 ·rename_i i j
  refine ⟨i,j,rfl,?_⟩
  have e:(if j > i then j else i)=max i j:=by split <;> lia
  rw [e];exact q
 ·exact q.elim
theorem pe_gv {x:Str} {v:V} {pos:Pos} (hg:Gl X x) (h:∃ u,X.mg x=some u/\RelV v u) (hd:(x == ("__debug__":Str))=false:=by decide):PE X (.Name x pos) (tC v):=by
 obtain ⟨u,h1,h2⟩:=h
 exact Zc8 hg h1 h2 hd
theorem pe_ty {x:Str} {T:String} {pos:Pos} (hg:Gl X x) (hm:X.mg x=none) (hv:bootBuiltins x=some (.type T)) (hn:x≠"__name__":=by decide) (hd:(x == ("__debug__":Str))=false:=by decide):PE X (.Name x pos) (tC (.ty T)):=pe_bltn hg hm hv rfl hn hd
end
noncomputable def uRng1:List V->Hp->(It->Hp->Prop)->Prop:=fun vs H R=>match vs with
 | [.int j]=>-(2 ^ 62)<=j/\j < 2 ^ 62/\R (Itr 0 j.toNat) H
 | _=>False
noncomputable def uRng2:List V->Hp->(It->Hp->Prop)->Prop:=fun vs H R=>match vs with
 | [.int i,.int j]=>(-(2 ^ 62)<=i/\i < 2 ^ 62/\-(2 ^ 62)<=j/\j < 2 ^ 62)/\R (Itr i (j - i).toNat) H
 | _=>False
noncomputable def jRng1 (ta:TA):TI:=fun σ H R=>ta σ H fun vs H1=>uRng1 vs H1 R
noncomputable def jRng2 (ta:TA):TI:=fun σ H R=>ta σ H fun vs H1=>uRng2 vs H1 R
noncomputable def uList (K:YFr):V->Hp->(It->Hp->Prop)->Prop:=fun x H R=>match x with
 | .ref a=>(∃ xs,SqL K H a xs)/\R (Itl K a) H
 | _=>False
noncomputable def uTupI (K:YFr):V->Hp->(It->Hp->Prop)->Prop:=fun x H R=>match x with
 | .ref a=>(∃ xs,SqT K H a xs)/\R (Itt K a) H
 | _=>False
noncomputable def jOf (u:V->Hp->(It->Hp->Prop)->Prop) (te:TE):TI:=fun σ H R=>te σ H fun x H1=>u x H1 R
section
variable {X:Cx} {tg:Expr} {a b:Expr} {p pos:Pos} {ta:TA} {te:TE}
theorem ZbA (hg:Gl X "range") (hm:X.mg "range"=none) (ha:PA X [a] ta) (hs:starEach [a] X.env=[(false,eval a X.env)]:=by rfl):PI X tg (.Call (.Name "range" p) [a] [] pos) (jRng1 ta):=by
 intro pins s σ H R I h
 refine Call_ (ZbF I hg hm boot_range (Y9 (thn (ha pos pins s σ H _ I h) fun us s1 ⟨vs,H1,I1,r1,q1⟩=>?_) hs rfl))
 unfold uRng1 at q1
 dsimp only at q1
 split at q1
 ·obtain ⟨q1,q2,q⟩:=q1
  cases r1 with
  | cons r rr =>
   cases rr
   obtain ⟨t,rfl⟩:=r
   exact call_range_1 (Zg7 I1 (by lia) (by lia) q1 q2 (by simpa using q))
 ·exact q1.elim
theorem Ze1 (hg:Gl X "range") (hm:X.mg "range"=none) (ha:PA X [a,b] ta) (hs:starEach [a,b] X.env=[(false,eval a X.env),(false,eval b X.env)]:=by rfl) (hs2:starEach [b] X.env=[(false,eval b X.env)]:=by rfl) :
  PI X tg (.Call (.Name "range" p) [a,b] [] pos) (jRng2 ta):=by
 intro pins s σ H R I h
 refine Call_ (ZbF I hg hm boot_range (Y9 (thn (ha pos pins s σ H _ I h) fun us s1 ⟨vs,H1,I1,r1,q1⟩=>?_) (by rw [hs,hs2]) (by rw [hs2];rfl)))
 unfold uRng2 at q1
 dsimp only at q1
 split at q1
 ·obtain ⟨⟨q1,q2,q3,q4⟩,q⟩:=q1
  cases r1 with
  | cons r rr =>
   cases rr with
   | cons r' rr =>
    cases rr
    obtain ⟨t,rfl⟩:=r
    obtain ⟨t',rfl⟩:=r'
    exact call_range_2 (Zg7 I1 q1 q2 q3 q4 q)
 ·exact q1.elim
end
noncomputable def ZcW:List Expr->Option (List Str)
 | []=>some []
 | .Constant (.str x) _ _::r=>(ZcW r).map (x::·)
 | _=>none
noncomputable def tConst (vs:List V):TA:=fun _ H L=>L vs H
theorem Zbm {X:Cx}:∀ {es:List Expr} {xs:List Str},ZcW es=some xs->PA X es (tConst (xs.map V.str))
 | [],xs,h=>by
  cases h
  exact fun pos pins s σ H Q I q=>Ze pos pins s σ H Q I q
 | e :: es, xs,h=>by
  cases e with
  | Constant c k p =>
   cases c with
   | str x =>
    cases h1:ZcW es with
    | none=>simp [ZcW,h1] at h
    | some ys =>
     have h2:x::ys=xs:=by simpa [ZcW,h1] using h
     subst h2
     have ih:=Zbm (X:=X) h1
     exact fun pos pins s σ H Q I q=>(Za (te:=tC (.str x)) ZS ih) pos pins s σ H Q I q
   | _=>simp [ZcW] at h
  | _=>simp [ZcW] at h
theorem Same.upd_new {H:Hp} {l:Addr} {o:HO} (h:H l=none):Same H (upd H l o):=fun b u e=>by rw [Zy (Zay e h)];exact e
theorem Same.sq {K:YFr} {H H':Hp} {a:Addr} {xs:List V} (e:Same H H') (h:SqT K H a xs):SqT K H' a xs:=by
 rcases h with (h | ⟨o,h⟩) | h
 ·exact .inl (.inl (e _ _ h))
 ·exact .inl (.inr ⟨o,e _ _ h⟩)
 ·exact .inr h
theorem Zdr {α:Type} {xs:List α} {i:Int} (h0:0<=i) (h:i < xs.length):∃ v,atI xs i=some v/\xs[i.toNat]? = some v:=by
 have hlt:i.toNat < xs.length:=by lia
 refine ⟨xs[i.toNat],?_,Ye hlt⟩
 have e:(i.toNat:Int)=i:=by lia
 have h:=Zau (Ye hlt)
 rw [e] at h
 exact h
theorem Zhz {n:Nat} (h:n<=1000):n<=sizeLine:=YbN (Ziz h)
theorem Zds:∀ {us:List Value} {xs:List V},us.map absV=xs.map some->Vals xs us
 | [],[],_=>.nil
 | [],_::_,h=>by cases h
 | _::_,[],h=>by cases h
 | u :: us,x::xs,h=>by
  rw [Yu,Yu] at h
  injection h with h1 h2
  refine .cons ?_ (Zds h2)
  cases u <;> cases h1 <;> first | rfl | exact ⟨_,rfl⟩
theorem ZeG {K:YFr} {a:Addr} {oc:Value} {od:Option Addr} {its:Array Value} {n:Nat} {sl:Array (Option Value)} {xs:List V} (h:K.lookup a=some ⟨oc,od,.seq its n,sl⟩) (ht:(oc == .type "tuple")=true/\(od == none)=true)
  (hi:its.toList.map absV=xs.map some) (hz:xs.length<=1000:=by decide):∀ H,SqT K H a xs:=fun H=>by
 have r:=Zds hi
 have e:oc=.type "tuple":=by
  have:=ht.1
  exact Yb4 this
 refine .inr ⟨_,its,n,h,e,rfl,?_,r⟩
 have h9:=r.length
 have h8:its.toList.length=its.size:=by simp
 rw [<- h8,<- h9];exact Zhz hz
section
variable {P:Program} {w:World} {K:YFr} {mg:Str->Option Value} {base:Heap}
theorem Fun.ok2 {x qual:Str} {st:Stmt} {f:Addr} {fd:FuncData} {N ps:List Str} {k:Nat} {sp:Sp} {sc:Scope} {body:List Stmt} (F:Fun K x qual st f fd) (hs:defScope st=sc) (hb:defBody st=body) (S:ZA N ps (defScope st)) (len:∀ vs H Q E,sp vs H Q E->vs.length=ps.length)
  (hbody:ZA N ps sc->∀ (cdv:Value) (A:Around) (outer:List Env) (s:Shared) (H:Hp) (vs:List V) (Q:VK) (E:XK),Room k (A.deeper (envOfC qual sc s.heap.objs.size f cdv))->sp vs H Q E ->
   ∃ t,PSs (cxOf CX0 P w K mg base N qual sc f cdv A outer s H E).nox body t/\t { nx:=fun _ H'=>Q .non H',rt:=Q } (L2.start N vs) H):FnOk P w K mg base CX0 (k + 1) f fd ps sp:=by
 subst hs hb
 exact F.ok S len (hbody S)
end
open PySem
theorem ZV {scope:Scope} {env:Env} {names:List (Str × NameKind)} {cl:List (Str × Addr)} (h:(relabel scope env).names=names) (h2:(names.all fun p=>p.2 != .cell && p.2 != .free)=true) :
  ∀ p∈(relabel scope env).names,p.2=.cell\/p.2=.free->(cl.lookup p.1).isSome=true:=by
 intro p hp hk
 rw [h] at hp
 have:=YbQ.mp h2 p hp
 rcases hk with e | e
 ·rw [e] at this;exact absurd this (by decide)
 ·rw [e] at this;exact absurd this (by decide)
theorem nd1 {x:Str}:[x].Nodup:=by simp
section
variable {X:Cx} (K:YFr) (h:X.K=K)
include h
theorem k_ix:IxR X (uIx K):=h ▸ o_ix
end
mutual
inductive Rep (K:YFr) (H:Hp):PyData->V->Prop
 | non:Rep K H .none .non
 | bl (b:Bool):Rep K H (.bool b) (.bl b)
 | int (i:Int):Rep K H (.int i) (.int i)
 | str (x:Str):Rep K H (.str x) (.str x)
 | tup {a:Addr} {xs:List V} {ds:List PyData}:SqT K H a xs->Reps K H ds xs->Rep K H (.tuple ds) (.ref a)
 | lst {a:Addr} {xs:List V} {ds:List PyData}:SqL K H a xs->Reps K H ds xs->Rep K H (.list ds) (.ref a)
inductive Reps (K:YFr) (H:Hp):List PyData->List V->Prop
 | nil:Reps K H [] []
 | cons {d:PyData} {v:V} {ds:List PyData} {vs:List V}:Rep K H d v->Reps K H ds vs->Reps K H (d::ds) (v::vs)
end
section
variable {X:Cx} {pins:List (Addr × Obj)} {σ:St} {H:Hp} {s:Shared}
mutual
theorem Rep.reads (I:Inv X pins σ H s):∀ {d:PyData} {v:V} {u:Value},Rep X.K H d v->RelV v u->∃ as,Reads s.heap u d as
 | _,_,_,.non,r=>by cases r;exact ⟨_,.none⟩
 | _,_,_,.bl b,r=>by cases r;exact ⟨_,.bool b⟩
 | _,_,_,.int i,r=>by obtain ⟨t,rfl⟩:=r;exact ⟨_,.int i t⟩
 | _,_,_,.str x,r=>by obtain ⟨t,rfl⟩:=r;exact ⟨_,.str x t⟩
 | _, _,_,.tup h q,r=>by
  cases r
  obtain ⟨its,rv,⟨o,e,c,n,d⟩,hz⟩:=I.tuple h
  obtain ⟨as,ra⟩:=Reps.reads I q rv
  exact ⟨_,.tuple e c d (by simpa using ra)⟩
 | _, _,_,.lst h q,r=>by
  cases r
  obtain ⟨its,rv,⟨o,n,e,c,_,d⟩,hz⟩:=I.list h
  obtain ⟨as,ra⟩:=Reps.reads I q rv
  exact ⟨_,.list e c d (by simpa using ra)⟩
theorem Reps.reads (I:Inv X pins σ H s):∀ {ds:List PyData} {vs:List V} {us:List Value},Reps X.K H ds vs->Vals vs us->∃ as,ReadsAll s.heap us ds as
 | _,_,_,.nil,r=>by cases r;exact ⟨_,.nil⟩
 | _, _,_,.cons h q,r=>by
  cases r with
  | cons r0 r1 =>
   obtain ⟨as,ra⟩:=Rep.reads I h r0
   obtain ⟨bs,rb⟩:=Reps.reads I q r1
   exact ⟨_,.cons ra rb⟩
end
noncomputable def rEqD (K:YFr) (ne:Bool):R2:=fun x y H Q=>∃ d e,Rep K H d x/\Rep K H e y/\d.canLay0=true/\e.canLay0=true/\d.depth<=190/\Q (.bl (if ne then !PyData.eqv d e else PyData.eqv d e)) H
theorem op_eqD (hu:X.A.units + 200 < cLine):OpR X (compareOp .Eq) (rEqD X.K false):=by
 intro pins s σ H x y v u Q I rx ry h
 obtain ⟨d,e,h1,h2,c1,c2,dp,q⟩:=h
 obtain ⟨as,ra⟩:=Rep.reads I h1 rx
 obtain ⟨bs,rb⟩:=Rep.reads I h2 ry
 refine SeqAt.compareEq_reads ra rb c1 c2 ?_ ⟨.bl _,H,I,rfl,q⟩
 have:min d.depth e.depth<=d.depth:=Yb5 _ _
 lia
theorem op_neD (hu:X.A.units + 200 < cLine):OpR X (compareOp .NotEq) (rEqD X.K true):=by
 intro pins s σ H x y v u Q I rx ry h
 obtain ⟨d,e,h1,h2,c1,c2,dp,q⟩:=h
 obtain ⟨as,ra⟩:=Rep.reads I h1 rx
 obtain ⟨bs,rb⟩:=Rep.reads I h2 ry
 refine SeqAt.compareNe_reads ra rb c1 c2 ?_ ⟨.bl _,H,I,rfl,q⟩
 have:min d.depth e.depth<=d.depth:=Yb5 _ _
 lia
noncomputable def uEqD (K:YFr):R2:=fun x y H Q=>match x,y with
 | .ref a,y=>rEqD K false (.ref a) y H Q
 | x,.ref b=>rEqD K false x (.ref b) H Q
 | x,y=>uEq x y H Q
noncomputable def uNeD (K:YFr):R2:=fun x y H Q=>match x,y with
 | .ref a,y=>rEqD K true (.ref a) y H Q
 | x,.ref b=>rEqD K true x (.ref b) H Q
 | x,y=>uNe x y H Q
theorem Zbf {k:Nat} (hr:Room k X.A):OpR X (compareOp .Eq) (uEqD X.K):=((op_eqD (by have:=hr.un;lia)).or o_eq).imp fun x y H Q q=>by
 unfold uEqD at q
 split at q
 ·exact .inl q
 ·exact .inl q
 ·exact .inr q
theorem o_neD {k:Nat} (hr:Room k X.A):OpR X (compareOp .NotEq) (uNeD X.K):=((op_neD (by have:=hr.un;lia)).or o_ne).imp fun x y H Q q=>by
 unfold uNeD at q
 split at q
 ·exact .inl q
 ·exact .inl q
 ·exact .inr q
theorem k_eqD (K:YFr) (h:X.K=K) {k:Nat} (hr:Room k X.A):OpR X (compareOp .Eq) (uEqD K):=h ▸ Zbf hr
end
noncomputable def uSum (K:YFr):List V->Hp->VK->Prop:=fun xs H Q=>match xs with
 | [.ref p]=>∃ ns:List Int,SqL K H p (ns.map V.int)/\Q (.int ns.sum) H
 | _=>False
theorem Zfh (ns:List Int):∀ n,n<=ns.length->preSum (fun i=>ns.getD i 0) n=(ns.take n).sum
 | 0,_=>by simp [preSum]
 | n + 1,h=>by
  rw [preSum,Zfh ns n (by lia),YaK,Ye (by lia),List.sum_append]
  simp [Yq,Ye (show n < ns.length by lia)]
theorem Zez {X:Cx} (hc:X.calm=true):Zbi X (.builtin "sum") (uSum X.K):=by
 intro pins s σ H xs us Q I r h
 unfold uSum at h
 split at h
 ·rename_i p
  obtain ⟨ns,hl,q⟩:=h
  obtain ⟨u,rfl,ru⟩:=r.one
  cases ru
  obtain ⟨its,rv,pl,hz⟩:=I.list hl
  refine call_sum_walkAnyS (YaX pl.isList ?_)
  have hne:p≠s.heap.objs.size:=YD (by obtain ⟨o,n,e,_⟩:=pl;exact Yo e)
  have hlen:its.toArray.size=ns.length:=by have:=rv.length;simp at this;simp;lia
  refine ⟨s.heap.objs.size,_,_,_,_,_,_,fun i=>ns.getD i 0,rfl,(YcZ (show X.A.in1.handled=none from I.ok.hd hc) s.heap.objs.size p hne its.toArray).toS,⟨⟨_,YI _ rfl,rfl,rfl⟩,pl.isList.at fun o e=>Yi _ e⟩,?_,?_,fun s' t' hm=>?_⟩
  ·intro b hb
   have hp:p < s.heap.objs.size:=by obtain ⟨o,n,e,_⟩:=pl;exact Yo e
   rw [YbD]
   rcases Yt.mp hb with rfl | hb
   ·exact YbR _
   ·have:b=p:=by simpa using hb
    subst this
    exact YaY hp
  ·intro i v hv
   have hv':its[i]? = some v:=by simpa using hv
   cases e:(ns.map V.int)[i]? with
   | none =>
    have:=rv.none_of e
    rw [this] at hv';cases hv'
   | some y =>
    obtain ⟨u,hu,ru⟩:=rv.get e
    rw [hv'] at hu;cases hu
    rw [Yr] at e
    cases eb:ns[i]? with
    | none=>rw [eb] at e;cases e
    | some b =>
     rw [eb] at e
     cases e
     obtain ⟨t,rfl⟩:=ru
     exact ⟨t,by dsimp only;rw [Yq,eb];rfl⟩
  ·have e:preSum (fun i=>ns.getD i 0) its.toArray.size=ns.sum:=by
    rw [hlen,Zfh ns _ (Yg _),Yat]
   rw [e]
   have hI:Inv X pins σ H { s with heap:=s'.heap,toks:=s'.toks }:=I.kept (t':=s'.toks) fun b o e=>hm.heap b o (by simp;exact YD (Yo e)) (Yi _ e)
   have es:({ s with heap:=s'.heap,toks:=s'.toks }:Shared)=s':=by
    have h1:=hm.gens
    have h2:=hm.drawn
    have h3:=hm.os
    cases s'
    simp only at h1 h2 h3
    subst h1 h2 h3
    rfl
   rw [es] at hI
   exact ⟨.int _,H,hI,⟨_,rfl⟩,q⟩
 ·exact h.elim
noncomputable def uMulB:R2:=fun x y H Q=>match x,y with
 | .int i,.int j=>IntMulOk i j/\Q (.int (i * j)) H
 | .ref a,.int k=>rRep (.ref a) (.int k) H Q
 | _,_=>False
theorem op_mulB {X:Cx}:OpR X (binaryOp .Mult) (fun x y H Q=>∃ i j,x=.int i/\y=.int j/\IntMulOk i j/\Q (.int (i * j)) H):=by
 intro pins s σ H x y v u Q I rx ry h
 obtain ⟨i,j,rfl,rfl,hm,q⟩:=h
 obtain ⟨t,rfl⟩:=rx
 obtain ⟨t',rfl⟩:=ry
 exact PyProof.Rows.mul_int ⟨.int _,H,I.tok _,⟨_,rfl⟩,q⟩ hm
theorem Zdl {X:Cx}:OpR X (binaryOp .Mult) uMulB:=(op_mulB.or op_rep).imp fun x y H Q q=>by
 unfold uMulB at q
 split at q
 ·exact .inl ⟨_,_,rfl,rfl,q.1,q.2⟩
 ·exact .inr q
 ·exact q.elim
theorem mul_ok {i j:Int} {m n:Nat} (hi:i.natAbs < 2 ^ m) (hj:j.natAbs < 2 ^ n) (h:m + n<=1000000):IntMulOk i j:=by
 have bits:∀ {k:Int} {m:Nat},k.natAbs < 2 ^ m->Builtin.Int.intBits k<=m:=by
  intro k m hk
  unfold Builtin.Int.intBits
  split
  ·exact YX _
  ·rename_i h0
   have hne:k.natAbs≠0:=by
    intro e
    apply h0
    have:k=0:=by lia
    simp [this]
   have:=(Nat.log2_lt hne).mpr hk
   lia
 exact mulOk_of_bits (bits hi) (bits hj) (by lia)
theorem Zbb {i j:Int} (h:CMul i j):IntMulOk i j:=h.ok
theorem ZaG {α:Type} {P:α->Prop} {a:α} {l:List α} (h:P a) (t:∀ p∈l,P p):∀ p∈a::l,P p:=fun p hp=>by
 rcases Yt.mp hp with rfl | hp
 ·exact h
 ·exact t p hp
theorem ZaS {α:Type} {P:α->Prop}:∀ p∈([]:List α),P p:=fun _ z=>nomatch z
theorem Zb0 {scope:Scope} {env:Env} {names:List (Str × NameKind)} {cl:List (Str × Addr)} (h:(relabel scope env).names=names) (h2:(names.all fun p=>(p.2 != .cell && p.2 != .free) || (cl.lookup p.1).isSome)=true) :
  ∀ p∈(relabel scope env).names,p.2=.cell\/p.2=.free->(cl.lookup p.1).isSome=true:=by
 intro p hp hk
 rw [h] at hp
 have:=YbQ.mp h2 p hp
 rcases hk with e | e
 ·rw [e] at this;simpa using this
 ·rw [e] at this;simpa using this
section
variable {X:Cx}
noncomputable def rCatL (K:YFr):R2:=fun x y H Q=>∃ l b xs zs,x=.ref l/\y=.ref b/\SqL K H l xs/\SqL K H b zs/\xs.length + zs.length<=sizeLine/\∀ p,H p=none->Q (.ref p) (upd H p (.lst (xs++zs)))
theorem op_catL:OpR X (binaryOp .Add) (rCatL X.K):=by
 intro pins s σ H x y v u Q I rx ry h
 obtain ⟨l,b,xs,zs,rfl,rfl,hH,hB,hz,q⟩:=h
 cases rx
 cases ry
 obtain ⟨its,r,pl,z1⟩:=I.list hH
 obtain ⟨its2,r2,pl2,z2⟩:=I.list hB
 have hl:=r.length
 have hl2:=r2.length
 obtain ⟨⟨cls,dd,data,sl⟩,ho,hc,n,hd⟩:=id pl.isList
 obtain ⟨⟨cls2,dd2,data2,sl2⟩,ho2,hc2,n2,hd2⟩:=id pl2.isList
 simp only at hc hd hc2 hd2
 subst hc hd hc2 hd2
 have e:its.toArray++its2.toArray=(its++its2).toArray:=by simp
 refine YbP ⟨_,ho,rfl⟩ ⟨_,ho2,rfl⟩ noFill_list_add seq_list_add PySem.F.slot_list_add PySem.F.entry_list_add (PySem.F.args_list_add_2 _ _) (PyProof.Rows.list_addW l b its.toArray its2.toArray n n2 dd dd2 sl sl2 (by rw [Yj,Yj];lia)) ⟨ho,ho2,?_⟩
 rw [e]
 exact ⟨.ref _,_,I.lnew (t':=s.toks) (r.append r2) (by rw [Yh];lia),rfl,q _ I.fresh⟩
end
theorem Zjj {X:Cx} {elt tg iter:Expr} {ifs:List Expr} {scope:Scope} {cl:List (Str × Addr)} {ts:List Str} {frs':List (Str × Nat)} {pos pos0:Pos} {wi:TI} {g:TG} {tt:TT} {te:TE} (hc:X.calm=true) (S:Za2 X scope cl ts frs')
  (hi:PI X tg iter wi) (hg:∀ pins s H fp,PG (X.comp scope cl (ts++frs'.map (·.1)) pins s H fp) tg g) (ht:∀ pins s H fp,PIfs (X.comp scope cl (ts++frs'.map (·.1)) pins s H fp) ifs tt)
  (he:∀ pins s H fp,PE (X.comp scope cl (ts++frs'.map (·.1)) pins s H fp) elt te) (hs:∀ x,foldedSetIterable iter X.env x=pure x)
  {use:Option (Value->Sem Unit)} {Qv:Value->Shared->Prop} {pins:List (Addr × Obj)} {s:Shared} {σ:St} {H:Hp} {Q:VK} (I:Inv X pins σ H s) (h:tComp ts.length frs' wi g tt te σ H Q)
  (hfin:∀ (C D:Addr) (H5:Hp) (s6:Shared) (m6:Str->Option Value),Inv X pins σ H5 s6->s6.heap.Ns C m6->FpOk X pins H5 C->(∀ h',Heap.SameBut C s6.heap h'->Inv X pins σ H5 { s6 with heap:=h' })->Q (.ref D) H5 ->
   compPost (model X.prog X.w) X.A X.xe use Qv (.ref D) C (.ok .next) s6) :
  wpAny (model X.prog X.w) X.A (comprehension (.ListComp elt [⟨tg,iter,ifs,0⟩] scope pos) scope X.env pos0 (newList []) false (eval iter X.env) use) Qv X.xe s:=by
 refine wpAny_comprehension_free (use:=use) (cl:=cl) rfl hs S.clos S.kind S.names (thn (hi pins s σ H _ I h) fun v s1 h1=>thn h1 fun itv s2 h2=>?_)
 obtain ⟨it,fp,tn,J,H2,e,I2,T,st2,f2,q2⟩:=h2
 subst e
 have fr2:H2 s2.heap.objs.size=none:=I2.hok.fresh (Yg _)
 obtain ⟨W,⟨m0,w0⟩,turn⟩:=q2 _ fr2
 refine YaW ?_
 have hlt2:∀ b∈fp,b < s2.heap.objs.size:=fun b hb=>by
  obtain ⟨o,e,_⟩:=T.obj _ _ st2 b hb
  exact Yo e
 have I3:Inv X pins σ (upd H2 s2.heap.objs.size (.lst [])) { s2 with heap:=s2.heap.push { cls:=.type "list",data:=.seq ([]:List Value).toArray } } :=
  I2.laid (t':=s2.toks) (fun b u e=>Yi _ e) (Yg _) ⟨YX _,[],0,.nil,YI _ rfl⟩
 have f3:∀ b∈fp,FpOk X pins (upd H2 s2.heap.objs.size (.lst [])) b:=fun b hb=>⟨by rw [Zy (YD (hlt2 b hb))];exact (f2 b hb).1,(f2 b hb).2⟩
 have hk3:∀ b o,s2.heap.get? b=some o->(s2.heap.push { cls:=.type "list",data:=.seq ([]:List Value).toArray }).get? b=some o:=fun b o e=>Yi _ e
 have hsz3:(s2.heap.push { cls:=.type "list",data:=.seq ([]:List Value).toArray }).objs.size=s2.heap.objs.size + 1:=YbD ..
 refine wpAny_newFunctionEnv S.nocell (by intro y hy;simp at hy) (fun h₁ hns₁ hsb₁=>?_) S.kind
 dsimp only at hns₁ hsb₁ ⊢
 generalize hs3:({ s2 with heap:=s2.heap.push { cls:=.type "list",data:=.seq ([]:List Value).toArray } }:Shared)=s3 at I3 hns₁ hsb₁ ⊢
 have es3:s3.heap=s2.heap.push { cls:=.type "list",data:=.seq ([]:List Value).toArray }:=by rw [<- hs3]
 have hk4:∀ b o,s3.heap.get? b=some o->h₁.get? b=some o:=fun b o e=>by
  have:=hsb₁.2 b (by rw [<- es3];exact YD (Yo e))
  rw [<- es3] at this
  exact this.trans (Yi _ e)
 have hlt3:∀ b∈fp,b < s3.heap.objs.size:=fun b hb=>by
  rw [es3,hsz3]
  exact YaY (hlt2 b hb)
 rw [<- es3] at hns₁
 have I4:=S.inv I3 f3 hlt3 (tk:=s2.toks + ([]:List (Str × Value)).length) hns₁ hk4
 have st4:tn 0 h₁:=T.keep _ _ _ st2 fun b hb o e=>hk4 b o (by rw [es3];exact hk3 b o e)
 have estart:({ s2 with heap:=h₁,toks:=s2.toks + ([]:List (Str × Value)).length }:Shared)={ s3 with heap:=h₁,toks:=s2.toks + ([]:List (Str × Value)).length }:=by rw [<- hs3]
 rw [estart]
 have stat:∀ {H':Hp},(∀ b∈fp,H' b=none)->∀ b∈fp,FpOk (X.comp scope cl (ts++frs'.map (·.1)) pins s3 (upd H2 s2.heap.objs.size (.lst [])) fp) [] H' b:=fun hn b hb=>by
  obtain ⟨h1,h2,h3,h4,h5,h6⟩:=f3 b hb
  refine ⟨hn b hb,YD (hlt3 b hb),fun z=>?_,.inl hb,fun x c e=>h5 x c (S.subL e),fun p hp=>h6 p (by
   have:p∈(X.pn++pins)++[]:=hp
   rwa [Y8] at this)⟩
  rcases Yt.mp (I3.stkSub _ z) with e' | e'
  ·exact h2 e'
  ·exact h3 e'
 have loop : codeAny (model X.prog X.w) X.A (.compLoop (.ListComp elt [⟨tg,iter,ifs,0⟩] scope pos) 0 (.ref it) (.ref s2.heap.objs.size) (compEnvC scope cl s3.heap.objs.size X.env))
   (compPost (model X.prog X.w) X.A X.xe use Qv (.ref s2.heap.objs.size) s3.heap.objs.size) { s3 with heap:=h₁,toks:=s2.toks + ([]:List (Str × Value)).length }:=by
  refine Ze2 (fun n s'=>∃ i τ H',Inv (X.comp scope cl (ts++frs'.map (·.1)) pins s3 (upd H2 s2.heap.objs.size (.lst [])) fp) [] τ H' s'/\tn i s'.heap/\(∀ b∈fp,H' b=none)/\W i n τ H') ?_ m0
   ⟨0,_,_,I4,st4,fun b hb=>(f3 b hb).1,w0⟩
  rintro n s5 ⟨i,τ,H5,I5,st5,fr5,w5⟩
  rcases turn i n τ H5 w5 with ⟨stop,qn⟩ | ⟨go,step⟩
  ·refine YV (T.done (X.comp scope cl (ts++frs'.map (·.1)) pins s3 (upd H2 s2.heap.objs.size (.lst [])) fp) rfl rfl rfl hc i [] s5 τ H5 (fun _ _=>False) I5 (stat fr5) st5 stop) (fun r s6 ⟨hr,I6⟩=>?_) fun _ _ z=>z
   subst hr
   obtain ⟨m6,hn6,_⟩:=id I6.loc
   have hA:∀ h',Heap.SameBut s3.heap.objs.size s6.heap h'->Inv X pins σ H5 { s6 with heap:=h' }:=fun h' hs'=>Za2.after I3 f3 I6 hs'
   have hC0:=I3.fpOk (b:=s3.heap.objs.size) (Yg _) (I3.hok.fresh (Yg _))
   exact hfin _ _ H5 s6 m6 (hA s6.heap ⟨rfl,fun _ _=>rfl⟩) hn6 ⟨I6.free,hC0.2⟩ hA qn
  ·refine YV (T.item (X.comp scope cl (ts++frs'.map (·.1)) pins s3 (upd H2 s2.heap.objs.size (.lst [])) fp) rfl rfl rfl hc i [] s5 τ H5 (fun _ _=>False) I5 (stat fr5) st5 go) (fun r s6 ⟨u,hr,h6⟩=>?_) fun _ _ z=>z
   subst hr
   refine thn h6 fun _ s7 h_q=>?_
   obtain ⟨x,H7,I7,r7,y7,st7,fr7⟩:=h_q
   have I7':=I7.pinned (stat fr7) (T.obj _ _ st7)
   refine thn (hg _ _ _ _ _ s7 τ H7 x u _ I7' r7 (step x H7 y7)) fun _ s8 h_q=>?_
   obtain ⟨τ8,H8,I8,q8⟩:=h_q
   refine thn (ht _ _ _ _ _ s8 τ8 H8 _ I8 q8) fun ok s9 h_q=>?_
   obtain ⟨H9,I9,q9⟩:=h_q
   have again:∀ {m':Nat} {H':Hp} {s':Shared},Inv (X.comp scope cl (ts++frs'.map (·.1)) pins s3 (upd H2 s2.heap.objs.size (.lst [])) fp) ([]++ZeA fp s7.heap) τ8 H' s'->m' < n->W (i + 1) m' τ8 H' ->
     ∃ m,m < n/\∃ i τ H',Inv (X.comp scope cl (ts++frs'.map (·.1)) pins s3 (upd H2 s2.heap.objs.size (.lst [])) fp) [] τ H' s'/\tn i s'.heap/\(∀ b∈fp,H' b=none)/\W i m τ H':=fun {m' H' s'} I' hm w'=>by
    refine ⟨m',hm,i + 1,τ8,H',I'.unpinned,T.keep _ _ _ st7 fun b hb o e=>(I'.pin (b,o) (Yw _ (Yw _ (Za0 hb e)))).1,fun b hb=>?_,w'⟩
    obtain ⟨o,e,d⟩:=T.obj _ _ st7 b hb
    exact (I'.pin (b,o) (Yw _ (Yw _ (Za0 hb e)))).2.1
   cases ok with
   | false =>
    rw [if_neg Yx]
    rw [if_neg Yx] at q9
    obtain ⟨m',hm,w'⟩:=q9
    exact again I9 hm w'
   | true =>
    rw [if_pos rfl]
    rw [if_pos rfl] at q9
    refine thn (he _ _ _ _ _ s9 τ8 H9 _ I9 q9) fun yv s10 h_q=>?_
    obtain ⟨y,H10,I10,r10,ys,hl,hz,m',hm,w'⟩:=h_q
    refine thn (ZbB _ s10 τ8 H10 (.ref s2.heap.objs.size) [y] (.ref s2.heap.objs.size) [yv] (fun _ H'=>W (i + 1) m' τ8 H') I10 rfl (.cons r10 .nil) ⟨_,ys,y,rfl,rfl,hl,hz,w'⟩) fun _ s11 h_q=>?_
    obtain ⟨_,H11,I11,_,w11⟩:=h_q
    exact again I11 hm w11
 have es:(s2.heap.push { cls:=.type "list",data:=.seq ([]:List Value).toArray }).objs.size=s3.heap.objs.size:=by rw [es3]
 rw [es]
 exact codeAny_compStart_list loop (T.self _ 0 _ _ _ st4 loop)
theorem ZaF {X:Cx} {elt tg iter:Expr} {ifs:List Expr} {scope:Scope} {cl:List (Str × Addr)} {ts:List Str} {frs':List (Str × Nat)} {pos:Pos} {wi:TI} {g:TG} {tt:TT} {te:TE} (hc:X.calm=true) (S:Za2 X scope cl ts frs')
  (hi:PI X tg iter wi) (hg:∀ pins s H fp,PG (X.comp scope cl (ts++frs'.map (·.1)) pins s H fp) tg g) (ht:∀ pins s H fp,PIfs (X.comp scope cl (ts++frs'.map (·.1)) pins s H fp) ifs tt)
  (he:∀ pins s H fp,PE (X.comp scope cl (ts++frs'.map (·.1)) pins s H fp) elt te) (hs:∀ x,foldedSetIterable iter X.env x=pure x:=by intro _;rfl) :
  PE X (.ListComp elt [⟨tg,iter,ifs,0⟩] scope pos) (tComp ts.length frs' wi g tt te):=by
 intro pins s σ H Q I h
 rw [eval_ListComp]
 exact Zjj hc S hi hg ht he hs (use:=none) (Qv:=EP X pins σ Q) I h fun C D H5 s6 m6 I6 hn fpc hA q=>⟨m6,hn,fun h' hs'=>⟨.ref D,H5,hA h' hs',rfl,q⟩⟩
theorem Zee {X:Cx} {elt tg iter:Expr} {ifs:List Expr} {scope:Scope} {cl:List (Str × Addr)} {ts:List Str} {frs':List (Str × Nat)} {pos spos py:Pos} {wi:TI} {g:TG} {tt:TT} {te:TE} {i:Nat} {y:Str}
  (hN:X.N.Nodup) (hi':X.N[i]? = some y) (hy:Loc X.env.scope y) (hsw:swapsWith (.ListComp elt [⟨tg,iter,ifs,0⟩] scope pos) (some (.Name y py)) spos.line X.env=pure true) (hc:X.calm=true) (S:Za2 X scope cl ts frs')
  (hi:PI X tg iter wi) (hg:∀ pins s H fp,PG (X.comp scope cl (ts++frs'.map (·.1)) pins s H fp) tg g) (ht:∀ pins s H fp,PIfs (X.comp scope cl (ts++frs'.map (·.1)) pins s H fp) ifs tt)
  (he:∀ pins s H fp,PE (X.comp scope cl (ts++frs'.map (·.1)) pins s H fp) elt te) (hs:∀ x,foldedSetIterable iter X.env x=pure x:=by intro _;rfl) (hf:X.fn y=true\/X.env.scope.names.lookup y=some .local:=by first | exact .inl rfl | exact .inr rfl | assumption) :
  PS X (.Assign [.Name y py] (.ListComp elt [⟨tg,iter,ifs,0⟩] scope pos) spos) (tAsg (tComp ts.length frs' wi g tt te) (Zhp i)):=by
 intro pins s σ H D I h
 rw [exec_Assign_Name_used _ _ _ _ hsw]
 refine Yd (YaG (Yd ?_))
 show wpAny _ X.A (do let _ <- comprehension (.ListComp elt [⟨tg,iter,ifs,0⟩] scope pos) scope X.env _ (newList []) false (eval iter X.env) (some (assign (.Name y py) X.env))) _ _ s
 refine Yd (YV (Zjj hc S hi hg ht he hs (Qv:=fun _ s'=>SP X pins D .next s') (use:=some (assign (.Name y py) X.env)) I h ?_) (fun _ s' hq=>Yl (Yl hq)) fun _ _ e=>e)
 intro C Da H5 s6 m6 I6 hn6 fpC hA qn
 show wpAny _ X.A (assign (.Name y py) X.env (.ref Da)) _ _ _
 refine YcF (Zfa I6 hN hi' hy (v:=.ref Da) rfl (fun s7 I7 ⟨a,sb,ha⟩=>?_) hf)
 have hCa:C≠a:=by
  obtain ⟨_,h2,_,_,h5,_⟩:=fpC
  rcases ha with rfl | ha
  ·exact h2
  ·exact fun e=>h5 _ _ ha e.symm
 refine ⟨m6,hn6.sameBut sb hCa,fun h' hs'=>?_⟩
 obtain ⟨f0,f1,f2,f3,f4,f5⟩:=fpC
 exact ⟨_,H5,I7.turned (h':=h') (t':=s7.toks) (fun b o hb e=>(hs'.2 b hb).trans e) f0 f1 f3 f4 f5,qn⟩
noncomputable def ZfG (K:YFr):List V->Hp->VK->Prop:=fun xs H Q=>match xs with
 | [.ref p]=>∃ ys,Sq K H p ys/\∀ l,H l=none->Q (.ref l) (upd H l (.lst ys))
 | _=>False
theorem c_list {X:Cx}:Zbi X (.type "list") (ZfG X.K):=ZeJ.imp fun xs H Q q=>by
 unfold ZfG at q
 split at q
 ·obtain ⟨ys,h1,h2⟩:=q
  exact ⟨_,ys,rfl,h1,h2⟩
 ·exact q.elim
noncomputable def Zis (K:YFr):List V->Hp->VK->Prop:=fun xs H Q=>match xs with
 | [.ref p]=>∃ ys,((SqL K H p ys/\∀ l,H l=none->Q (.ref l) (upd H l (.tup ys)))\/(SqT K H p ys/\Q (.ref p) H))
 | _=>False
theorem Za6 {X:Cx}:Zbi X (.type "tuple") (Zis X.K):=Zd8.imp fun xs H Q q=>by
 unfold Zis at q
 split at q
 ·obtain ⟨ys,h⟩:=q
  exact ⟨_,ys,rfl,h⟩
 ·exact q.elim
end L2
namespace MM
noncomputable def sm (n:Nat) (f:Nat->Int):Int:=((List.range n).map f).sum
noncomputable abbrev at0 (l:List Int) (i:Nat):Int:=l.getD i 0
end MM
namespace MM
noncomputable def mc:Nat->Nat->Nat
 | _,0=>1
 | 0,_ + 1=>0
 | m + 1,j + 1=>mc m (j + 1) + mc (m + 1) j
noncomputable def ch:Nat->Nat->Nat
 | _,0=>1
 | 0,_ + 1=>0
 | n + 1,k + 1=>ch n k + ch n (k + 1)
noncomputable def hat (l:List Int):Int->Int:=fun z=>if 0<=z then at0 l z.toNat else 0
noncomputable def part (w:Nat->Int) (s:Nat) (bs:List Int) (m n:Nat):Int:=sm (m + 1) fun j=>if j * s<=n then w j * at0 bs (n - j * s) else 0
end MM
namespace L2
open PySem PySem.Spec PyProof.Rows
theorem iteP {c A B:Prop} [Decidable c] (hc:c) (h:A):if c then A else B:=by rw [if_pos hc];exact h
theorem iteN {c A B:Prop} [Decidable c] (hc:¬ c) (h:B):if c then A else B:=by rw [if_neg hc];exact h
section
variable {X:Cx} {pins:List (Addr × Obj)} {σ:St} {H:Hp} {s:Shared}
theorem Inv.turnedL {h':Heap} {ch:List Addr} {T:Addr} {o:HO} {t':Nat} (I:Inv X pins σ H s) (hch:∀ b∈ch,FpOk X pins H b) (k:∀ b u,b ∉ ch->s.heap.get? b=some u->h'.get? b=some u) (hT:s.heap.objs.size<=T)
  (new:Zbo X.prog X.w (upd H T o) h' T o):Inv X pins σ (upd H T o) { s with heap:=h',toks:=t' }:=by
 have hn:H T=none:=I.hok.fresh hT
 have nT:∀ b u,s.heap.get? b=some u->b≠T:=fun b u e=>YD (YL (Yo e) hT)
 have nch:∀ b u,H b=some u->b ∉ ch:=fun b u e z=>by rw [(hch b z).1] at e;cases e
 refine I.step (g':=s.gens) (d':=s.drawn) (ch:=ch) (fun b hb=>?_) (fun b u _ _ hc e _=>k b u hc e) (fun b u _ _ hc e _=>⟨u.slots,k b u hc e⟩) (fun b u _ e n=>by rw [Zy (nT b u e)];exact n)
  (fun b u hc e=>⟨u,k b u hc e⟩) (fun b xs e=>by rw [Zy (Zay e hn)];exact e) (fun b u v e=>by rw [Zy (Zay e hn)];exact e) (fun b ps e=>⟨#[],by rw [Zy (Zay e hn),e];simp⟩) (fun m hm=>?_) (fun b u e=>?_) I.bare
 ·obtain ⟨h0,h1,h2,h3,h4,h5⟩:=hch b hb
  exact ⟨h3,h1,h4,h5⟩
 ·obtain ⟨ob,es,ep,ho,r⟩:=hm
  exact ⟨ob,es,ep,k _ ob (fun z=>(hch _ z).2.1 rfl) ho,r⟩
 ·by_cases hb:b=T
  ·subst hb;rw [Zae] at e;cases e;exact new
  ·rw [Zy hb] at e
   refine (I.hok b u e).stay (fun c v hc q=>k c v ?_ q) (fun c q=>by rw [Zy (Zay q hn)];exact q) fun c xs q=>by rw [Zy (Zay q hn)];exact q
   rcases hc with z | z
   ·rw [z];exact nch b u e
   ·exact nch c _ z
theorem Inv.turnedM {h':Heap} {ch:List Addr} {t':Nat} (I:Inv X pins σ H s) (hch:∀ b∈ch,FpOk X pins H b) (k:∀ b u,b ∉ ch->s.heap.get? b=some u->h'.get? b=some u):Inv X pins σ H { s with heap:=h',toks:=t' }:=by
 have nch:∀ b u,H b=some u->b ∉ ch:=fun b u e z=>by rw [(hch b z).1] at e;cases e
 refine I.step (g':=s.gens) (d':=s.drawn) (ch:=ch) (fun b hb=>?_) (fun b u _ _ hc e _=>k b u hc e) (fun b u _ _ hc e _=>⟨u.slots,k b u hc e⟩) (fun _ _ _ _ n=>n)
  (fun b u hc e=>⟨u,k b u hc e⟩) (fun _ _ e=>e) (fun _ _ _ e=>e) (fun b ps e=>⟨#[],by rw [e];simp⟩) (fun m hm=>?_) (fun b u e=>?_) I.bare
 ·obtain ⟨h0,h1,h2,h3,h4,h5⟩:=hch b hb
  exact ⟨h3,h1,h4,h5⟩
 ·obtain ⟨ob,es,ep,ho,r⟩:=hm
  exact ⟨ob,es,ep,k _ ob (fun z=>(hch _ z).2.1 rfl) ho,r⟩
 ·refine (I.hok b u e).stay (fun c v hc q=>k c v ?_ q) (fun _ q=>q) fun _ _ q=>q
  rcases hc with z | z
  ·rw [z];exact nch b u e
  ·exact nch c _ z
end
noncomputable def Itz (K:YFr) (a b:Addr):It :=
 ⟨fun i H=>∃ xs ys x y,SqL K H a xs/\SqL K H b ys/\xs[i]? = some x/\ys[i]? = some y,
  fun i H v H'=>∃ T x y,v=.ref T/\H T=none/\H'=upd H T (.tup [x,y])/\(∀ xs,SqL K H a xs->xs[i]? = some x)/\(∀ ys,SqL K H b ys->ys[i]? = some y),
  fun i H=>∃ xs ys,SqL K H a xs/\SqL K H b ys/\(xs.length<=i\/ys.length<=i)⟩
noncomputable def Ite (K:YFr) (a:Addr):It :=
 ⟨fun i H=>∃ xs x,SqL K H a xs/\xs[i]? = some x,
  fun i H v H'=>∃ T x,v=.ref T/\H T=none/\H'=upd H T (.tup [.int i,x])/\(∀ xs,SqL K H a xs->xs[i]? = some x),
  fun i H=>∃ xs,SqL K H a xs/\xs.length<=i⟩
theorem turn_zip {P:Program} {w:World} {K:YFr} {elts:List Expr} {k0} {pos:Pos} {z TI TO i1 i2 l1 l2:Addr} (D:ZipApart z TI TO i1 i2 l1 l2):Turn P w K (.Tuple elts k0 pos) (Itz K l1 l2) [z,TI,TO,i1,i2] z
  (fun i h=>IsZip h z TI TO .none/\IsPair h TI (.ref i1) (.ref i2)/\(∃ a b,IsPair h TO a b)/\h.IsListIter i1 l1 i/\h.IsListIter i2 l2 i) where
 mem:=by simp
 obj := fun i h st b hb=>by
  obtain ⟨hz,hTI,⟨a,c,hTO⟩,h1,h2⟩:=st
  simp only [Yt,Y4,YaI] at hb
  rcases hb with rfl | rfl | rfl | rfl | rfl
  ·exact ⟨_,hz,fun v q=>nomatch q⟩
  ·exact ⟨_,hTI,fun v q=>nomatch q⟩
  ·exact ⟨_,hTO,fun v q=>nomatch q⟩
  ·obtain ⟨o,e,c,d⟩:=h1
   exact ⟨o,e,fun v q=>by rw [d] at q;cases q⟩
  ·obtain ⟨o,e,c,d⟩:=h2
   exact ⟨o,e,fun v q=>by rw [d] at q;cases q⟩
 keep:=fun i h h' st k=>by
  obtain ⟨hz,hTI,⟨a,c,hTO⟩,h1,h2⟩:=st
  exact ⟨k z (by simp) _ hz,k TI (by simp) _ hTI,⟨a,c,k TO (by simp) _ hTO⟩,h1.at fun o e=>k i1 (by simp) o e,h2.at fun o e=>k i2 (by simp) o e⟩
 item := by
  intro X hP hw hK hc i pins s σ H E I hf st hg
  subst hP hw hK
  obtain ⟨hz,hTI,⟨a,c,hTO⟩,h1,h2⟩:=st
  obtain ⟨xs,ys,x,y,hx,hy,hxi,hyi⟩:=hg
  obtain ⟨its,rv,p,_⟩:=I.list hx
  obtain ⟨its2,rv2,p2,_⟩:=I.list hy
  obtain ⟨u,hu,ru⟩:=rv.get hxi
  obtain ⟨u2,hu2,ru2⟩:=rv2.get hyi
  refine wpAny_pyNext_zip_item D hz hTI hTO h1 h2 p.isList p2.isList (x:=u) (y:=u2) (by simpa using hu) (by simpa using hu2) fun h' a1 a2 a3 a4 a5 a6 hk=>?_
  refine ⟨_,rfl,wpAny_letOwnedTupleGo_zip a1 fun h'' hz' sb=>?_⟩
  have nz:s.heap.objs.size≠z:=Ybz (Yo hz)
  have hT':IsTup h'' s.heap.objs.size [u,u2].toArray:=⟨_,sb.extBut _ _ nz a5,rfl,_,rfl⟩
  have I':Inv X pins σ (upd H s.heap.objs.size (.tup [x,y])) { s with heap:=h'',toks:=s.toks }:=I.turnedL (ch:=[z,TI,TO,i1,i2]) hf (fun b o hb e=>by
   simp only [Yt,Y4,YaI,not_or] at hb
   exact sb.extBut _ _ hb.1 (hk b o hb.1 hb.2.2.1 hb.2.2.2.1 hb.2.2.2.2 e)) (Yg _) ⟨by show 2<=sizeLine;decide,[u,u2],.cons ru (.cons ru2 .nil),hT'⟩
  have hn:H s.heap.objs.size=none:=I.hok.fresh (Yg _)
  refine ⟨.ref s.heap.objs.size,_,I',rfl,⟨_,x,y,rfl,hn,rfl,fun zs hzs=>by rw [I.list_inj hzs hx];exact hxi,fun zs hzs=>by rw [I.list_inj hzs hy];exact hyi⟩,
   ⟨hz',sb.extBut _ _ D.TIz (hk _ _ D.TIz D.TITO D.TIi1 D.TIi2 hTI),⟨_,_,sb.extBut _ _ D.TOz a2⟩,a3.extBut sb.extBut D.i1z,a4.extBut sb.extBut D.i2z⟩,fun b hb=>?_⟩
  have hfb:=(hf b hb).1
  have : b≠s.heap.objs.size:=by
   obtain ⟨o,e⟩:∃ o,s.heap.get? b=some o:=by
    simp only [Yt,Y4,YaI] at hb
    rcases hb with rfl | rfl | rfl | rfl | rfl
    ·exact ⟨_,hz⟩
    ·exact ⟨_,hTI⟩
    ·exact ⟨_,hTO⟩
    ·obtain ⟨o,e,_⟩:=h1;exact ⟨o,e⟩
    ·obtain ⟨o,e,_⟩:=h2;exact ⟨o,e⟩
   exact YD (Yo e)
  rw [Zy this];exact hfb
 done := by
  intro X hP hw hK hc i pins s σ H E I hf st hg
  subst hP hw hK
  obtain ⟨hz,hTI,⟨a,c,hTO⟩,h1,h2⟩:=st
  obtain ⟨xs,ys,hx,hy,hend⟩:=hg
  obtain ⟨its,rv,p,_⟩:=I.list hx
  obtain ⟨its2,rv2,p2,_⟩:=I.list hy
  have hl:=rv.length
  have hl2:=rv2.length
  refine wpAny_pyNext_zip_end (I.ok.hd hc) D hz hTI hTO h1 h2 p.isList p2.isList ?_ fun h' hk=>⟨rfl,I.turnedM (t':=s.toks) (ch:=[z,TI,TO,i1,i2]) hf (fun b o hb e=>by
   simp only [Yt,Y4,YaI,not_or] at hb
   exact hk b o hb.1 hb.2.2.1 hb.2.2.2.1 hb.2.2.2.2 e)⟩
  rcases hend with h | h
  ·exact .inl (by simp;lia)
  ·exact .inr (by simp;lia)
 self:=fun _ _ _ _ _ st h=>YcX st.1 h
theorem Zif {P:Program} {w:World} {K:YFr} {elts:List Expr} {k0} {pos:Pos} {e it l:Addr} (hne:e≠it):Turn P w K (.Tuple elts k0 pos) (Ite K l) [e,it] e
  (fun i h=>(∃ old,IsEnum h e it i old)/\h.IsListIter it l i) where
 mem:=by simp
 obj := fun i h st b hb=>by
  obtain ⟨⟨old,he⟩,h1⟩:=st
  simp only [Yt,Y4,YaI] at hb
  rcases hb with rfl | rfl
  ·exact ⟨_,he,fun v q=>nomatch q⟩
  ·obtain ⟨o,e,c,d⟩:=h1
   exact ⟨o,e,fun v q=>by rw [d] at q;cases q⟩
 keep:=fun i h h' st k=>by
  obtain ⟨⟨old,he⟩,h1⟩:=st
  exact ⟨⟨old,k e (by simp) _ he⟩,h1.at fun o q=>k it (by simp) o q⟩
 item := by
  intro X hP hw hK hc i pins s σ H E I hf st hg
  subst hP hw hK
  obtain ⟨⟨old,he⟩,h1⟩:=st
  obtain ⟨xs,x,hx,hxi⟩:=hg
  obtain ⟨its,rv,p,_⟩:=I.list hx
  obtain ⟨u,hu,ru⟩:=rv.get hxi
  refine wpAny_pyNext_enum_item he h1 p.isList (x:=u) (by simpa using hu) hne fun h' a1 a2 a3 a4 hk=>?_
  refine ⟨_,rfl,wpAny_letOwnedTupleGo_enum a1 fun h'' he' sb=>?_⟩
  have nz:s.heap.objs.size≠e:=Ybz (Yo he)
  have hT':IsTup h'' s.heap.objs.size [Value.int i s.toks,u].toArray:=⟨_,sb.extBut _ _ nz a3,rfl,_,rfl⟩
  have I':Inv X pins σ (upd H s.heap.objs.size (.tup [.int i,x])) { s with heap:=h'',toks:=s.toks + 1 }:=I.turnedL (ch:=[e,it]) hf (fun b o hb q=>by
   simp only [Yt,Y4,YaI,not_or] at hb
   exact sb.extBut _ _ hb.1 (hk b o hb.1 hb.2 q)) (Yg _) ⟨by show 2<=sizeLine;decide,[Value.int i s.toks,u],.cons ⟨_,rfl⟩ (.cons ru .nil),hT'⟩
  have hn:H s.heap.objs.size=none:=I.hok.fresh (Yg _)
  refine ⟨.ref s.heap.objs.size,_,I',rfl,⟨_,x,rfl,hn,rfl,fun zs hzs=>by rw [I.list_inj hzs hx];exact hxi⟩,⟨⟨_,by push_cast;exact he'⟩,a2.extBut sb.extBut (Ne.symm hne)⟩,fun b hb=>?_⟩
  have hfb:=(hf b hb).1
  have : b≠s.heap.objs.size:=by
   obtain ⟨o,q⟩:∃ o,s.heap.get? b=some o:=by
    simp only [Yt,Y4,YaI] at hb
    rcases hb with rfl | rfl
    ·exact ⟨_,he⟩
    ·obtain ⟨o,q,_⟩:=h1;exact ⟨o,q⟩
   exact YD (Yo q)
  rw [Zy this];exact hfb
 done := by
  intro X hP hw hK hc i pins s σ H E I hf st hg
  subst hP hw hK
  obtain ⟨⟨old,he⟩,h1⟩:=st
  obtain ⟨xs,hx,hend⟩:=hg
  obtain ⟨its,rv,p,_⟩:=I.list hx
  have hl:=rv.length
  exact wpAny_pyNext_enum_end (I.ok.hd hc) he h1 p.isList (by simp;lia) fun h' hk=>⟨rfl,I.turnedM (t':=s.toks) (ch:=[e,it]) hf (fun b o hb q=>by
   simp only [Yt,Y4,YaI,not_or] at hb
   exact hk b o hb.2 q)⟩
 self:=fun _ _ _ _ _ st h=>by
  obtain ⟨⟨old,he⟩,h1⟩:=st
  exact YcJ he h
theorem Zix (n l1 l2:Nat) (h1:l1 < n) (h2:l2 < n):ZipApart (n + 4) (n + 2) (n + 3) n (n + 1) l1 l2:=by
 constructor <;> exact (show (_:Nat)≠_ by lia)
noncomputable def uZip (K:YFr):List V->Hp->(It->Hp->Prop)->Prop:=fun vs H R=>match vs with
 | [.ref a,.ref b]=>(∃ xs ys,SqL K H a xs/\SqL K H b ys)/\R (Itz K a b) H
 | _=>False
noncomputable def uEnum (K:YFr):List V->Hp->(It->Hp->Prop)->Prop:=fun vs H R=>match vs with
 | [.ref a]=>(∃ xs,SqL K H a xs)/\R (Ite K a) H
 | _=>False
noncomputable def jArgs (u:List V->Hp->(It->Hp->Prop)->Prop) (ta:TA):TI:=fun σ H R=>ta σ H fun vs H1=>u vs H1 R
theorem boot_zip:bootBuiltins "zip"=some (.type "zip"):=by decide +kernel
theorem ZdA:bootBuiltins "enumerate"=some (.type "enumerate"):=by decide +kernel
section
variable {X:Cx} {elts:List Expr} {k0:Nat} {a b:Expr} {p pos tp:Pos} {ta:TA}
theorem pj_zip (hg:Gl X "zip") (hm:X.mg "zip"=none) (ha:PA X [a,b] ta) (hs:starEach [a,b] X.env=[(false,eval a X.env),(false,eval b X.env)]:=by rfl) (hs2:starEach [b] X.env=[(false,eval b X.env)]:=by rfl) :
  PI X (.Tuple elts k0 tp) (.Call (.Name "zip" p) [a,b] [] pos) (jArgs (uZip X.K) ta):=by
 intro pins s σ H R I h
 refine Call_ (ZbF I hg hm boot_zip (Y9 (thn (ha pos pins s σ H _ I h) fun us s1 ⟨vs,H1,I1,r1,q1⟩=>?_) (by rw [hs,hs2]) (by rw [hs2];rfl)))
 unfold uZip at q1
 dsimp only at q1
 split at q1
 ·rename_i l1 l2
  obtain ⟨⟨xs,ys,hx,hy⟩,q⟩:=q1
  cases r1 with
  | cons r rr =>
   cases rr with
   | cons r' rr =>
    cases rr
    cases r
    cases r'
    obtain ⟨its,rv,pl,_⟩:=I1.list hx
    obtain ⟨its2,rv2,pl2,_⟩:=I1.list hy
    have e1:l1 < s1.heap.objs.size:=by obtain ⟨o,n,e,_⟩:=pl;exact Yo e
    have e2:l2 < s1.heap.objs.size:=by obtain ⟨o,n,e,_⟩:=pl2;exact Yo e
    refine call_zip_2 pl.isList pl2.isList fun h' a1 a2 a3 a4 a5 a6 hk=>?_
    refine YcX a1 ?_
    have I2:Inv X pins σ H1 { s1 with heap:=h' }:=I1.kept (t':=s1.toks) hk
    refine ⟨s1.heap.objs.size + 4,_,_,_,H1,rfl,I2,turn_zip (Zix s1.heap.objs.size l1 l2 e1 e2),⟨a1,a2,⟨_,_,a3⟩,a4,a5⟩,fun b hb=>?_,q⟩
    have hb':s1.heap.objs.size<=b:=by
     simp only [Yt,Y4,YaI] at hb
     rcases hb with rfl | rfl | rfl | rfl | rfl <;> first | exact YbS _ _ | exact Yg _
    exact I1.fpOk hb' (I1.hok.fresh hb')
 ·exact q1.elim
theorem pj_enum (hg:Gl X "enumerate") (hm:X.mg "enumerate"=none) (ha:PA X [a] ta) (hs:starEach [a] X.env=[(false,eval a X.env)]:=by rfl) :
  PI X (.Tuple elts k0 tp) (.Call (.Name "enumerate" p) [a] [] pos) (jArgs (uEnum X.K) ta):=by
 intro pins s σ H R I h
 refine Call_ (ZbF I hg hm ZdA (Y9 (thn (ha pos pins s σ H _ I h) fun us s1 ⟨vs,H1,I1,r1,q1⟩=>?_) hs rfl))
 unfold uEnum at q1
 dsimp only at q1
 split at q1
 ·rename_i l1
  obtain ⟨⟨xs,hx⟩,q⟩:=q1
  cases r1 with
  | cons r rr =>
   cases rr
   cases r
   obtain ⟨its,rv,pl,_⟩:=I1.list hx
   refine call_enumerate_list pl.isList fun h' a1 a2 a3 hk=>?_
   refine YcJ a1 ?_
   have I2:Inv X pins σ H1 { s1 with heap:=h' }:=I1.kept (t':=s1.toks) hk
   refine ⟨s1.heap.objs.size + 1,_,_,_,H1,rfl,I2,Zif (Nat.succ_ne_self _),⟨⟨_,a1⟩,a2⟩,fun b hb=>?_,q⟩
   have hb':s1.heap.objs.size<=b:=by
    simp only [Yt,Y4,YaI] at hb
    rcases hb with rfl | rfl <;> first | exact YbS _ _ | exact Yg _
   exact I1.fpOk hb' (I1.hok.fresh hb')
 ·exact q1.elim
end
theorem Zf2 {X:Cx} (K:YFr) (hK:X.K=K) (n:Nat) {es:List Expr} {k:Nat} {t:TGs} {pos:Pos} (hc:X.calm=true) (h:PGs X es t) (hn:(assignEach es X.env).length=n) (hst:(assignEach es X.env).findIdx? (·.1)=none):PG X (.Tuple es k pos) (gTup K n t):=by
 subst hK
 exact ZgZ hc h hn hst
theorem g2 {K:YFr} {T:Addr} {x y:V} {k0 k1:Option V} {fr:St} {H:Hp} {Q:St->Hp->Prop} (h:SqT K H T [x,y]) (q:Q (some x::some y::fr) H):gTup K 2 (gCons (Zhp 0) (gCons (Zhp 1) gNil)) (.ref T) (k0::k1::fr) H Q :=
 ⟨T,_,rfl,h,rfl,_,_,rfl,_,_,rfl,rfl,q⟩
theorem ZcV (ns:List Int):∀ k i,i<=k->MM.at0 ns (argBest (fun i j=>decide (MM.at0 ns i < MM.at0 ns j)) k)<=MM.at0 ns i
 | 0, i,h=>by
  have:i=0:=by lia
  subst this
  exact YbF _
 | k + 1, i,h=>by
  rw [argBest]
  have ih:=ZcV ns k
  split
  ·rename_i hb
   have hb:=YaZ hb
   by_cases e:i=k + 1
   ·rw [e];exact YbF _
   ·have:=ih i (by lia)
    lia
  ·rename_i hb
   have hb:¬ (MM.at0 ns (k + 1) < MM.at0 ns (argBest (fun i j=>decide (MM.at0 ns i < MM.at0 ns j)) k)):=fun z=>hb (YaA z)
   by_cases e:i=k + 1
   ·rw [e];lia
   ·exact ih i (by lia)
theorem Zdm (ns:List Int):∀ k i,i<=k->MM.at0 ns i<=MM.at0 ns (argBest (fun i j=>decide (MM.at0 ns j < MM.at0 ns i)) k)
 | 0, i,h=>by
  have:i=0:=by lia
  subst this
  exact YbF _
 | k + 1, i,h=>by
  rw [argBest]
  have ih:=Zdm ns k
  split
  ·rename_i hb
   have hb:=YaZ hb
   by_cases e:i=k + 1
   ·rw [e];exact YbF _
   ·have:=ih i (by lia)
    lia
  ·rename_i hb
   have hb:¬ (MM.at0 ns (argBest (fun i j=>decide (MM.at0 ns j < MM.at0 ns i)) k) < MM.at0 ns (k + 1)):=fun z=>hb (YaA z)
   by_cases e:i=k + 1
   ·rw [e];lia
   ·exact ih i (by lia)
theorem ZjL {ns:List Int} {i:Nat} (h:i < ns.length):MM.at0 ns i∈ns:=by
 unfold MM.at0
 rw [Yq,Ye h]
 exact Ybr h
theorem Zid {ns:List Int} {x:Int} (h:x∈ns):∃ i,i < ns.length/\MM.at0 ns i=x:=by
 obtain ⟨i,hi,e⟩:=List.mem_iff_getElem.mp h
 refine ⟨i,hi,?_⟩
 unfold MM.at0
 rw [Yq,Ye hi]
 exact e
theorem ZbW {ns:List Int} {its:List Value} (rv:Vals (ns.map V.int) its) {i:Nat} {v:Value} (h:its.toArray[i]? = some v):i < ns.length/\∃ t,v=.int (MM.at0 ns i) t:=by
 have hv':its[i]? = some v:=by simpa using h
 have hlen:=rv.length
 have hi:i < ns.length:=by
  have:=(Yp.mp hv').1
  rw [Yb] at hlen
  lia
 refine ⟨hi,?_⟩
 have e:(ns.map V.int)[i]? = some (.int (MM.at0 ns i)):=by
  rw [Yr,Ye hi]
  unfold MM.at0
  rw [Yq,Ye hi]
  rfl
 obtain ⟨u,hu,ru⟩:=rv.get e
 rw [hv'] at hu
 cases hu
 exact ru
section
variable {X:Cx}
noncomputable def uMinA (K:YFr):List V->Hp->VK->Prop:=fun xs H Q=>match xs with
 | [.int i,.int j]=>Q (.int (min i j)) H
 | [.ref p]=>∃ ns:List Int,SqL K H p (ns.map V.int)/\1<=ns.length/\∀ m,m∈ns->(∀ x∈ns,m<=x)->Q (.int m) H
 | _=>False
noncomputable def uMaxA (K:YFr):List V->Hp->VK->Prop:=fun xs H Q=>match xs with
 | [.int i,.int j]=>Q (.int (max i j)) H
 | [.ref p]=>∃ ns:List Int,SqL K H p (ns.map V.int)/\1<=ns.length/\∀ m,m∈ns->(∀ x∈ns,x<=m)->Q (.int m) H
 | _=>False
theorem c_minL (hc:X.calm=true):Zbi X (.builtin "min") (fun xs H Q=>∃ (p:Addr) (ns:List Int),xs=[.ref p]/\SqL X.K H p (ns.map V.int)/\1<=ns.length/\∀ m,m∈ns->(∀ x∈ns,m<=x)->Q (.int m) H):=by
 intro pins s σ H xs us Q I r h
 obtain ⟨p,ns,rfl,hl,h1,q⟩:=h
 obtain ⟨u,rfl,ru⟩:=r.one
 cases ru
 obtain ⟨its,rv,pl,hz⟩:=I.list hl
 have hlen:its.toArray.size=ns.length:=by have:=rv.length;simp at this;simp;lia
 have hp:p < s.heap.objs.size:=by obtain ⟨o,n,e,_⟩:=pl;exact Yo e
 refine call_min_walk (YaX pl.isList ?_)
 refine ⟨s.heap.objs.size,_,_,_,_,_,fun i j=>decide (MM.at0 ns i < MM.at0 ns j),rfl,YcZ (show X.A.in1.handled=none from I.ok.hd hc) s.heap.objs.size p (YD hp) its.toArray,⟨⟨_,YI _ rfl,rfl,rfl⟩,pl.isList.at fun o e=>Yi _ e⟩,?_,by rw [hlen];exact h1,?_,?_⟩
 ·intro b hb
  rw [YbD]
  rcases Yt.mp hb with rfl | hb
  ·exact YbR _
  ·have:b=p:=by simpa using hb
   subst this
   exact YaY hp
 ·intro i j vi vj s' Q' E' hi hj hq
  obtain ⟨_,t,rfl⟩:=ZbW rv hi
  obtain ⟨_,t',rfl⟩:=ZbW rv hj
  exact HT.rcLt_int _ _ _ _ _ _ _ _ _ _ hq
 ·intro v h' tk hv hk
  obtain ⟨hi,t,rfl⟩:=ZbW rv hv
  rw [hlen] at hi ⊢
  refine ⟨.int _,H,I.kept (t':=tk) fun b o e=>hk b o (by simp;exact YD (Yo e)) (Yi _ e),⟨_,rfl⟩,q _ (ZjL hi) fun x hx=>?_⟩
  obtain ⟨j,hj,rfl⟩:=Zid hx
  exact ZcV ns (ns.length - 1) j (by lia)
theorem c_maxL (hc:X.calm=true):Zbi X (.builtin "max") (fun xs H Q=>∃ (p:Addr) (ns:List Int),xs=[.ref p]/\SqL X.K H p (ns.map V.int)/\1<=ns.length/\∀ m,m∈ns->(∀ x∈ns,x<=m)->Q (.int m) H):=by
 intro pins s σ H xs us Q I r h
 obtain ⟨p,ns,rfl,hl,h1,q⟩:=h
 obtain ⟨u,rfl,ru⟩:=r.one
 cases ru
 obtain ⟨its,rv,pl,hz⟩:=I.list hl
 have hlen:its.toArray.size=ns.length:=by have:=rv.length;simp at this;simp;lia
 have hp:p < s.heap.objs.size:=by obtain ⟨o,n,e,_⟩:=pl;exact Yo e
 refine call_max_walk (YaX pl.isList ?_)
 refine ⟨s.heap.objs.size,_,_,_,_,_,fun i j=>decide (MM.at0 ns j < MM.at0 ns i),rfl,YcZ (show X.A.in1.handled=none from I.ok.hd hc) s.heap.objs.size p (YD hp) its.toArray,⟨⟨_,YI _ rfl,rfl,rfl⟩,pl.isList.at fun o e=>Yi _ e⟩,?_,by rw [hlen];exact h1,?_,?_⟩
 ·intro b hb
  rw [YbD]
  rcases Yt.mp hb with rfl | hb
  ·exact YbR _
  ·have:b=p:=by simpa using hb
   subst this
   exact YaY hp
 ·intro i j vi vj s' Q' E' hi hj hq
  obtain ⟨_,t,rfl⟩:=ZbW rv hi
  obtain ⟨_,t',rfl⟩:=ZbW rv hj
  have hq':Q' (.bool (decide (MM.at0 ns i > MM.at0 ns j))) s':=hq
  exact (PyProof.Rows.gt_int hq':wpAny _ _ (compareOp .Gt _ _) _ _ _)
 ·intro v h' tk hv hk
  obtain ⟨hi,t,rfl⟩:=ZbW rv hv
  rw [hlen] at hi ⊢
  refine ⟨.int _,H,I.kept (t':=tk) fun b o e=>hk b o (by simp;exact YD (Yo e)) (Yi _ e),⟨_,rfl⟩,q _ (ZjL hi) fun x hx=>?_⟩
  obtain ⟨j,hj,rfl⟩:=Zid hx
  exact Zdm ns (ns.length - 1) j (by lia)
theorem ZhZ (hc:X.calm=true):Zbi X (.builtin "max") (uMaxA X.K):=((c_max hc).or (c_maxL hc)).imp fun xs H Q q=>by
 unfold uMaxA at q
 split at q
 ·exact .inl q
 ·obtain ⟨ns,h1,h2,h3⟩:=q
  exact .inr ⟨_,ns,rfl,h1,h2,h3⟩
 ·exact q.elim
end
section
variable {prog:Program} {w:World} {A:Around} {E:Value->Shared->Prop} {s:Shared}
theorem cat_tup0 {t b:Addr} {ws:List Value} {Q:Value->Shared->Prop} (ht:IsTup s.heap t #[]) (hb:IsTup s.heap b ws.toArray) (h:Q (.ref b) s):wpAny (model prog w) A (binaryOp .Add (.ref t) (.ref b)) Q E s:=by
 obtain ⟨⟨c1,d1,x1,l1⟩,g1,k1,n1,z1⟩:=id ht
 obtain ⟨⟨c2,d2,x2,l2⟩,g2,k2,n2,z2⟩:=id hb
 simp only at k1 z1 k2 z2
 subst k1 z1 k2 z2
 exact YbP ⟨_,g1,rfl⟩ ⟨_,g2,rfl⟩ PySem.noFill_tuple_add PySem.seq_tuple_add Ybm Ybi (Yba _ _) (tuple_addW0 t b #[] ws.toArray n1 n2 d1 d2 l1 l2 rfl) ⟨g1,g2,h⟩
end
section
variable {X:Cx}
noncomputable def rCatU (K:YFr):R2:=fun x y H Q=>∃ a b xs ys,x=.ref a/\y=.ref b/\SqT K H a xs/\SqT K H b ys/\xs.length + ys.length<=sizeLine/\∀ p H',Same H H'->SqT K H' p (xs++ys)->Q (.ref p) H'
theorem op_catU:OpR X (binaryOp .Add) (rCatU X.K):=by
 intro pins s σ H x y v u Q I rx ry h
 obtain ⟨a,b,xs,ys,rfl,rfl,ha,hb,hz,q⟩:=h
 by_cases hx:xs=[]
 ·subst hx
  cases rx
  cases ry
  obtain ⟨its,r1,p1,_⟩:=I.tuple ha
  obtain ⟨its2,r2,p2,_⟩:=I.tuple hb
  cases r1
  exact cat_tup0 p1 p2 ⟨.ref b,H,I,rfl,q b H (Same.refl _) hb⟩
 ·refine op_catT pins s σ H (.ref a) (.ref b) v u Q I rx ry ⟨a,b,xs,ys,rfl,rfl,ha,hb,hx,hz,fun e=>?_,fun _ p hp=>?_⟩
  ·subst e
   exact q a H (Same.refl _) (by rw [Y8];exact ha)
  ·exact q p _ (Same.upd_new hp) (SqT.of Zae)
noncomputable def rSlU (K:YFr):V->Option Int->Option Int->Hp->VK->Prop:=fun x lo hi H Q=>∃ a xs,x=.ref a/\SqT K H a xs/\∀ p H',Same H H'->SqT K H' p (cutV xs lo hi)->Q (.ref p) H'
end
section
variable {prog:Program} {w:World} {A:Around} {E:Value->Shared->Prop} {s:Shared}
theorem Zjn {t sl:Addr} {items:Array Value} {vl vu:Value} {lo hi:Option Int} {Q:Value->Shared->Prop} (ht:IsTup s.heap t items) (hs:s.heap.IsSliceOf sl vl vu .none) (pl:IsPart vl lo) (pu:IsPart vu hi)
  (h1:HT.sIx items.size 0 lo=0) (h2:HT.sIx items.size items.size hi=items.size) (h:Q (.ref t) s):wpAny (model prog w) A (getItem (.ref t) (.ref sl)) Q E s:=by
 obtain ⟨ob,g1,g2,g3⟩:=id hs
 have hT:s.TypeIs (.ref sl) "slice":=⟨ob,g1,g2⟩
 unfold getItem
 try with_reducible refine YU ?_
 first | refine Yd (Yl ?_) | skip
 refine Yd (YbK ht.typeIs (by decide) ?_)
 have key:wpAny (model prog w) A.in1 (Builtin.«tuple.__getitem__» ⟨[.ref t,.ref sl],[]⟩) (fun fin s'=>∃ v,fin=.done (.ret v)/\Q v s') E s:=by
  show wpAny _ _ (Builtin.Tuple.tupleItemsOf (.ref t) >>= _) _ _ s
  refine Yd (PyProof.Rows.tupleItemsOf_ ht (Yd (Ybb hT ?_)))
  rw [if_pos (by decide)]
  refine Yd (HT.sliceApplied_gen hs pl pu ?_)
  rw [h1,h2]
  show wpAny _ _ (if ((((0:Nat):Int) == 0 && (1:Int) == 1 && (items.size - 0) == items.size))=true then _ else _) _ _ s
  rw [if_pos (by simp)]
  refine Yd (Yd (Ybb ht.typeIs (Yl ?_)))
  rw [if_pos (by decide)]
  exact Yd (Ycl (Yl ⟨_,rfl,h⟩))
 exact Yd (Ybj (name:=Str.ofString "__getitem__") ht.typeIs Yac (Ybq Yac ht.typeIs PyProof.Rows.entry_tuple_getitem (YV key (fun fin s' ⟨v,e,q⟩=>⟨v,e,Yl q⟩) fun _ _ z=>z) (PyProof.Rows.args_tuple_getitem _ _)))
end
section
variable {X:Cx}
theorem Zhd {xs:List V} {lo hi:Option Int} (h1:HT.sIx xs.length 0 lo=0) (h2:HT.sIx xs.length xs.length hi=xs.length):cutV xs lo hi=xs:=by
 unfold cutV
 rw [h1,h2,YaB,Nat.sub_zero,Yat]
theorem sl_tupU:SlR X (rSlU X.K):=by
 intro pins s σ H x v vl vu lo hi sl Q I rx hs pl pu h
 obtain ⟨a,xs,rfl,hx,q⟩:=h
 by_cases hw:HT.sIx xs.length 0 lo=0/\HT.sIx xs.length xs.length hi=xs.length
 ·cases rx
  obtain ⟨its,r,ht,hz⟩:=I.tuple hx
  have hlen:its.toArray.size=xs.length:=by rw [Yj];exact r.length.symm
  refine ⟨"tuple",_,Yac.lookup,ht.typeIs,Zjn ht hs pl pu (by rw [hlen];exact hw.1) (by rw [hlen];exact hw.2) ⟨.ref a,H,I,rfl,q a H (Same.refl _) ?_⟩⟩
  rw [Zhd hw.1 hw.2]
  exact hx
 ·exact sl_tup pins s σ H (.ref a) v vl vu lo hi sl Q I rx hs pl pu ⟨a,xs,rfl,hx,hw,fun p hp=>q p _ (Same.upd_new hp) (SqT.of Zae)⟩
noncomputable def uAddW (K:YFr):R2:=fun x y H Q=>match x,y with
 | .int i,.int j=>Q (.int (i + j)) H
 | .str i,.str j=>i.length + j.length<=sizeLine/\Q (.str (i++j)) H
 | .ref a,.ref b=>(∃ xs zs,SqL K H a xs/\SqL K H b zs/\xs.length + zs.length<=sizeLine/\∀ p,H p=none->Q (.ref p) (upd H p (.lst (xs++zs)))) \/
   (∃ xs zs,SqT K H a xs/\SqT K H b zs/\xs.length + zs.length<=sizeLine/\∀ p H',Same H H'->SqT K H' p (xs++zs)->Q (.ref p) H')
 | _,_=>False
theorem Z0:OpR X (binaryOp .Add) (uAddW X.K):=((op_add.or ZhK).or (op_catL.or op_catU)).imp fun x y H Q q=>by
 unfold uAddW at q
 split at q
 ·exact .inl (.inl ⟨_,_,rfl,rfl,q⟩)
 ·exact .inl (.inr ⟨_,_,rfl,rfl,q.1,q.2⟩)
 ·rcases q with ⟨xs,zs,h1,h2,h3,h4⟩ | ⟨xs,zs,h1,h2,h3,h4⟩
  ·exact .inr (.inl ⟨_,_,xs,zs,rfl,rfl,h1,h2,h3,h4⟩)
  ·exact .inr (.inr ⟨_,_,xs,zs,rfl,rfl,h1,h2,h3,h4⟩)
 ·exact q.elim
theorem k_addW (K:YFr) (h:X.K=K):OpR X (binaryOp .Add) (uAddW K):=h ▸ Z0
noncomputable def uSlW (K:YFr):V->Option Int->Option Int->Hp->VK->Prop:=fun x lo hi H Q=>match x with
 | .str z=>z.length<=sizeLine/\Q (.str (cutS z lo hi)) H
 | .ref a=>(∃ xs,SqL K H a xs/\∀ p,H p=none->Q (.ref p) (upd H p (.lst (cutV xs lo hi))))\/(∃ xs,SqT K H a xs/\∀ p H',Same H H'->SqT K H' p (cutV xs lo hi)->Q (.ref p) H')
 | _=>False
theorem Za3:SlR X (uSlW X.K):=by
 intro pins s σ H x v vl vu lo hi sl Q I rx hs pl pu q
 unfold uSlW at q
 split at q
 ·exact sl_str pins s σ H _ v vl vu lo hi sl Q I rx hs pl pu ⟨_,rfl,q.1,q.2⟩
 ·rcases q with ⟨xs,h1,h2⟩ | ⟨xs,h1,h2⟩
  ·exact sl_list pins s σ H _ v vl vu lo hi sl Q I rx hs pl pu ⟨_,xs,rfl,h1,h2⟩
  ·exact sl_tupU pins s σ H _ v vl vu lo hi sl Q I rx hs pl pu ⟨_,xs,rfl,h1,h2⟩
 ·exact q.elim
theorem k_slW (K:YFr) (h:X.K=K):SlR X (uSlW K):=h ▸ Za3
end
theorem Ziv:typeLookup (.type "list_reverseiterator") "__len__"=pure none:=by rw [typeLookup_type,Ycf];kernel_rfl
theorem hint_rev:typeLookup (.type "list_reverseiterator") "__length_hint__"=pure (some (.builtin "list_reverseiterator.__length_hint__")):=by rw [typeLookup_type,Ycf];kernel_rfl
theorem Zh3 {items acc:Array Value} (h:ItemsOf (fun i v=>items[items.size - 1 - i]? = some v) acc items.size):acc.toList=items.toList.reverse:=by
 obtain ⟨h1,h2⟩:=h
 apply YbL
 intro j
 by_cases hj:j < items.size
 ·have e:=h2 j (acc[j]'(by lia)) (Ya5 (by lia))
  rw [Ybt (by simpa using hj),Yav,Yav,Array.length_toList,e]
  exact Ya5 (by lia)
 ·rw [YT (by rw [Array.length_toList];lia),YT (by rw [Yaq,Array.length_toList];lia)]
theorem Zej:bootBuiltins "reversed"=some (.type "reversed"):=by decide +kernel
theorem ZeP {s s':Shared} {wr:List Addr} (m:Moved wr (fun a b=>b=a) s s'):s'={ s with heap:=s'.heap,toks:=s'.toks }:=by
 have h1:=m.gens
 have h2:=m.drawn
 have h3:=m.os
 cases s'
 simp only at h1 h2 h3
 subst h1 h2 h3
 rfl
section
variable {X:Cx} {e:Expr} {te:TE} {p1 p2 pos1 pos2:Pos}
theorem Zgz (hc:X.calm=true) (hg2:Gl X "reversed") (hm2:X.mg "reversed"=none) (he:PE X e te) (hs2:starEach [e] X.env=[(false,eval e X.env)]) {pins:List (Addr × Obj)} {s:Shared} {σ:St} {H:Hp} {R:Addr->List V->Hp->Prop} {Q:Value->Shared->Prop} (I:Inv X pins σ H s)
  (h:te σ H fun x H1=>∃ a xs,x=.ref a/\SqL X.K H1 a xs/\R a xs H1)
  (k:∀ a xs H1 s1 its,Inv X pins σ H1 s1->SqL X.K H1 a xs->Vals xs its->s1.heap.IsList a its.toArray->xs.length<=sizeLine->R a xs H1->Q (.ref s1.heap.objs.size) { s1 with heap:=s1.heap.push (revObj a ((its.toArray.size:Int) - 1)) }) :
  wpAny (model X.prog X.w) X.A (eval (.Call (.Name "reversed" p2) [e] [] pos2) X.env) Q X.xe s:=by
 refine Yaj (ZbF I hg2 hm2 Zej ?_ (by decide) (by decide))
 refine Y9 (T:="reversed") ?_ hs2 rfl
 rw [hs2]
 refine (show wpAny _ _ (spliced ((false,eval e X.env)::[])) _ _ s from YbG (thn (he pins s σ H _ I h) fun v s1 ⟨x,H1,I1,r1,a,xs,e1,hx,q⟩=>YbJ ?_))
 subst e1
 cases r1
 obtain ⟨its,rv,pl,hz⟩:=I1.list hx
 exact call_reversed_list pl.isList (k a xs H1 s1 its I1 hx rv pl.isList hz q)
end
inductive Wr where
 | nothing
 | bead (c:Str)
 | side (b:Bool) (f:Wr)
 | pair (f g:Wr)
 | many (k:Nat) (ps:List Wr)
noncomputable def Zaq:Nat->Str
 | 0=>"row"
 | 1=>"bag"
 | 2=>"choice"
 | _=>"ring"
noncomputable def Zcw:Bool->Str
 | true=>"right"
 | false=>"left"
noncomputable def Wr.name:Wr->Str
 | .nothing=>"nothing"
 | .bead _=>"bead"
 | .side b _=>Zcw b
 | .pair _ _=>"pair"
 | .many k _=>Zaq k
noncomputable def Wr.parts:Wr->List Wr
 | .nothing=>[]
 | .bead _=>[]
 | .side _ f=>[f]
 | .pair f g=>[f,g]
 | .many _ ps=>ps
mutual
noncomputable def Wr.tups:Wr->Nat
 | .nothing=>1
 | .bead _=>1
 | .side _ f=>1 + f.tups
 | .pair f g=>1 + (f.tups + (g.tups + 0))
 | .many _ ps=>1 + Zp ps
noncomputable def Zp:List Wr->Nat
 | []=>0
 | w::ws=>w.tups + Zp ws
end
mutual
noncomputable def Wr.dep:Wr->Nat
 | .nothing=>1
 | .bead _=>1
 | .side _ f=>1 + f.dep
 | .pair f g=>1 + max f.dep g.dep
 | .many _ ps=>1 + depL ps
noncomputable def depL:List Wr->Nat
 | []=>0
 | w::ws=>max w.dep (depL ws)
end
mutual
noncomputable def Wr.ok:Wr->Bool
 | .nothing=>true
 | .bead c=>PyData.strOk c
 | .side _ f=>f.ok
 | .pair f g=>f.ok && g.ok
 | .many _ ps=>okL ps
noncomputable def okL:List Wr->Bool
 | []=>true
 | w::ws=>w.ok && okL ws
end
theorem Wr.tups_pos:∀ w:Wr,1<=w.tups
 | .nothing=>by simp [Wr.tups]
 | .bead _=>by simp [Wr.tups]
 | .side _ f=>by simp [Wr.tups]
 | .pair f g=>by simp [Wr.tups]
 | .many _ ps=>by simp [Wr.tups]
theorem Wr.dep_pos:∀ w:Wr,1<=w.dep
 | .nothing=>by simp [Wr.dep]
 | .bead _=>by simp [Wr.dep]
 | .side _ f=>by simp [Wr.dep]
 | .pair f g=>by simp [Wr.dep]
 | .many _ ps=>by simp [Wr.dep]
mutual
theorem Wr.dep_le:∀ w:Wr,w.dep<=w.tups
 | .nothing=>Yg _
 | .bead _=>Yg _
 | .side _ f=>by have:=f.dep_le;simp only [Wr.dep,Wr.tups];lia
 | .pair f g=>by have:=f.dep_le;have:=g.dep_le;simp only [Wr.dep,Wr.tups];lia
 | .many _ ps=>by have:=ZfP ps;simp only [Wr.dep,Wr.tups];lia
theorem ZfP:∀ ws:List Wr,depL ws<=Zp ws
 | []=>Yg _
 | w::ws=>by have:=w.dep_le;have:=ZfP ws;simp only [depL,Zp];lia
end
theorem ZaM:∀ {ws:List Wr} {w:Wr},w∈ws->w.dep<=depL ws
 | v :: ws,w,h=>by
  simp only [depL]
  rcases Yt.mp h with rfl | h
  ·lia
  ·have:=ZaM h;lia
theorem ZfE:∀ {ws:List Wr} {w:Wr},okL ws=true->w∈ws->w.ok=true
 | v :: ws,w,h0,h=>by
  simp only [okL,Yc] at h0
  rcases Yt.mp h with rfl | h
  ·exact h0.1
  ·exact ZfE h0.2 h
theorem Zaw:∀ {ws:List Wr} {w:Wr},w∈ws->w.tups<=Zp ws
 | v :: ws,w,h=>by
  simp only [Zp]
  rcases Yt.mp h with rfl | h
  ·lia
  ·have:=Zaw h;lia
theorem Zo:∀ (ws us:List Wr),Zp (ws++us)=Zp ws + Zp us
 | [],us=>by simp [Zp]
 | w::ws,us=>by simp only [List.cons_append,Zp,Zo ws us];lia
theorem Wr.parts_dep (w:Wr):depL w.parts + 1<=w.dep:=by
 cases w with
 | nothing=>simp [Wr.parts,depL,Wr.dep]
 | bead c=>simp [Wr.parts,depL,Wr.dep]
 | side b f=>simp [Wr.parts,depL,Wr.dep];lia
 | pair f g=>simp [Wr.parts,depL,Wr.dep];lia
 | many k ps=>simp [Wr.parts,Wr.dep];lia
theorem Wr.parts_tups (w:Wr):Zp w.parts + 1<=w.tups:=by
 cases w with
 | nothing=>simp [Wr.parts,Zp,Wr.tups]
 | bead c=>simp [Wr.parts,Zp,Wr.tups]
 | side b f=>simp [Wr.parts,Zp,Wr.tups];lia
 | pair f g=>simp [Wr.parts,Zp,Wr.tups];lia
 | many k ps=>simp [Wr.parts,Wr.tups];lia
noncomputable def Zek (K:YFr) (H H':Hp):Prop:=∀ a xs,SqT K H a xs->SqT K H' a xs
theorem Zek.trans {K:YFr} {H H1 H2:Hp} (h:Zek K H H1) (k:Zek K H1 H2):Zek K H H2:=fun a xs q=>k a xs (h a xs q)
theorem Same.tups {K:YFr} {H H':Hp} (e:Same H H'):Zek K H H':=fun _ _ h=>e.sq h
theorem Zek.lst {K:YFr} {H:Hp} {l:Addr} {ys zs:List V} (h:H l=some (.lst ys)):Zek K H (upd H l (.lst zs)):=fun a xs q=>by
 rcases q with (q | ⟨o,q⟩) | q
 ·refine .inl (.inl ?_)
  rw [Zy (ZcL q h (by intro z;cases z))];exact q
 ·refine .inl (.inr ⟨o,?_⟩)
  rw [Zy (ZcL q h (by intro z;cases z))];exact q
 ·exact .inr q
mutual
noncomputable def Wr.toD:Wr->PyData
 | .nothing=>.tuple [.str "nothing"]
 | .bead c=>.tuple [.str "bead",.str c]
 | .side b f=>.tuple [.str (Zcw b),f.toD]
 | .pair f g=>.tuple [.str "pair",f.toD,g.toD]
 | .many k ps=>.tuple [.str (Zaq k),.tuple (toDL ps)]
noncomputable def toDL:List Wr->List PyData
 | []=>[]
 | w::ws=>w.toD::toDL ws
end
theorem ok_sname (b:Bool):PyData.strOk (Zcw b)=true:=by cases b <;> decide +kernel
theorem ok_mname:∀ k,PyData.strOk (Zaq k)=true
 | 0=>by decide +kernel
 | 1=>by decide +kernel
 | 2=>by decide +kernel
 | k + 3=>by show PyData.strOk "ring"=true;decide +kernel
mutual
theorem Wr.can:∀ w:Wr,w.ok=true->w.toD.canLay0=true
 | .nothing,_=>by simp only [Wr.toD,PyData.canLay0,PyData.canLayAll0];decide +kernel
 | .bead c,h=>by simp only [Wr.toD,PyData.canLay0,PyData.canLayAll0,Ys];simp only [Wr.ok] at h;rw [h];decide +kernel
 | .side b f,h=>by
  simp only [Wr.ok] at h
  simp only [Wr.toD,PyData.canLay0,PyData.canLayAll0,Ys,ok_sname,f.can h]
 | .pair f g,h=>by
  simp only [Wr.ok,Yc] at h
  simp only [Wr.toD,PyData.canLay0,PyData.canLayAll0,Ys,f.can h.1,g.can h.2]
  decide +kernel
 | .many k ps,h=>by
  simp only [Wr.ok] at h
  simp only [Wr.toD,PyData.canLay0,PyData.canLayAll0,Ys,ok_mname,canL ps h]
theorem canL:∀ ws:List Wr,okL ws=true->PyData.canLayAll0 (toDL ws)=true
 | [],_=>by simp only [toDL,PyData.canLayAll0]
 | w :: ws,h=>by
  simp only [okL,Yc] at h
  simp only [toDL,PyData.canLayAll0,w.can h.1,canL ws h.2,Ys]
end
mutual
theorem Wr.deep:∀ w:Wr,w.toD.depth<=2 * w.dep
 | .nothing=>by simp [Wr.toD,PyData.depth,PyData.depthAll,Wr.dep]
 | .bead c=>by simp [Wr.toD,PyData.depth,PyData.depthAll,Wr.dep]
 | .side b f=>by have:=f.deep;simp only [Wr.toD,PyData.depth,PyData.depthAll,Wr.dep];lia
 | .pair f g=>by have:=f.deep;have:=g.deep;simp only [Wr.toD,PyData.depth,PyData.depthAll,Wr.dep];lia
 | .many k ps=>by have:=deepL ps;simp only [Wr.toD,PyData.depth,PyData.depthAll,Wr.dep];lia
theorem deepL:∀ ws:List Wr,PyData.depthAll (toDL ws)<=2 * depL ws
 | []=>by simp [toDL,PyData.depthAll,depL]
 | w::ws=>by have:=w.deep;have:=deepL ws;simp only [toDL,PyData.depthAll,depL];lia
end
theorem Wr.same_eqv (w:Wr) (h:w.ok=true):PyData.eqv w.toD w.toD=true:=SeqAt.eqv_refl _ (w.can h)
noncomputable def tn (ps:List Wr) (i:Nat):Int:=((ps.map Wr.tups).getD i 0:Nat)
theorem ZjM (w:Wr):inV (.str w.name) [V.str "row",V.str "bag",V.str "choice",V.str "ring"]=match w with | .many _ _=>true | _=>false:=by
 cases w with
 | nothing=>decide +kernel
 | bead c=>show inV (.str "bead") _=false;decide +kernel
 | side b f =>
  cases b
  ·show inV (.str "left") _=false;decide +kernel
  ·show inV (.str "right") _=false;decide +kernel
 | pair f g=>show inV (.str "pair") _=false;decide +kernel
 | many k ps =>
  match k with
  | 0=>show inV (.str "row") _=true;decide +kernel
  | 1=>show inV (.str "bag") _=true;decide +kernel
  | 2=>show inV (.str "choice") _=true;decide +kernel
  | k + 3=>show inV (.str "ring") _=true;decide +kernel
theorem nb_side (b:Bool):¬ (decide (Zcw b=Str.ofString "bead")=true):=by
 cases b
 ·show ¬ (decide ((Str.ofString "left")=(Str.ofString "bead"))=true);decide +kernel
 ·show ¬ (decide ((Str.ofString "right")=(Str.ofString "bead"))=true);decide +kernel
theorem Zjf:∀ k,¬ (decide (Zaq k=Str.ofString "bead")=true)
 | 0=>by show ¬ (decide ((Str.ofString "row")=(Str.ofString "bead"))=true);decide +kernel
 | 1=>by show ¬ (decide ((Str.ofString "bag")=(Str.ofString "bead"))=true);decide +kernel
 | 2=>by show ¬ (decide ((Str.ofString "choice")=(Str.ofString "bead"))=true);decide +kernel
 | k + 3=>by show ¬ (decide ((Str.ofString "ring")=(Str.ofString "bead"))=true);decide +kernel
theorem nb_pair:¬ (decide (Str.ofString "pair"=Str.ofString "bead")=true):=by decide +kernel
theorem ZhA:¬ (decide (Str.ofString "nothing"=Str.ofString "bead")=true):=by decide +kernel
theorem ZaO:∀ us:List Wr,us.length<=Zp us
 | []=>Yg _
 | u::us=>by have:=u.tups_pos;have:=ZaO us;simp only [List.length_cons,Zp];lia
noncomputable def tCallV (f:Addr) (sp:Sp) (dvs:List V) (E:XK) (tf:TE) (t:TA):TE:=fun σ H Q=>tf σ H fun y H0=>y=.ref f/\t σ H0 fun vs H1=>sp (vs++dvs) H1 Q E
section
variable {X:Cx} {CX:CXT} {k:Nat} {f:Addr} {fd:FuncData} {ps:List Str} {sp:Sp} {x:Str} {ds:List Value} {dvs:List V} {E:XK} {e:Expr} {es:List Expr} {t:TA} {p pos:Pos} {tf:TE}
theorem ZgS (F:FnOk X.prog X.w X.K X.mg X.base CX k f fd ps sp) (hr:Room k X.A) (hv:PE X (.Name x p) tf) (hk:PySem.W.keepIn X.K (.ref f)=true) (hb:Zao X.K fd ps ds) (hd:Vals dvs ds) (hx:Zf9 CX X E) (ha:PA X (e::es) t)
  (he:starEach (e::es) X.env=(false,eval e X.env)::starEach es X.env:=by rfl) (hpl:(backTo pos (starEach es X.env)).any (·.1)=false:=by rfl):PE X (.Call (.Name x p) (e::es) [] pos) (tCallV f sp dvs E tf t):=by
 intro pins s σ H Q I h
 refine Yaj (thn (hv pins s σ H _ I h) fun u s0 h_q=>?_)
 obtain ⟨y,H0,I0,r0,e0,q0⟩:=h_q
 subst e0
 cases r0
 exact YcA (h₀:=X.base) I.ok.mod.kin hk (thn (ha pos pins s0 σ H0 _ I0 q0) fun us s1 ⟨vs,H1,I1,r,q⟩=>⟨I1.kIn,run_fn F hr hb hd hx I1 r q⟩) he hpl
end
section
open PySem.AutoSeq1 (wpAny_loadPart')
theorem ZhL (l:Addr) (items:Array Value) (n:Nat) (t:Addr) (more:Array Value) (m:Nat) (dd:Option Addr) (sl:Array (Option Value)) (h1:¬ (!items.isEmpty && Builtin.List.listTooLong (items.size + more.size))=true) (h2:items.size<=sizeLine) (h3:(items++more).size<=sizeLine + 1) :
  Meets (Builtin.«list.extend» ⟨[.ref l,.ref t],[]⟩) (fun _ R s=>s.heap.get? l=some { cls:=.type "list",data:=.seq items n } /\
   s.heap.get? t=some { cls:=.type "tuple",dict:=dd,data:=.seq more m,slots:=sl }/\R (.ok (.ret .none)) { s with heap:=s.heap.update l (Obj.mapSeq fun x=>x++more) }) :=
 .of_wp fun prog w A R s hq0=>by
  obtain ⟨g1,g2,q⟩:=hq0
  obtain ⟨hp,ge,dr,tk,os⟩:=s
  have a1:=PySem.AutoSeq1.idx_int
  have a2:=PySem.AutoSeq1.sub_tuple_tuple
  have a3:=PySem.AutoSeq1.sub_list_list
  have a4:=PySem.AutoSeq1.sub_tuple_list
  have a5:=PySem.AutoSeq1.sub_list_tuple
  wp_walk using (YaS g1 rfl (hz:=h2) (_hz':=h3)),YN g1,YN g2
  exact ⟨_,rfl,q⟩
end
section
variable {X:Cx}
noncomputable def rExtT (K:YFr):V->List V->Hp->VK->Prop:=fun x vs H Q=>∃ l b xs zs,x=.ref l/\vs=[.ref b]/\H l=some (.lst xs)/\SqT K H b zs/\xs.length + zs.length<=sizeLine/\Q .non (upd H l (.lst (xs++zs)))
theorem mt_extT:MtM X "list.extend" (rExtT X.K):=by
 intro pins s σ H x vs v us Q I rx rv h
 obtain ⟨l,b,xs,zs,rfl,rfl,hH,hB,hz,q⟩:=h
 cases rx
 obtain ⟨u,rfl,ru⟩:=rv.one
 cases ru
 obtain ⟨z,its,n,r,hl,e⟩:=I.lstM hH
 obtain ⟨its2,r2,⟨⟨c,dd,dt,sl⟩,e2,k1,m,k2⟩,z2⟩:=I.tuple hB
 simp only at k1 k2
 subst k1 k2
 have hl2:=r2.length
 have hsz:its.toArray.size + its2.toArray.size<=sizeLine:=by simp only [Yj];lia
 refine YaR YcC ⟨_,e,rfl⟩ Ycq (Yck _ _) (ZhL l its.toArray n b its2.toArray m dd sl (by rw [Zcd hsz,Yy];decide) (by lia) (by rw [YcK];lia)) ⟨e,e2,?_⟩
 refine ⟨.non,_,I.lset (its':=its++its2) (t':=s.toks) hH e (by simp) (r.append r2) ?_,rfl,q⟩
 simp only [Yh]
 lia
end
noncomputable def Itv (K:YFr) (a:Addr) (n:Nat):It :=
 ⟨fun i H=>i < n/\∃ xs x,SqL K H a xs/\xs[n - 1 - i]? = some x,fun i H x H'=>H'=H/\∀ xs,SqL K H a xs->xs[n - 1 - i]? = some x,fun i _=>i=n⟩
theorem turn_rev {P:Program} {w:World} {K:YFr} {tg:Expr} (a it:Addr) (n:Nat):Turn P w K tg (Itv K a n) [it] it (fun i h=>h.IsRevIter it a ((n:Int) - 1 - (i:Int))):=by
 refine ⟨by simp,fun i h st b hb=>?_,fun i h h' st k=>st.at fun o e=>k it (by simp) o e,?_,?_,fun _ _ _ _ _ st h=>Ycm st h⟩
 ·obtain rfl:b=it:=by simpa using hb
  obtain ⟨o,e1,_,d⟩:=st
  exact ⟨o,e1,fun v z=>by rw [d] at z;cases z⟩
 ·intro X e1 e2 e3 hc i pins s σ H E I hf st ⟨hi,xs,x,hq,hx⟩
  subst e1 e2 e3
  obtain ⟨its,rv,pl,hz⟩:=I.list hq
  obtain ⟨u,hu,ru⟩:=rv.get hx
  obtain ⟨f0,f1,_,f3,f4,f5⟩:=hf it (by simp)
  have st2:s.heap.IsRevIter it a ((n - 1 - i:Nat):Int):=by
   have:((n - 1 - i:Nat):Int)=(n:Int) - 1 - (i:Int):=by lia
   rw [this];exact st
  refine wpAny_pyNext_rev_item st2 pl.isList (x:=u) (by simpa using hu) fun h' st' sb=>?_
  have J1:Inv X pins σ H { s with heap:=h' }:=I.turned (t':=s.toks) (fun b o hb z=>(sb.2 b hb).trans z) f0 f1 f3 f4 f5
  have st3:h'.IsRevIter it a ((n:Int) - 1 - ((i + 1:Nat):Int)):=by
   have:(n:Int) - 1 - ((i + 1:Nat):Int)=((n - 1 - i:Nat):Int) - 1:=by lia
   rw [this];exact st'
  obtain ⟨o,z1,z2,z3⟩:=id st'
  refine ⟨u,rfl,go_of (s:={ s with heap:=h' }) z1 z2 z3 (by decide) ⟨x,H,J1,ru,⟨rfl,fun ys hy=>?_⟩,st3,fun b hb=>(hf b hb).1⟩⟩
  rw [I.list_inj hy hq];exact hx
 ·intro X e1 e2 e3 hc i pins s σ H E I hf st hi
  subst e1 e2 e3
  have hi:i=n:=hi
  subst hi
  obtain ⟨f0,f1,_,f3,f4,f5⟩:=hf it (by simp)
  have st2:s.heap.IsRevIter it a (-1):=by
   have:(-1:Int)=(i:Int) - 1 - (i:Int):=by lia
   rw [this];exact st
  exact wpAny_pyNext_rev_end (I.ok.hd hc) st2 fun h' eb=>⟨rfl,I.turned (t':=s.toks) (fun b o hb z=>eb b o hb z) f0 f1 f3 f4 f5⟩
section
variable {X:Cx} {tg e:Expr} {te:TE} {p2 pos2:Pos}
noncomputable def jRev (K:YFr) (te:TE):TI:=fun σ H R=>te σ H fun x H1=>∃ a xs,x=.ref a/\SqL K H1 a xs/\R (Itv K a xs.length) H1
theorem pj_rev (hc:X.calm=true) (hg:Gl X "reversed") (hm:X.mg "reversed"=none) (he:PE X e te) (hs:starEach [e] X.env=[(false,eval e X.env)]:=by rfl):PI X tg (.Call (.Name "reversed" p2) [e] [] pos2) (jRev X.K te):=by
 intro pins s σ H R I h
 refine Zgz hc hg hm he hs I h fun a xs H1 s1 its I1 hx rv pl hz q=>?_
 have hlen:its.toArray.size=xs.length:=by rw [Yj];exact rv.length.symm
 have hit:(s1.heap.push (revObj a ((its.toArray.size:Int) - 1))).IsRevIter s1.heap.objs.size a ((its.toArray.size:Int) - 1):=⟨_,YI _ rfl,rfl,rfl⟩
 refine Ycm (s:={ s1 with heap:=s1.heap.push (revObj a ((its.toArray.size:Int) - 1)) }) hit ⟨_,[s1.heap.objs.size],_,_,H1,rfl,I1.kept (t':=s1.toks) fun b o z=>Yi _ z,turn_rev a s1.heap.objs.size xs.length,?_,fun b hb=>?_,q⟩
 ·show Heap.IsRevIter _ _ _ _
  rw [<- hlen,show ((its.toArray.size:Nat):Int) - 1 - ((0:Nat):Int)=(its.toArray.size:Int) - 1 from by lia]
  exact hit
 ·obtain rfl:b=s1.heap.objs.size:=by simpa using hb
  exact I1.fpOk (Yg _) I1.fresh
end
theorem ZfX {a n:Nat} (h:a<=n):sliceBounds (some (a:Int)) none none n=((a:Int),(n:Int),1):=by
 have h1:¬ ((a:Int) < 0):=by lia
 have h2:min (a:Int) (n:Int)=a:=by lia
 simp [sliceBounds,h1,h2]
theorem Zf7 (its its2:List Value) (a:Nat) (n:Nat) (h:its.length<=n):its.toArray.extract 0 a++its2.toArray++its.toArray.extract n its.toArray.size=(its.take a++its2).toArray:=by
 apply YaC.mp
 simp
 lia
section
variable {prog:Program} {w:World} {A:Around} {E:Value->Shared->Prop} {s:Shared}
theorem ZeX {l b sl:Addr} {items new:Array Value} {n n2:Nat} {vl:Value} {a:Nat} {Q:Unit->Shared->Prop} (g1:s.heap.get? l=some { cls:=.type "list",data:=.seq items n }) (g2:s.heap.get? b=some { cls:=.type "list",data:=.seq new n2 }) (hne:l≠b)
  (hs:s.heap.IsSliceOf sl vl .none .none) (pl:IsPart vl (some (a:Int))) (ha:a<=items.size) (hz:items.size + new.size<=sizeLine)
  (h:Q () { s with heap:=s.heap.update l (Obj.mapSeq fun xs=>xs.extract 0 a++new++xs.extract items.size xs.size) }):wpAny (model prog w) A (setItem (.ref l) (.ref sl) (.ref b)) Q E s:=by
 have k1:s.heap.IsList l items:=YcT g1
 have k2:s.heap.IsList b new:=YcT g2
 obtain ⟨o,k3,k4,k5⟩:=id hs
 have ts:s.TypeIs (.ref sl) "slice":=⟨o,k3,k4⟩
 have st:¬ ((rawPart none == rawInt 0)=true):=by decide
 have df:Builtin.List.listSameRef (.ref l) (.ref b)=false:=Yan.mpr hne
 have mx:(max (a:Int) (items.size:Int)).toNat=items.size:=by lia
 have z2:((fun xs:Array Value=>xs.extract 0 a++new++xs.extract items.size xs.size) items).size<=sizeLine + 1:=by
  simp only [YcK,Array.size_extract]
  lia
 unfold setItem
 try with_reducible refine YU ?_
 first | refine Yd (Yl ?_) | skip
 refine Yd (YbK k1.typeIs (by decide) (Yd (Ybj (name:=Str.ofString "__setitem__") k1.typeIs YcL (Ybq YcL k1.typeIs entry_list_setitem ?_ (args_list_setitem _ _ _)))))
 refine (show wpAny _ _ (Builtin.List.listSubscript? (.ref sl) >>= _) _ _ s from Yd ?_)
 unfold Builtin.List.listSubscript?
 refine Yd (Yb6 ts slice_no_index ?_)
 simp only [Option.isNone_none,if_true]
 refine Yl (show wpAny _ _ (typeOf (.ref sl) >>= _) _ _ s from Yd (Ybb ts ?_))
 first | rw [if_neg (by decide)] | refine YbH (by decide) ?_
 rw [listSliceParts_eq]
 refine Yd (Yd (Ybn k3 k5 (x:=.none) rfl (Yd (Ycg .none ?_))))
 rw [if_neg st]
 refine Yd (Ybn k3 k5 (x:=vl) rfl (Yd (Ycg pl (Yd (Ybn k3 k5 (x:=.none) rfl (Yd (Ycg .none (Yl ?_))))))))
 first
  | simp only [df,Yah,YaH]
  | refine YbH df ?_
 refine Yd (m:=Builtin.List.listAllItems (.ref b) "must assign iterable to extended slice") ?_
 unfold Builtin.List.listAllItems
 refine Yd (Ybb k2.typeIs ?_)
 first
  | refine PySem.W.KFB.if_so (by decide) ?_
  | rw [if_pos (by decide)]
 unfold Builtin.List.listItems
 refine Yd (Ybe g2 rfl (Yl (Yd (Yd (Ybe g1 rfl (Yl ?_))))))
 refine Yd (wpAny_of_eq ((sliceIndices_raw (some (a:Int)) none none items.size (by simp)).trans (congrArg (pure:Int × Int × Int->Sem (Int × Int × Int)) (ZfX ha))) ?_)
 refine (show wpAny _ _ (if ((1:Int) == 1)=true then _ else _) _ _ s from ?_)
 rw [if_pos (by decide)]
 refine Yd (Ycl ?_)
 first
  | simp only [Zcd hz,Yah,YaH]
  | refine YbH (Zcd hz) ?_
 first | refine Yd (Yl ?_) | skip
 refine (show wpAny _ _ (updateSeq l (fun xs=>xs.extract 0 ((a:Int)).toNat++new++xs.extract (max (a:Int) (items.size:Int)).toNat xs.size) >>= _) _ _ s from ?_)
 rw [mx,Int.toNat_natCast]
 refine Yd (YaS (hz:=YE (YbS _ _) hz) (_hz':=z2) g1 rfl (Yd (Ya4 ?_)))
 first
  | exact Yd (Yl (Yl ⟨.none,rfl,Yl h⟩))
  | exact Yl ⟨.none,rfl,Yl h⟩
end
noncomputable def gTail (to:TE) (tl:TO):TG:=fun v σ H Q=>to σ H fun x H1=>tl σ H1 fun l H2=>∃ (a b:Addr) (xs ys:List V) (i:Int),x=.ref a/\v=.ref b/\l=some i/\H2 a=some (.lst xs)/\H2 b=some (.lst ys)/\a≠b/\0<=i/\i<=xs.length/\xs.length + ys.length<=sizeLine /\
 Q σ (upd H2 a (.lst (xs.take i.toNat++ys)))
section
variable {X:Cx} {o:Expr} {lo:Option Expr} {to:TE} {tl:TO} {p2 pos:Pos}
theorem pg_tail (ho:PE X o to) (hl:PO X lo tl)
  (ha : ∀ v,assign (.Subscript o (.Slice lo none none p2) pos) X.env v=(do
   let ov <- holding [v] (eval o X.env)
   let iv <- holding [v,ov] (eval (.Slice lo none none p2) X.env)
   standAt pos
   holding [v,ov,iv] (setItem ov iv v)
   release [iv,v,ov] []):=by intro _;rfl):PG X (.Subscript o (.Slice lo none none p2) pos) (gTail to tl):=by
 intro pins s σ H v u Q I r h
 rw [ha]
 refine Yd (YU (thn (ho pins s σ H _ I h) fun ov s1 ⟨x,H1,I1,r1,q1⟩=>Yd (YU ?_)))
 refine wpAny_Slice (thn (hl pins s1 σ H1 _ I1 q1) fun vl s2 h_q=>?_)
 obtain ⟨l,H2,I2,pl,a,b,xs,ys,i,e1,e2,e3,h1,h2,hne,h0,hi,hz,q2⟩:=h_q
 subst e1 e2 e3
 cases r1
 cases r
 rw [evalPart_none]
 refine Yl ?_
 refine Yl ?_
 have I4:Inv X pins σ H2 { s2 with heap:=s2.heap.push { cls:=.type "slice",data:=.fields #[vl,.none,.none] } }:=I2.kept (t':=s2.toks) fun b ob q=>Yi _ q
 obtain ⟨i',rfl⟩:=Int.eq_ofNat_of_zero_le h0
 obtain ⟨z,its,n,rv,hl1,g1⟩:=I4.lstM h1
 obtain ⟨z2,its2,n2,rv2,hl2,g2⟩:=I4.lstM h2
 refine Yd (YaG (Yd (YU (ZeX (a:=i') g1 g2 hne (YcB ..) pl (by rw [Yj];lia) (by simp only [Yj];lia) (wpAny_release ⟨σ,_,?_,q2⟩)))))
 refine I4.lset (its':=its.take i'++its2) (t':=s2.toks) h1 g1 ?_ (Vals.append (rv.take _) rv2) ?_
 ·exact Zf7 its its2 i' _ (by simp)
 ·simp only [Yh,YJ,Int.toNat_natCast]
  lia
end
open PySem PySem.Spec PyProof.Rows PySem.MeetsSeq
open PySem.AutoSeq1 (wpAny_loadPart')
theorem ZiX (t : Addr) (items:Array Value) (n:Nat) (dd:Option Addr) (sl:Array (Option Value)) (x:Value) (e:Value->Bool) (he:∀ y,y∈items->EqGives y x (e y)) (j:Nat) (hj:j < items.size) (hit:e items[j]=true) (hno:∀ m (hm:m < items.size),m < j->e items[m]=false) :
  Meets (Builtin.«tuple.index» ⟨[.ref t,x],[]⟩) (fun _ R s=>s.heap.get? t=some { cls:=.type "tuple",dict:=dd,data:=.seq items n,slots:=sl }/\R (.ok (.ret (.int j s.toks))) { s with toks:=s.toks + 1 }) :=
 .of_wp fun prog w A R s hq0=>by
  obtain ⟨g1,q⟩:=hq0
  obtain ⟨hp,ge,dr,tk,os⟩:=s
  wp_walk using YN g1
  refine (show wpAny (model prog w) A.in1 (forIn [:min items.size items.size] ((none,()):Option PySem.Fin × Unit) fun (i:Nat) r=>(match items[i]? with
      | some y=>do
       let b <- eqBool y x
       if b = true then do
         let v <- retInt (i:Int)
         pure (ForInStep.done (some v,()))
        else pure (ForInStep.yield (none,()))
      | _=>pure (ForInStep.yield (none,())))) _ _ _ from ?_)
  rw [Std.Legacy.Range.forIn_eq_forIn_range']
  refine YcU _ (fun rest r s'=>r.1=none/\s'=⟨hp,ge,dr,tk,os⟩/\∃ i,i<=j/\rest=List.range' i (items.size - i)) _ ?_ ?_ _ _ ⟨rfl,rfl,0,YX _,by simp [Std.Legacy.Range.size]⟩
  ·rintro m rest r s' ⟨_,rfl,i,hi,hm⟩
   obtain ⟨k,hk⟩:∃ k,items.size - i=k + 1:=⟨items.size - i - 1,by lia⟩
   rw [hk,List.range'_succ] at hm
   obtain ⟨rfl,rfl⟩:=List.cons.inj hm
   have hlt:m < items.size:=by lia
   rw [Ya5 hlt]
   refine Yd (he _ (Array.getElem_mem hlt) prog w _ _ _ _ ?_)
   by_cases hmj:m=j
   ·subst hmj
    rw [hit,if_pos rfl]
    unfold retInt
    exact Yd (Yd (wpAny_mkInt (Yl (Yl (Yl ⟨_,rfl,q⟩)))))
   ·rw [hno m hlt (by lia),if_neg (by decide)]
    exact Yl ⟨rfl,rfl,m + 1,by lia,by rw [show items.size - (m + 1)=k from by lia]⟩
  ·rintro r s' ⟨_,rfl,i,hi,hm⟩
   have:(List.range' i (items.size - i)).length=0:=by rw [<- hm];rfl
   rw [List.length_range'] at this
   lia
section
variable {X:Cx}
noncomputable def strB (z:Str):Value->Bool
 | .str s _=>s.cps.toList == z.cps.toList
 | _=>false
theorem Zc0 {ss:List Str} {its:List Value} (r:Vals (ss.map V.str) its) {i:Nat} {u:Value} (hu:its[i]? = some u):∃ s t,ss[i]? = some s/\u=.str s t:=by
 have hl:=r.length
 rw [Yb] at hl
 have hi:i < its.length:=(Yp.mp hu).1
 obtain ⟨v,hv,rv⟩:=r.get (i:=i) (x:=V.str (ss[i]'(by lia))) (by rw [Yr,Ye (by lia)];rfl)
 rw [hu] at hv
 cases hv
 obtain ⟨t,rfl⟩:=rv
 exact ⟨_,t,Ye (by lia),rfl⟩
theorem ZdO {ss:List Str} {its:List Value} (r:Vals (ss.map V.str) its) {z:Str} {t:Tok} {j:Nat} (hj:ss[j]? = some z) (hno:∀ m,m < j->ss[m]?≠some z) :
  (∀ y,y∈its.toArray->EqGives y (.str z t) (strB z y))/\∃ h:j < its.toArray.size,strB z (its.toArray[j])=true/\∀ m (hm:m < its.toArray.size),m < j->strB z (its.toArray[m])=false:=by
 have hl:=r.length
 rw [Yb] at hl
 refine ⟨fun y hy=>?_,?_⟩
 ·obtain ⟨i,hi⟩:=YaE.mp (show y∈its by simpa using hy)
  obtain ⟨s,u,_,rfl⟩:=Zc0 r hi
  exact SeqRoads2.EqGives.str s z u t
 ·have h0:j < ss.length:=(Yp.mp hj).1
  refine ⟨by rw [Yj];lia,?_,fun m hm h=>?_⟩
  ·obtain ⟨s,u,h1,h2⟩:=Zc0 r (i:=j) (u:=its[j]'(by lia)) (Ye (by lia))
   rw [hj] at h1
   cases h1
   show strB z (its[j]'(by lia))=true
   rw [h2]
   show (z.cps.toList == z.cps.toList)=true
   simp
  ·rw [Yj] at hm
   obtain ⟨s,u,h1,h2⟩:=Zc0 r (i:=m) (u:=its[m]) (Ye hm)
   show strB z its[m]=false
   rw [h2]
   show (s.cps.toList == z.cps.toList)=false
   refine Yan.mpr fun e=>hno m h ?_
   have:s=z:=by
    cases s;cases z
    simp only at e
    rw [YaC.mp e]
   rw [h1,this]
noncomputable def rIdxS (T:V->List Str->Hp->Prop):V->List V->Hp->VK->Prop:=fun x vs H Q=>∃ (ss:List Str) (z:Str) (j:Nat),T x ss H/\vs=[.str z]/\ss[j]? = some z/\(∀ m,m < j->ss[m]?≠some z)/\Q (.int j) H
theorem mt_idxL:MtR X "list.index" (rIdxS fun x ss H=>∃ a,x=.ref a/\H a=some (.lst (ss.map V.str))):=by
 intro pins s σ H x vs v us Q I rx rv h
 obtain ⟨ss,z,j,⟨a,rfl,hH⟩,rfl,hj,hno,q⟩:=h
 cases rx
 obtain ⟨u,rfl,ru⟩:=rv.one
 obtain ⟨t,rfl⟩:=ru
 obtain ⟨zz,its,n,r,hl,e⟩:=I.lstM hH
 obtain ⟨h1,h2,h3,h4⟩:=ZdO (t:=t) r hj hno
 have hj2:j < sizeLine:=by rw [Yj,<- hl] at h2;lia
 have big:(sizeLine:Int) < 2 ^ 63 - 1:=by decide
 exact YaR F.slot_list_index ⟨_,e,rfl⟩ F.entry_list_index (F.args_list_index_2 _ _) (MeetsSeq.list_index a its.toArray n (.str z t) (strB z) h1 j h2 (by lia) h3 h4) ⟨e,.int j,H,I.tok _,⟨_,rfl⟩,q⟩
theorem Zjz:MtR X "tuple.index" (rIdxS fun x ss H=>∃ a,x=.ref a/\SqT X.K H a (ss.map V.str)):=by
 intro pins s σ H x vs v us Q I rx rv h
 obtain ⟨ss,z,j,⟨a,rfl,hH⟩,rfl,hj,hno,q⟩:=h
 cases rx
 obtain ⟨u,rfl,ru⟩:=rv.one
 obtain ⟨t,rfl⟩:=ru
 obtain ⟨its,r,⟨⟨c,dd,dt,sl⟩,e,k1,n,k2⟩,hz⟩:=I.tuple hH
 simp only at k1 k2
 subst k1 k2
 obtain ⟨h1,h2,h3,h4⟩:=ZdO (t:=t) r hj hno
 exact YaR F.slot_tuple_index ⟨_,e,rfl⟩ F.entry_tuple_index (F.args_tuple_index_2 _ _) (ZiX a its.toArray n dd sl (.str z t) (strB z) h1 j h2 h3 h4) ⟨e,.int j,H,I.tok _,⟨_,rfl⟩,q⟩
end
mutual
noncomputable def Wr.post:Wr->List Wr
 | .nothing=>[.nothing]
 | .bead c=>[.bead c]
 | .side b f=>f.post++[.side b f]
 | .pair f g=>f.post++(g.post++[.pair f g])
 | .many k ps=>Za8 ps++[.many k ps]
noncomputable def Za8:List Wr->List Wr
 | []=>[]
 | w::ws=>w.post++Za8 ws
end
theorem Wr.post_eq (w:Wr):w.post=Za8 w.parts++[w]:=by
 cases w <;> simp [Wr.post,Wr.parts,Za8]
theorem Zc9:∀ (ws us:List Wr),Za8 (ws++us)=Za8 ws++Za8 us
 | [],us=>rfl
 | w::ws,us=>by simp only [List.cons_append,Za8,Zc9 ws us,Yai]
mutual
theorem Wr.post_len:∀ w:Wr,w.post.length=w.tups
 | .nothing=>rfl
 | .bead _=>rfl
 | .side b f=>by simp [Wr.post,Wr.tups,f.post_len];lia
 | .pair f g=>by simp [Wr.post,Wr.tups,f.post_len,g.post_len];lia
 | .many k ps=>by simp [Wr.post,Wr.tups,Zc3 ps];lia
theorem Zc3:∀ ws:List Wr,(Za8 ws).length=Zp ws
 | []=>rfl
 | w::ws=>by simp [Za8,Zp,w.post_len,Zc3 ws]
end
noncomputable def Run:List Wr->List Wr->List Wr->Prop
 | S,[],F=>S=F
 | S,x::l,F=>∃ S0,S=S0++x.parts/\Run (S0++[x]) l F
mutual
theorem Wr.run:∀ (w:Wr) (S l F:List Wr),Run (S++[w]) l F->Run S (w.post++l) F
 | .nothing,S,l,F,h=>⟨S,by simp [Wr.parts],h⟩
 | .bead c,S,l,F,h=>⟨S,by simp [Wr.parts],h⟩
 | .side b f,S,l,F,h=>by
  simp only [Wr.post,Yai]
  exact f.run S _ F ⟨S,by simp [Wr.parts],h⟩
 | .pair f g,S,l,F,h=>by
  simp only [Wr.post,Yai]
  refine f.run S _ F (g.run (S++[f]) _ F ⟨S,by simp [Wr.parts],h⟩)
 | .many k ps,S,l,F,h=>by
  simp only [Wr.post,Yai]
  exact runL ps S _ F ⟨S,by simp [Wr.parts],h⟩
theorem runL:∀ (ws S l F:List Wr),Run (S++ws) l F->Run S (Za8 ws++l) F
 | [],S,l,F,h=>by simpa [Za8] using h
 | w :: ws,S,l,F,h=>by
  simp only [Za8,Yai]
  refine w.run S _ F (runL ws (S++[w]) l F ?_)
  simpa using h
end
theorem Wr.run_all (w:Wr):Run [] w.post [w]:=by
 have:=w.run [] [] [w] rfl
 simpa using this
mutual
theorem Wr.post_mem:∀ (w y:Wr),y∈w.post->w.ok=true->y.ok=true/\y.tups<=w.tups
 | .nothing,y,h,o=>by simp [Wr.post] at h;subst h;exact ⟨o,Yg _⟩
 | .bead c,y,h,o=>by simp [Wr.post] at h;subst h;exact ⟨o,Yg _⟩
 | .side b f,y,h,o=>by
  simp only [Wr.post,YK,Yv] at h
  rcases h with h | rfl
  ·have:=f.post_mem y h (by simpa [Wr.ok] using o)
   exact ⟨this.1,by simp only [Wr.tups];lia⟩
  ·exact ⟨o,Yg _⟩
 | .pair f g,y,h,o=>by
  have o2:f.ok=true/\g.ok=true:=by simpa [Wr.ok] using o
  simp only [Wr.post,YK,Yv] at h
  rcases h with h | h | rfl
  ·have:=f.post_mem y h o2.1
   exact ⟨this.1,by simp only [Wr.tups];lia⟩
  ·have:=g.post_mem y h o2.2
   exact ⟨this.1,by simp only [Wr.tups];lia⟩
  ·exact ⟨o,Yg _⟩
 | .many k ps,y,h,o=>by
  simp only [Wr.post,YK,Yv] at h
  rcases h with h | rfl
  ·have:=ZeC ps y h (by simpa [Wr.ok] using o)
   exact ⟨this.1,by simp only [Wr.tups];lia⟩
  ·exact ⟨o,Yg _⟩
theorem ZeC:∀ (ws:List Wr) (y:Wr),y∈Za8 ws->okL ws=true->y.ok=true/\y.tups<=Zp ws
 | [],y,h,o=>by simp [Za8] at h
 | w :: ws,y,h,o=>by
  have o2:w.ok=true/\okL ws=true:=by simpa [okL] using o
  simp only [Za8,YK] at h
  rcases h with h | h
  ·have:=w.post_mem y h o2.1
   exact ⟨this.1,by simp only [Zp];lia⟩
  ·have:=ZeC ws y h o2.2
   exact ⟨this.1,by simp only [Zp];lia⟩
end
theorem Wr.nb (w:Wr) (h:∀ c,w≠.bead c):¬ (decide (w.name=Str.ofString "bead")=true):=by
 cases w with
 | bead c=>exact absurd rfl (h c)
 | nothing=>exact ZhA
 | side b f=>exact nb_side b
 | pair f g=>exact nb_pair
 | many k ps=>exact Zjf k
mutual
noncomputable def Wr.size:Wr->Nat
 | .nothing=>0
 | .bead _=>1
 | .side _ f=>f.size
 | .pair f g=>f.size + (g.size + 0)
 | .many _ ps=>sizeL ps
noncomputable def sizeL:List Wr->Nat
 | []=>0
 | w::ws=>w.size + sizeL ws
end
theorem Wr.size_parts (w:Wr) (h:∀ c,w≠.bead c):w.size=sizeL w.parts:=by
 cases w with
 | bead c=>exact absurd rfl (h c)
 | nothing=>rfl
 | side b f=>simp [Wr.size,Wr.parts,sizeL]
 | pair f g=>simp [Wr.size,Wr.parts,sizeL]
 | many k ps=>rfl
theorem bead_or (w:Wr):(∃ c,w=.bead c)\/∀ c,w≠.bead c:=by
 cases w with
 | bead c=>exact .inl ⟨c,rfl⟩
 | _=>exact .inr fun c=>by simp
noncomputable def Wr.kidx:Wr->Nat
 | .nothing=>0
 | .bead _=>1
 | .side b _=>if b then 3 else 2
 | .pair _ _=>4
 | .many k _=>match k with | 0=>5 | 1=>6 | 2=>7 | _=>8
noncomputable def Zd7:List Str:=["nothing","bead","left","right","pair","row","bag","choice","ring"]
theorem Wr.kidx_at (w:Wr):Zd7[w.kidx]? = some w.name/\∀ m,m < w.kidx->Zd7[m]?≠some w.name:=by
 have fin:∀ (i:Nat) (s:Str),Zd7[i]? = some s->(∀ m,m < 9->m < i->Zd7[m]?≠some s)->i < 9->Zd7[i]? = some s/\∀ m,m < i->Zd7[m]?≠some s:=fun i s h1 h2 h3=>⟨h1,fun m hm=>h2 m (by lia) hm⟩
 cases w with
 | nothing=>exact fin 0 "nothing" (by decide +kernel) (by decide +kernel) (by decide)
 | bead c=>exact fin 1 "bead" (by decide +kernel) (by decide +kernel) (by decide)
 | side b f =>
  cases b
  ·exact fin 2 "left" (by decide +kernel) (by decide +kernel) (by decide)
  ·exact fin 3 "right" (by decide +kernel) (by decide +kernel) (by decide)
 | pair f g=>exact fin 4 "pair" (by decide +kernel) (by decide +kernel) (by decide)
 | many k ps =>
  match k with
  | 0=>exact fin 5 "row" (by decide +kernel) (by decide +kernel) (by decide)
  | 1=>exact fin 6 "bag" (by decide +kernel) (by decide +kernel) (by decide)
  | 2=>exact fin 7 "choice" (by decide +kernel) (by decide +kernel) (by decide)
  | k + 3=>exact fin 8 "ring" (by decide +kernel) (by decide +kernel) (by decide)
mutual
noncomputable def Wr.keyD:Wr->PyData
 | .nothing=>.tuple [.int 0,.int 0]
 | .bead c=>.tuple [.int 1,.int 1,.str c]
 | .side b f=>.tuple [.int f.size,.int (Wr.side b f).kidx,f.keyD]
 | .pair f g=>.tuple [.int (Wr.pair f g).size,.int 4,f.keyD,g.keyD]
 | .many k ps=>.tuple (.int (sizeL ps)::.int (Wr.many k ps).kidx::ZaP ps)
noncomputable def ZaP:List Wr->List PyData
 | []=>[]
 | w::ws=>w.keyD::ZaP ws
end
theorem Zbl:∀ ws:List Wr,ZaP ws=ws.map Wr.keyD
 | []=>rfl
 | w::ws=>by rw [ZaP,Yu,Zbl ws]
theorem Wr.keyD_parts (w:Wr) (h:∀ c,w≠.bead c):w.keyD=.tuple (.int w.size::.int w.kidx::w.parts.map Wr.keyD):=by
 cases w with
 | bead c=>exact absurd rfl (h c)
 | nothing=>rfl
 | side b f=>rfl
 | pair f g=>rfl
 | many k ps=>simp only [Wr.keyD,Wr.parts,Zbl];rfl
theorem ZgB {K:YFr} {a:Addr} {oc:Value} {od:Option Addr} {is:Array Value} {sn:Nat} {sl:Array (Option Value)} (o:K.lookup a=some ⟨oc,od,.seq is sn,sl⟩) (t:(oc == .type "tuple")=true/\(od == none)=true):∀ H,tyV K "tuple" (.ref a) H :=
 fun H=>.inr (.inl ⟨rfl,_,o,Yb4 t.1,Yb4 t.2⟩)
theorem Wr.keyD_head (w:Wr):∃ rest,w.keyD=.tuple (.int w.size::rest):=by
 rcases bead_or w with ⟨c,rfl⟩ | h
 ·exact ⟨_,rfl⟩
 ·exact ⟨_,w.keyD_parts h⟩
inductive U where
 | non | bl (b:Bool) | int (i:Int) | str (x:Str) | ty (n:String) | tup (xs:List U) | rol (xs:List U) | ref (a:Addr)
noncomputable def SqR (K:YFr) (H:Hp) (a:Addr) (xs:List V):Prop:=(∃ o,H a=some (.frz o (.lst xs))) \/
  ∃ (o:Obj) (its:Array Value) (n:Nat),K.lookup a=some o/\o.cls=.type "list"/\o.dict=none/\o.data=.seq its n/\its.size<=sizeLine/\Vals xs its.toList
theorem SqR.sq {K:YFr} {H:Hp} {a:Addr} {xs:List V} (h:SqR K H a xs):SqL K H a xs:=by
 rcases h with h | h
 ·exact .inl (.inr h)
 ·exact .inr h
structure Kp (K:YFr) (H H':Hp):Prop where
 t : Zek K H H'
 r : ∀ a xs,SqR K H a xs->SqR K H' a xs
 f : ∀ a o u,H a=some (.frz o u)->H' a=some (.frz o u)
theorem Kp.refl {K:YFr} (H:Hp):Kp K H H:=⟨fun _ _ h=>h,fun _ _ h=>h,fun _ _ _ h=>h⟩
theorem Kp.trans {K:YFr} {H H1 H2:Hp} (h:Kp K H H1) (k:Kp K H1 H2):Kp K H H2:=⟨h.t.trans k.t,fun a xs q=>k.r a xs (h.r a xs q),fun a o u q=>k.f a o u (h.f a o u q)⟩
theorem Same.kp {K:YFr} {H H':Hp} (e:Same H H'):Kp K H H':=⟨e.tups,fun a xs q=>by
 rcases q with ⟨o,q⟩ | q
 ·exact .inl ⟨o,e _ _ q⟩
 ·exact .inr q,fun a o u q=>e _ _ q⟩
theorem Kp.lst {K:YFr} {H:Hp} {l:Addr} {ys zs:List V} (h:H l=some (.lst ys)):Kp K H (upd H l (.lst zs)):=⟨Zek.lst h,fun a xs q=>by
 rcases q with ⟨o,q⟩ | q
 ·exact .inl ⟨o,by rw [Zy (ZcL q h (by intro z;cases z))];exact q⟩
 ·exact .inr q,fun a o u q=>by rw [Zy (ZcL q h (by intro z;cases z))];exact q⟩
mutual
inductive RU (K:YFr) (H:Hp):U->V->Prop
 | non:RU K H .non .non
 | bl (b:Bool):RU K H (.bl b) (.bl b)
 | int (i:Int):RU K H (.int i) (.int i)
 | str (x:Str):RU K H (.str x) (.str x)
 | ty (n:String):RU K H (.ty n) (.ty n)
 | ref (a:Addr):RU K H (.ref a) (.ref a)
 | tup {a:Addr} {vs:List V} {us:List U}:SqT K H a vs->RUs K H us vs->RU K H (.tup us) (.ref a)
 | rol {a:Addr} {vs:List V} {us:List U}:SqR K H a vs->RUs K H us vs->RU K H (.rol us) (.ref a)
inductive RUs (K:YFr) (H:Hp):List U->List V->Prop
 | nil:RUs K H [] []
 | cons {u:U} {v:V} {us:List U} {vs:List V}:RU K H u v->RUs K H us vs->RUs K H (u::us) (v::vs)
end
section
variable {K:YFr} {H H':Hp}
mutual
theorem RU.same (e:Kp K H H'):∀ {u:U} {v:V},RU K H u v->RU K H' u v
 | _,_,.non=>.non
 | _,_,.bl b=>.bl b
 | _,_,.int i=>.int i
 | _,_,.str x=>.str x
 | _,_,.ty n=>.ty n
 | _,_,.ref a=>.ref a
 | _,_,.tup h r=>.tup (e.t _ _ h) (RUs.same e r)
 | _,_,.rol h r=>.rol (e.r _ _ h) (RUs.same e r)
theorem RUs.same (e:Kp K H H'):∀ {us:List U} {vs:List V},RUs K H us vs->RUs K H' us vs
 | _,_,.nil=>.nil
 | _,_,.cons h r=>.cons (RU.same e h) (RUs.same e r)
end
theorem RUs.length:∀ {us:List U} {vs:List V},RUs K H us vs->us.length=vs.length
 | _,_,.nil=>rfl
 | _,_,.cons _ r=>by rw [List.length_cons,List.length_cons,r.length]
theorem RUs.app:∀ {us ws:List U} {vs xs:List V},RUs K H us vs->RUs K H ws xs->RUs K H (us++ws) (vs++xs)
 | _,_,_,_,.nil,s=>s
 | _,_,_,_,.cons h r,s=>.cons h (RUs.app r s)
theorem RUs.one {u:U} {v:V} (h:RU K H u v):RUs K H [u] [v]:=.cons h .nil
theorem RUs.get:∀ {us:List U} {vs:List V} {i:Nat} {v:V},RUs K H us vs->vs[i]? = some v->∃ u,us[i]? = some u/\RU K H u v
 | _,_,_,_,.nil,e=>by simp at e
 | _,_,0,_,.cons h _,e=>by simp at e;subst e;exact ⟨_,rfl,h⟩
 | _,_,i + 1,_,.cons _ r,e=>by simp at e;simpa using RUs.get r e
theorem RUs.get':∀ {us:List U} {vs:List V} {i:Nat} {u:U},RUs K H us vs->us[i]? = some u->∃ v,vs[i]? = some v/\RU K H u v
 | _,_,_,_,.nil,e=>by simp at e
 | _,_,0,_,.cons h _,e=>by simp at e;subst e;exact ⟨_,rfl,h⟩
 | _,_,i + 1,_,.cons _ r,e=>by simp at e;simpa using RUs.get' r e
theorem RUs.take:∀ {us:List U} {vs:List V} (n:Nat),RUs K H us vs->RUs K H (us.take n) (vs.take n)
 | _,_,0,_=>.nil
 | _,_,_ + 1,.nil=>.nil
 | _,_,n + 1,.cons r t=>.cons r (RUs.take n t)
theorem RUs.drop:∀ {us:List U} {vs:List V} (n:Nat),RUs K H us vs->RUs K H (us.drop n) (vs.drop n)
 | _,_,0,r=>r
 | _,_,_ + 1,.nil=>.nil
 | _,_,n + 1,.cons _ t=>RUs.drop n t
theorem RUs.rev {us:List U} {vs:List V} (h:RUs K H us vs):RUs K H us.reverse vs.reverse:=by
 induction us generalizing vs with
 | nil=>cases h;exact .nil
 | cons w ws ih =>
  cases h with
  | cons h r=>rw [Yam,Yam];exact (ih r).app (.one h)
theorem RUs.dropLast {us:List U} {vs:List V} (h:RUs K H us vs):RUs K H us.dropLast vs.dropLast:=by
 rw [Ybu,Ybu,h.length];exact h.take _
theorem RUs.set {u:U} {v:V} (h:RU K H u v):∀ {us:List U} {vs:List V} (i:Nat),RUs K H us vs->RUs K H (us.set i u) (vs.set i v)
 | _,_,_,.nil=>.nil
 | _,_,0,.cons _ t=>.cons h t
 | _,_,i + 1,.cons q t=>.cons q (RUs.set h i t)
theorem RUs.ints:∀ {ns:List Int} {vs:List V},RUs K H (ns.map U.int) vs->vs=ns.map V.int
 | [],_,.nil=>rfl
 | n::ns,_,.cons h r=>by cases h;rw [Yu,RUs.ints r]
theorem RUs.strs:∀ {ns:List Str} {vs:List V},RUs K H (ns.map U.str) vs->vs=ns.map V.str
 | [],_,.nil=>rfl
 | n::ns,_,.cons h r=>by cases h;rw [Yu,RUs.strs r]
theorem RUs.of_strs:∀ {ns:List Str},RUs K H (ns.map U.str) (ns.map V.str)
 | []=>.nil
 | n::ns=>.cons (.str n) RUs.of_strs
theorem RUs.of_ints:∀ {ns:List Int},RUs K H (ns.map U.int) (ns.map V.int)
 | []=>.nil
 | n::ns=>.cons (.int n) RUs.of_ints
end
inductive AO where
 | lst (us:List U) | ins (C dx:Addr) (fs:List (Str × U)) | oth (φ:YFr->Hp->Addr->Prop)
noncomputable abbrev AHp:=Addr->Option AO
noncomputable def updA (A:AHp) (a:Addr) (o:AO):AHp:=fun b=>if b=a then some o else A b
theorem Zd {A:AHp} {a:Addr} {o:AO}:updA A a o a=some o:=by unfold updA;rw [if_pos rfl]
theorem Zm {A:AHp} {a b:Addr} {o:AO} (h:b≠a):updA A a o b=A b:=by unfold updA;rw [if_neg h]
theorem ZaJ {A:AHp} {a:Addr} {o u:AO}:updA (updA A a o) a u=updA A a u:=by funext b;unfold updA;split <;> rfl
noncomputable def RFs (K:YFr) (H:Hp) (fs:List (Str × U)) (gs:List (Str × V)):Prop:=fs.map (·.1)=gs.map (·.1)/\RUs K H (fs.map (·.2)) (gs.map (·.2))
noncomputable def RO (K:YFr) (H:Hp) (a:Addr):AO->Prop
 | .lst us=>∃ vs,H a=some (.lst vs)/\RUs K H us vs
 | .ins C dx fs=>∃ gs,H a=some (.ins C dx gs)/\RFs K H fs gs
 | .oth φ=>(∃ o,H a=some o)/\φ K H a/\∀ H1 H2,φ K H1 a->Kp K H1 H2->H2 a=H1 a->φ K H2 a
noncomputable def HR (K:YFr) (H:Hp) (A:AHp):Prop:=∀ a o,A a=some o->RO K H a o
section
variable {K:YFr} {H H':Hp} {A:AHp} {a:Addr}
theorem RO.keep {b:Addr} {o:AO} (t:Kp K H H') (e:H' b=H b) (h:RO K H b o):RO K H' b o:=by
 cases o with
 | lst us=>obtain ⟨vs,h1,h2⟩:=h;exact ⟨vs,by rw [e];exact h1,h2.same t⟩
 | ins C dx fs=>obtain ⟨gs,h1,h2,h3⟩:=h;exact ⟨gs,by rw [e];exact h1,h2,h3.same t⟩
 | oth φ=>obtain ⟨h0,h1,h2⟩:=h;exact ⟨by rw [e];exact h0,h2 _ _ h1 t e,h2⟩
theorem HR.grow (t:Same H H') (h:HR K H A):HR K H' A:=fun a o e=>by
 have q:=h a o e
 cases o with
 | lst us=>obtain ⟨vs,h1,h2⟩:=q;exact ⟨vs,t _ _ h1,h2.same t.kp⟩
 | ins C dx fs=>obtain ⟨gs,h1,h2,h3⟩:=q;exact ⟨gs,t _ _ h1,h2,h3.same t.kp⟩
 | oth φ=>obtain ⟨⟨o,h0⟩,h1,h2⟩:=q;exact ⟨⟨o,t _ _ h0⟩,h2 _ _ h1 t.kp (by rw [h0];exact t _ _ h0),h2⟩
theorem HR.none (h:HR K H A) (e:H a=none):A a=none:=by
 cases q:A a with
 | none=>rfl
 | some o =>
  have:=h a o q
  cases o with
  | lst us=>obtain ⟨vs,h1,_⟩:=this;rw [e] at h1;cases h1
  | ins C dx fs=>obtain ⟨vs,h1,_⟩:=this;rw [e] at h1;cases h1
  | oth φ=>obtain ⟨⟨_,h1⟩,_⟩:=this;rw [e] at h1;cases h1
theorem HR.newL {us:List U} {vs:List V} (h:HR K H A) (e:H a=Option.none) (r:RUs K H us vs):HR K (upd H a (.lst vs)) (updA A a (.lst us)):=fun b o q=>by
 have s:=Same.upd_new (o:=.lst vs) e
 by_cases hb:b=a
 ·subst hb
  rw [Zd] at q
  cases q
  exact ⟨vs,Zae,r.same s.kp⟩
 ·rw [Zm hb] at q
  exact (h b o q).keep s.kp (Zy hb)
theorem HR.setL {us:List U} {vs xs:List V} (h:HR K H A) (e:H a=some (.lst xs)) (r:RUs K H us vs):HR K (upd H a (.lst vs)) (updA A a (.lst us)):=fun b o q=>by
 have s:Kp K H (upd H a (.lst vs)):=Kp.lst e
 by_cases hb:b=a
 ·subst hb
  rw [Zd] at q
  cases q
  exact ⟨vs,Zae,r.same s⟩
 ·rw [Zm hb] at q
  exact (h b o q).keep s (Zy hb)
theorem HR.list {us:List U} (h:HR K H A) (e:A a=some (.lst us)):∃ vs,H a=some (.lst vs)/\RUs K H us vs:=h a _ e
end
noncomputable abbrev ASt:=List (Option U)
inductive RSt (K:YFr) (H:Hp):ASt->St->Prop
 | nil:RSt K H [] []
 | skip {x:Option V} {ρ:ASt} {σ:St}:RSt K H ρ σ->RSt K H (none::ρ) (x::σ)
 | cons {u:U} {v:V} {ρ:ASt} {σ:St}:RU K H u v->RSt K H ρ σ->RSt K H (some u::ρ) (some v::σ)
section
variable {K:YFr} {H H':Hp}
theorem RSt.same (e:Kp K H H'):∀ {ρ:ASt} {σ:St},RSt K H ρ σ->RSt K H' ρ σ
 | _,_,.nil=>.nil
 | _,_,.skip r=>.skip (RSt.same e r)
 | _,_,.cons h r=>.cons (h.same e) (RSt.same e r)
noncomputable def aGetN:Nat->ASt->(U->Prop)->Prop
 | 0, ρ,k=>match ρ with
  | some u::_=>k u
  | _=>False
 | i + 1,ρ,k=>match ρ with
  | _::ρ=>aGetN i ρ k
  | []=>False
noncomputable def aGet (ρ:ASt) (i:Nat) (k:U->Prop):Prop:=aGetN i ρ k
theorem RSt.get:∀ {ρ:ASt} {σ:St} {i:Nat} {k:U->Prop},RSt K H ρ σ->aGet ρ i k->∃ u v,σ[i]? = some (some v)/\RU K H u v/\k u
 | _,_,0,_,.nil,h=>h.elim
 | _,_,_ + 1,_,.nil,h=>h.elim
 | _,_,0,_,.skip _,h=>h.elim
 | _,_,i + 1,_,.skip r,h=>by simpa using RSt.get r h
 | _,_,0,_,.cons q _,h=>⟨_,_,rfl,q,h⟩
 | _,_,i + 1,_,.cons _ r,h=>by simpa using RSt.get r h
theorem RSt.set {u:U} {v:V} (q:RU K H u v):∀ {ρ:ASt} {σ:St} (i:Nat),RSt K H ρ σ->RSt K H (ρ.set i (some u)) (σ.set i (some v))
 | _,_,_,.nil=>.nil
 | _,_,0,.skip r=>.cons q r
 | _,_,i + 1,.skip r=>.skip (RSt.set q i r)
 | _,_,0,.cons _ r=>.cons q r
 | _,_,i + 1,.cons h r=>.cons h (RSt.set q i r)
end
noncomputable abbrev AVK:=U->AHp->Prop
noncomputable abbrev AE:=ASt->AHp->AVK->Prop
noncomputable abbrev AT:=ASt->AHp->(Bool->AHp->Prop)->Prop
noncomputable abbrev AA:=ASt->AHp->(List U->AHp->Prop)->Prop
noncomputable abbrev AP1:=ASt->AHp->(Option Int->AHp->Prop)->Prop
structure Zdi where
 nx:ASt->AHp->Prop
 rt:AVK
 bk:ASt->AHp->Prop:=fun _ _=>False
 ct:ASt->AHp->Prop:=fun _ _=>False
noncomputable abbrev AS:=Zdi->ASt->AHp->Prop
noncomputable abbrev Aft (K:YFr) (H:Hp) (Q':AVK) (Q:VK):Prop:=∀ u A' v H',Kp K H H'->HR K H' A'->RU K H' u v->Q' u A'->Q v H'
noncomputable def AbE (K:YFr) (te:TE) (ae:AE):Prop:=∀ ρ A σ H Q' Q,RSt K H ρ σ->HR K H A->ae ρ A Q'->Aft K H Q' Q->te σ H Q
noncomputable def AbT (K:YFr) (te:TT) (ae:AT):Prop:=∀ ρ A σ H (Q':Bool->AHp->Prop) (Q:Bool->Hp->Prop),RSt K H ρ σ->HR K H A->ae ρ A Q'->(∀ b A' H',Kp K H H'->HR K H' A'->Q' b A'->Q b H')->te σ H Q
noncomputable def AbA (K:YFr) (te:TA) (ae:AA):Prop:=∀ ρ A σ H (Q':List U->AHp->Prop) (Q:List V->Hp->Prop),RSt K H ρ σ->HR K H A->ae ρ A Q'->(∀ us A' vs H',Kp K H H'->HR K H' A'->RUs K H' us vs->Q' us A'->Q vs H')->te σ H Q
noncomputable def AbP (K:YFr) (te:TO) (ae:AP1):Prop:=∀ ρ A σ H (Q':Option Int->AHp->Prop) (Q:Option Int->Hp->Prop),RSt K H ρ σ->HR K H A->ae ρ A Q'->(∀ b A' H',Kp K H H'->HR K H' A'->Q' b A'->Q b H')->te σ H Q
structure AftS (K:YFr) (H:Hp) (D':Zdi) (D:Ends):Prop where
 nx:∀ ρ A σ H',Kp K H H'->HR K H' A->RSt K H' ρ σ->D'.nx ρ A->D.nx σ H'
 rt:Aft K H D'.rt D.rt
 bk:∀ ρ A σ H',Kp K H H'->HR K H' A->RSt K H' ρ σ->D'.bk ρ A->D.bk σ H'
 ct:∀ ρ A σ H',Kp K H H'->HR K H' A->RSt K H' ρ σ->D'.ct ρ A->D.ct σ H'
theorem AftS.same {K:YFr} {H H1:Hp} {D':Zdi} {D:Ends} (h:AftS K H D' D) (k:Kp K H H1):AftS K H1 D' D :=
 ⟨fun ρ A σ H' q=>h.nx ρ A σ H' (k.trans q),fun u A v H' q=>h.rt u A v H' (k.trans q),fun ρ A σ H' q=>h.bk ρ A σ H' (k.trans q),fun ρ A σ H' q=>h.ct ρ A σ H' (k.trans q)⟩
noncomputable def AbS (K:YFr) (ts:TS) (as:AS):Prop:=∀ ρ A σ H D' D,RSt K H ρ σ->HR K H A->as D' ρ A->AftS K H D' D->ts D σ H
section
variable {K:YFr}
noncomputable def aVar (i:Nat):AE:=fun ρ A Q=>aGet ρ i fun u=>Q u A
theorem Zb {i:Nat}:AbE K (tVar i) (aVar i):=fun ρ A σ H Q' Q hr hh h k=>by
 obtain ⟨u,v,e,r,q⟩:=hr.get h
 exact ⟨v,e,k u A v H (.refl H) hh r q⟩
noncomputable def aC (u:U):AE:=fun _ A Q=>Q u A
theorem ab_c {u:U} {v:V} (h:∀ H,RU K H u v):AbE K (tC v) (aC u):=fun ρ A σ H Q' Q hr hh q k=>k u A v H (.refl H) hh (h H) q
theorem Zi {i:Int}:AbE K (tC (.int i)) (aC (.int i)):=ab_c fun _=>.int i
theorem ZT {i:Str}:AbE K (tC (.str i)) (aC (.str i)):=ab_c fun _=>.str i
theorem ab_bl {i:Bool}:AbE K (tC (.bl i)) (aC (.bl i)):=ab_c fun _=>.bl i
theorem ab_ty {n:String}:AbE K (tC (.ty n)) (aC (.ty n)):=ab_c fun _=>.ty n
theorem Zju {a:Addr}:AbE K (tC (.ref a)) (aC (.ref a)):=ab_c fun _=>.ref a
noncomputable abbrev AR2:=U->U->AHp->AVK->Prop
noncomputable def AbR (K:YFr) (r:R2) (ar:AR2):Prop:=∀ x y u w A H Q' Q,RU K H u x->RU K H w y->HR K H A->ar u w A Q'->Aft K H Q' Q->r x y H Q
noncomputable def aOp (ar:AR2) (a b:AE):AE:=fun ρ A Q=>a ρ A fun x A1=>b ρ A1 fun y A2=>ar x y A2 Q
theorem Zk {r:R2} {ar:AR2} {ta tb:TE} {aa ab:AE} (hr:AbR K r ar) (ha:AbE K ta aa) (hb:AbE K tb ab):AbE K (tOp r ta tb) (aOp ar aa ab):=fun ρ A σ H Q' Q hs hh h k =>
 ha ρ A σ H _ _ hs hh h fun x A1 v H1 k1 h1 r1 q1=>hb ρ A1 σ H1 _ _ (hs.same k1) h1 q1 fun y A2 v2 H2 k2 h2 r2 q2=>hr _ _ _ _ _ _ _ _ (r1.same k2) r2 h2 q2 fun z A3 v3 H3 k3 h3 r3 q3=>k _ _ _ _ (k1.trans (k2.trans k3)) h3 r3 q3
noncomputable def AbU (K:YFr) (r:V->Hp->VK->Prop) (ar:U->AHp->AVK->Prop):Prop:=∀ x u A H Q' Q,RU K H u x->HR K H A->ar u A Q'->Aft K H Q' Q->r x H Q
noncomputable def aUn (ar:U->AHp->AVK->Prop) (a:AE):AE:=fun ρ A Q=>a ρ A fun x A1=>ar x A1 Q
theorem ZdF {r:V->Hp->VK->Prop} {ar:U->AHp->AVK->Prop} {ta:TE} {aa:AE} (hr:AbU K r ar) (ha:AbE K ta aa):AbE K (tUn r ta) (aUn ar aa):=fun ρ A σ H Q' Q hs hh h k =>
 ha ρ A σ H _ _ hs hh h fun x A1 v H1 k1 h1 r1 q1=>hr _ _ _ _ _ _ r1 h1 q1 fun z A3 v3 H3 k3 h3 r3 q3=>k _ _ _ _ (k1.trans k3) h3 r3 q3
noncomputable def aB (a:AE):AT:=fun ρ A Q=>a ρ A fun x A1=>∃ c,x=.bl c/\Q c A1
theorem ab_tb {ta:TE} {aa:AE} (ha:AbE K ta aa):AbT K (tB ta) (aB aa):=fun ρ A σ H Q' Q hs hh h k =>
 ha ρ A σ H _ _ hs hh h fun x A1 v H1 k1 h1 r1 hq0=>by obtain ⟨c,e,q1⟩:=hq0;subst e;cases r1;exact ⟨c,rfl,k c A1 H1 k1 h1 q1⟩
theorem Zt {ta:TE} {aa:AE} (ha:AbE K ta aa):AbT K (tTest ta) (aB aa):=ab_tb ha
noncomputable def aAnd (t u:AT):AT:=fun ρ A Q=>t ρ A fun c A1=>if c=true then u ρ A1 Q else Q false A1
noncomputable def aOr (t u:AT):AT:=fun ρ A Q=>t ρ A fun c A1=>if c=true then Q true A1 else u ρ A1 Q
noncomputable def aNot (t:AT):AT:=fun ρ A Q=>t ρ A fun c A1=>Q (!c) A1
theorem ZcH {t u:TT} {a b:AT} (ha:AbT K t a) (hb:AbT K u b):AbT K (tAnd t u) (aAnd a b):=fun ρ A σ H Q' Q hs hh h k =>
 ha ρ A σ H _ _ hs hh h fun c A1 H1 k1 h1 q1=>by
  cases c
  ·exact iteN (by decide) (k _ _ _ k1 h1 (by simpa using q1))
  ·exact iteP rfl (hb ρ A1 σ H1 _ _ (hs.same k1) h1 (by simpa using q1) fun c A2 H2 k2 h2 q2=>k _ _ _ (k1.trans k2) h2 q2)
theorem ab_or {t u:TT} {a b:AT} (ha:AbT K t a) (hb:AbT K u b):AbT K (tOr t u) (aOr a b):=fun ρ A σ H Q' Q hs hh h k =>
 ha ρ A σ H _ _ hs hh h fun c A1 H1 k1 h1 q1=>by
  cases c
  ·exact iteN (by decide) (hb ρ A1 σ H1 _ _ (hs.same k1) h1 (by simpa using q1) fun c A2 H2 k2 h2 q2=>k _ _ _ (k1.trans k2) h2 q2)
  ·exact iteP rfl (k _ _ _ k1 h1 (by simpa using q1))
theorem ab_not {t:TT} {a:AT} (ha:AbT K t a):AbT K (tNot t) (aNot a):=fun ρ A σ H Q' Q hs hh h k=>ha ρ A σ H _ _ hs hh h fun c A1 H1 k1 h1 q1=>k _ _ _ k1 h1 q1
noncomputable def aAndV (a b:AE):AE:=fun ρ A Q=>a ρ A fun x A1=>∃ c,x=.bl c/\if c=true then b ρ A1 Q else Q (.bl false) A1
noncomputable def aNotV (a:AE):AE:=fun ρ A Q=>a ρ A fun x A1=>∃ c,x=.bl c/\Q (.bl (!c)) A1
theorem ZfR {t u:TE} {a b:AE} (ha:AbE K t a) (hb:AbE K u b):AbE K (tAndV t u) (aAndV a b):=fun ρ A σ H Q' Q hs hh h k =>
 ha ρ A σ H _ _ hs hh h fun x A1 v H1 k1 h1 r1 hq0=>by
  obtain ⟨c,e,q1⟩:=hq0
  subst e;cases r1
  refine ⟨c,rfl,?_⟩
  cases c
  ·exact iteN (by decide) (k _ _ _ _ k1 h1 (.bl _) (by simpa using q1))
  ·exact iteP rfl (hb ρ A1 σ H1 _ _ (hs.same k1) h1 (by simpa using q1) fun z A2 v2 H2 k2 h2 r2 q2=>k _ _ _ _ (k1.trans k2) h2 r2 q2)
theorem ab_notv {t:TE} {a:AE} (ha:AbE K t a):AbE K (tNotV t) (aNotV a):=fun ρ A σ H Q' Q hs hh h k =>
 ha ρ A σ H _ _ hs hh h fun x A1 v H1 k1 h1 r1 hq0=>by obtain ⟨c,e,q1⟩:=hq0;subst e;cases r1;exact ⟨c,rfl,k _ _ _ _ k1 h1 (.bl _) q1⟩
noncomputable def aIf (t:AT) (a b:AE):AE:=fun ρ A Q=>t ρ A fun c A1=>if c=true then a ρ A1 Q else b ρ A1 Q
theorem ab_if {t:TT} {ta tb:TE} {c:AT} {a b:AE} (hc:AbT K t c) (ha:AbE K ta a) (hb:AbE K tb b):AbE K (tIf t ta tb) (aIf c a b):=fun ρ A σ H Q' Q hs hh h k =>
 hc ρ A σ H _ _ hs hh h fun c A1 H1 k1 h1 q1=>by
  cases c
  ·exact iteN (by decide) (hb ρ A1 σ H1 _ _ (hs.same k1) h1 (by simpa using q1) fun z A2 v2 H2 k2 h2 r2 q2=>k _ _ _ _ (k1.trans k2) h2 r2 q2)
  ·exact iteP rfl (ha ρ A1 σ H1 _ _ (hs.same k1) h1 (by simpa using q1) fun z A2 v2 H2 k2 h2 r2 q2=>k _ _ _ _ (k1.trans k2) h2 r2 q2)
noncomputable def ZcA:AT:=fun _ A Q=>Q true A
theorem Zal:AbT K tTrue ZcA:=fun ρ A σ H Q' Q hs hh h k=>k _ _ _ (.refl H) hh h
noncomputable def aNil:AA:=fun _ A Q=>Q [] A
theorem Zf:AbA K tNil aNil:=fun ρ A σ H Q' Q hs hh h k=>k _ _ _ _ (.refl H) hh .nil h
noncomputable def Zeo (a:AE) (l:AA):AA:=fun ρ A Q=>a ρ A fun x A1=>l ρ A1 fun xs A2=>Q (x::xs) A2
theorem Zc {ta:TE} {tl:TA} {a:AE} {l:AA} (ha:AbE K ta a) (hl:AbA K tl l):AbA K (Zcy ta tl) (Zeo a l):=fun ρ A σ H Q' Q hs hh h k =>
 ha ρ A σ H _ _ hs hh h fun x A1 v H1 k1 g1 r1 q1=>hl ρ A1 σ H1 _ _ (hs.same k1) g1 q1 fun xs A2 vs H2 k2 g2 r2 q2=>k _ _ _ _ (k1.trans k2) g2 (.cons (r1.same k2) r2) q2
noncomputable def aConst (us:List U):AA:=fun _ A L=>L us A
theorem Zbs {xs:List Str}:AbA K (tConst (xs.map V.str)) (aConst (xs.map U.str)):=fun ρ A σ H Q' Q hs hh h k=>k _ _ _ _ (.refl H) hh RUs.of_strs h
noncomputable def aTup (l:AA):AE:=fun ρ A Q=>l ρ A fun xs A1=>xs.length<=sizeLine/\Q (.tup xs) A1
theorem ZY {tl:TA} {l:AA} (hl:AbA K tl l):AbE K (tTup tl) (aTup l):=fun ρ A σ H Q' Q hs hh h k =>
 hl ρ A σ H _ _ hs hh h fun xs A1 vs H1 k1 g1 r1 ⟨hz,q1⟩=>⟨by rw [<- r1.length];exact hz,fun p hp=>by
  have s:=Same.upd_new (o:=.tup vs) hp
  exact k _ _ _ _ (k1.trans s.kp) (g1.grow s) (.tup (SqT.of Zae) (r1.same s.kp)) q1⟩
noncomputable def aLst (l:AA):AE:=fun ρ A Q=>l ρ A fun xs A1=>xs.length<=sizeLine/\∀ p,A1 p=none->Q (.ref p) (updA A1 p (.lst xs))
theorem ZaC {tl:TA} {l:AA} (hl:AbA K tl l):AbE K (tLst tl) (aLst l):=fun ρ A σ H Q' Q hs hh h k =>
 hl ρ A σ H _ _ hs hh h fun xs A1 vs H1 k1 g1 r1 ⟨hz,q1⟩=>⟨by rw [<- r1.length];exact hz,fun p hp=>k _ _ _ _ (k1.trans (Same.upd_new hp).kp) (g1.newL hp r1) (.ref p) (q1 p (g1.none hp))⟩
noncomputable def AbL (K:YFr) (r:List V->Hp->VK->Prop) (ar:List U->AHp->AVK->Prop):Prop:=∀ xs us A H Q' Q,RUs K H us xs->HR K H A->ar us A Q'->Aft K H Q' Q->r xs H Q
noncomputable def aCB (ar:List U->AHp->AVK->Prop) (l:AA):AE:=fun ρ A Q=>l ρ A fun us A1=>ar us A1 Q
theorem Z4 {r:List V->Hp->VK->Prop} {ar:List U->AHp->AVK->Prop} {tl:TA} {l:AA} (hr:AbL K r ar) (hl:AbA K tl l):AbE K (tCB r tl) (aCB ar l):=fun ρ A σ H Q' Q hs hh h k =>
 hl ρ A σ H _ _ hs hh h fun xs A1 vs H1 k1 g1 r1 q1=>hr _ _ _ _ _ _ r1 g1 q1 fun z A3 v3 H3 k3 h3 r3 q3=>k _ _ _ _ (k1.trans k3) h3 r3 q3
noncomputable abbrev ASp:=List U->AHp->AVK->Prop
noncomputable def spOf (K:YFr) (asp:ASp):Sp:=fun vs H Q _=>∃ us A Q',RUs K H us vs/\HR K H A/\asp us A Q'/\Aft K H Q' Q
noncomputable def Zf4 (asp:ASp) (l:AA):AE:=fun ρ A Q=>l ρ A fun us A1=>asp us A1 Q
theorem Zv {asp:ASp} {E:XK} {tl:TA} {l:AA} (hl:AbA K tl l):AbE K (tCall (spOf K asp) [] E tl) (Zf4 asp l):=fun ρ A σ H Q' Q hs hh h k =>
 hl ρ A σ H _ _ hs hh h fun us A1 vs H1 k1 g1 r1 q1=>⟨us,A1,Q',by rw [Y8];exact r1,g1,q1,fun z A3 v3 H3 k3 h3 r3 q3=>k _ _ _ _ (k1.trans k3) h3 r3 q3⟩
noncomputable def aCallV (f:Addr) (asp:ASp) (a:AE) (l:AA):AE:=fun ρ A Q=>a ρ A fun y A0=>y=.ref f/\l ρ A0 fun us A1=>asp us A1 Q
theorem Zg8 {asp:ASp} {E:XK} {f:Addr} {tf:TE} {af:AE} {tl:TA} {l:AA} (hf:AbE K tf af) (hl:AbA K tl l):AbE K (tCallV f (spOf K asp) [] E tf tl) (aCallV f asp af l):=fun ρ A σ H Q' Q hs hh h k =>
 hf ρ A σ H _ _ hs hh h fun x A0 v H0 k0 g0 r0 hq0=>by
  obtain ⟨e,q0⟩:=hq0
  subst e;cases r0
  exact ⟨rfl,hl ρ A0 σ H0 _ _ (hs.same k0) g0 q0 fun us A1 vs H1 k1 g1 r1 q1=>⟨us,A1,Q',by rw [Y8];exact r1,g1,q1,fun z A3 v3 H3 k3 h3 r3 q3=>k _ _ _ _ (k0.trans (k1.trans k3)) h3 r3 q3⟩⟩
noncomputable def Zcv:AP1:=fun _ A Q=>Q none A
theorem ZC:AbP K ZiE Zcv:=fun ρ A σ H Q' Q hs hh h k=>k _ _ _ (.refl H) hh h
noncomputable def Zhr (a:AE):AP1:=fun ρ A Q=>a ρ A fun x A1=>∃ i,x=.int i/\Q (some i) A1
theorem ZP {t:TE} {a:AE} (ha:AbE K t a):AbP K (tPart t) (Zhr a):=fun ρ A σ H Q' Q hs hh h k =>
 ha ρ A σ H _ _ hs hh h fun x A1 v H1 k1 h1 r1 hq0=>by obtain ⟨i,e,q1⟩:=hq0;subst e;cases r1;exact ⟨i,rfl,k _ _ _ k1 h1 q1⟩
noncomputable def AbSl (K:YFr) (r:V->Option Int->Option Int->Hp->VK->Prop) (ar:U->Option Int->Option Int->AHp->AVK->Prop):Prop:=∀ x u lo hi A H Q' Q,RU K H u x->HR K H A->ar u lo hi A Q'->Aft K H Q' Q->r x lo hi H Q
noncomputable def aSl (ar:U->Option Int->Option Int->AHp->AVK->Prop) (a:AE) (l h:AP1):AE:=fun ρ A Q=>a ρ A fun x A1=>l ρ A1 fun i A2=>h ρ A2 fun j A3=>ar x i j A3 Q
theorem ZaV {r:V->Option Int->Option Int->Hp->VK->Prop} {ar:U->Option Int->Option Int->AHp->AVK->Prop} {t:TE} {tl th:TO} {a:AE} {l h:AP1} (hr:AbSl K r ar) (ha:AbE K t a) (hl:AbP K tl l) (hh:AbP K th h):AbE K (tSl r t tl th) (aSl ar a l h):=fun ρ A σ H Q' Q hs g w k =>
 ha ρ A σ H _ _ hs g w fun x A1 v H1 k1 g1 r1 q1=>hl ρ A1 σ H1 _ _ (hs.same k1) g1 q1 fun i A2 H2 k2 g2 q2=>hh ρ A2 σ H2 _ _ (hs.same (k1.trans k2)) g2 q2 fun j A3 H3 k3 g3 q3 =>
  hr _ _ _ _ _ _ _ _ (r1.same (k2.trans k3)) g3 q3 fun z A4 v4 H4 k4 g4 r4 q4=>k _ _ _ _ (k1.trans (k2.trans (k3.trans k4))) g4 r4 q4
noncomputable def AbY (K:YFr) (T:String) (y:U->AHp->Prop):Prop:=∀ x u A H,RU K H u x->HR K H A->y u A->tyV K T x H
noncomputable def aBM0 (y:U->AHp->Prop) (ar:U->List U->AHp->AVK->Prop) (a:AE):AE:=fun ρ A Q=>a ρ A fun x A1=>y x A1/\ar x [] A1 Q
noncomputable def aBM (y:U->AHp->Prop) (ar:U->List U->AHp->AVK->Prop) (a:AE) (l:AA):AE:=fun ρ A Q=>a ρ A fun x A1=>y x A1/\l ρ A1 fun us A2=>ar x us A2 Q
noncomputable def AbMt (K:YFr) (r:V->List V->Hp->VK->Prop) (ar:U->List U->AHp->AVK->Prop):Prop:=∀ x u xs us A H Q' Q,RU K H u x->RUs K H us xs->HR K H A->ar u us A Q'->Aft K H Q' Q->r x xs H Q
theorem ab_bm0 {T:String} {r:V->List V->Hp->VK->Prop} {y:U->AHp->Prop} {ar:U->List U->AHp->AVK->Prop} {t:TE} {a:AE} (hy:AbY K T y) (hr:AbMt K r ar) (ha:AbE K t a):AbE K (tBM0 K T r t) (aBM0 y ar a):=fun ρ A σ H Q' Q hs g w k =>
 ha ρ A σ H _ _ hs g w fun x A1 v H1 k1 g1 r1 ⟨q0,q1⟩=>⟨hy _ _ _ _ r1 g1 q0,hr _ _ _ _ _ _ _ _ r1 .nil g1 q1 fun z A4 v4 H4 k4 g4 r4 q4=>k _ _ _ _ (k1.trans k4) g4 r4 q4⟩
theorem Zei {T:String} {r:V->List V->Hp->VK->Prop} {y:U->AHp->Prop} {ar:U->List U->AHp->AVK->Prop} {t:TE} {a:AE} {tl:TA} {l:AA} (hy:AbY K T y) (hr:AbMt K r ar) (ha:AbE K t a) (hl:AbA K tl l):AbE K (tBM K T r t tl) (aBM y ar a l):=fun ρ A σ H Q' Q hs g w k =>
 ha ρ A σ H _ _ hs g w fun x A1 v H1 k1 g1 r1 ⟨q0,q1⟩=>⟨hy _ _ _ _ r1 g1 q0,hl ρ A1 σ H1 _ _ (hs.same k1) g1 q1 fun us A2 vs H2 k2 g2 r2 q2=>hr _ _ _ _ _ _ _ _ (r1.same k2) r2 g2 q2 fun z A4 v4 H4 k4 g4 r4 q4=>k _ _ _ _ (k1.trans (k2.trans k4)) g4 r4 q4⟩
noncomputable def aNext:AS:=fun D ρ A=>D.nx ρ A
theorem ZF:AbS K tNext aNext:=fun ρ A σ H D' D hs g w k=>k.nx _ _ _ _ (.refl H) g hs w
noncomputable def aSeq (t u:AS):AS:=fun D ρ A=>t { D with nx:=u D } ρ A
theorem Zn {t u:TS} {a b:AS} (ha:AbS K t a) (hb:AbS K u b):AbS K (tSeq t u) (aSeq a b):=fun ρ A σ H D' D hs g w k =>
 ha ρ A σ H _ _ hs g w ⟨fun ρ1 A1 σ1 H1 k1 g1 r1 q1=>hb ρ1 A1 σ1 H1 _ _ r1 g1 q1 (k.same k1),k.rt,k.bk,k.ct⟩
noncomputable def aDrop (a:AE):AS:=fun D ρ A=>a ρ A fun _ A1=>D.nx ρ A1
theorem Zcr {t:TE} {a:AE} (ha:AbE K t a):AbS K (tDrop t) (aDrop a):=fun ρ A σ H D' D hs g w k=>ha ρ A σ H _ _ hs g w fun x A1 v H1 k1 g1 r1 q1=>k.nx _ _ _ _ k1 g1 (hs.same k1) q1
noncomputable def aRet (a:AE):AS:=fun D ρ A=>a ρ A D.rt
theorem ZD {t:TE} {a:AE} (ha:AbE K t a):AbS K (tRet t) (aRet a):=fun ρ A σ H D' D hs g w k=>ha ρ A σ H _ _ hs g w k.rt
noncomputable def aIfS (c:AT) (t u:AS):AS:=fun D ρ A=>c ρ A fun b A1=>if b=true then t D ρ A1 else u D ρ A1
theorem ZZ {c:TT} {t u:TS} {ac:AT} {a b:AS} (hc:AbT K c ac) (ha:AbS K t a) (hb:AbS K u b):AbS K (tIfS c t u) (aIfS ac a b):=fun ρ A σ H D' D hs g w k =>
 hc ρ A σ H _ _ hs g w fun c A1 H1 k1 g1 q1=>by
  cases c
  ·exact iteN (by decide) (hb ρ A1 σ H1 _ _ (hs.same k1) g1 (by simpa using q1) (k.same k1))
  ·exact iteP rfl (ha ρ A1 σ H1 _ _ (hs.same k1) g1 (by simpa using q1) (k.same k1))
noncomputable abbrev AG:=U->ASt->AHp->(ASt->AHp->Prop)->Prop
noncomputable abbrev AGs:=List U->ASt->AHp->(ASt->AHp->Prop)->Prop
noncomputable abbrev AftG (K:YFr) (H:Hp) (Q':ASt->AHp->Prop) (Q:St->Hp->Prop):Prop:=∀ ρ A σ H',Kp K H H'->HR K H' A->RSt K H' ρ σ->Q' ρ A->Q σ H'
noncomputable def AbG (K:YFr) (t:TG) (a:AG):Prop:=∀ u v ρ A σ H Q' Q,RU K H u v->RSt K H ρ σ->HR K H A->a u ρ A Q'->AftG K H Q' Q->t v σ H Q
noncomputable def AbGs (K:YFr) (t:TGs) (a:AGs):Prop:=∀ u v ρ A σ H Q' Q,RUs K H u v->RSt K H ρ σ->HR K H A->a u ρ A Q'->AftG K H Q' Q->t v σ H Q
noncomputable def ZbH (i:Nat):AG:=fun u ρ A Q=>Q (ρ.set i (some u)) A
theorem Zj {i:Nat}:AbG K (Zhp i) (ZbH i):=fun u v ρ A σ H Q' Q r hs g w k=>k _ _ _ _ (.refl H) g (hs.set r i) w
noncomputable def bNil:AGs:=fun us ρ A Q=>us=[]/\Q ρ A
theorem Zcu:AbGs K gNil bNil:=fun u v ρ A σ H Q' Q r hs g hq0 k=>by obtain ⟨e,w⟩:=hq0;subst e;cases r;exact ⟨rfl,k _ _ _ _ (.refl H) g hs w⟩
noncomputable def bCons (t:AG) (u:AGs):AGs:=fun us ρ A Q=>∃ v r,us=v::r/\t v ρ A fun ρ' A'=>u r ρ' A' Q
theorem ZaU {t:TG} {u:TGs} {a:AG} {b:AGs} (ha:AbG K t a) (hb:AbGs K u b):AbGs K (gCons t u) (bCons a b):=fun us vs ρ A σ H Q' Q r hs g hq0 k=>by
 obtain ⟨x,xs,e,w⟩:=hq0
 subst e
 cases r with
 | cons r rr=>exact ⟨_,_,rfl,ha _ _ _ _ _ _ _ _ r hs g w fun ρ1 A1 σ1 H1 k1 g1 s1 q1=>hb _ _ _ _ _ _ _ _ (rr.same k1) s1 g1 q1 fun ρ2 A2 σ2 H2 k2 g2 s2 q2=>k _ _ _ _ (k1.trans k2) g2 s2 q2⟩
noncomputable def bTup (n:Nat) (t:AGs):AG:=fun u ρ A Q=>∃ us,u=.tup us/\us.length=n/\t us ρ A Q
theorem ZcF {n:Nat} {t:TGs} {a:AGs} (ha:AbGs K t a):AbG K (gTup K n t) (bTup n a):=fun u v ρ A σ H Q' Q r hs g hq0 k=>by
 obtain ⟨us,e,hn,w⟩:=hq0
 subst e
 cases r with
 | tup h rr=>exact ⟨_,_,rfl,h,by rw [<- rr.length];exact hn,ha _ _ _ _ _ _ _ _ rr hs g w k⟩
noncomputable def aAsg (a:AE) (b:AG):AS:=fun D ρ A=>a ρ A fun x A1=>b x ρ A1 D.nx
theorem Zx {t:TE} {a:AE} {tg:TG} {b:AG} (ha:AbE K t a) (hb:AbG K tg b):AbS K (tAsg t tg) (aAsg a b):=fun ρ A σ H D' D hs g w k =>
 ha ρ A σ H _ _ hs g w fun x A1 v H1 k1 g1 r1 q1=>hb _ _ _ _ _ _ _ _ r1 (hs.same k1) g1 q1 fun ρ2 A2 σ2 H2 k2 g2 s2 q2=>k.nx _ _ _ _ (k1.trans k2) g2 s2 q2
noncomputable def aPar (i j:Nat) (l:AA):AS:=fun D ρ A=>l ρ A fun us A1=>∃ v w,us=[v,w]/\D.nx ((ρ.set i (some v)).set j (some w)) A1
noncomputable def aAug (i:Nat) (a:AE) (ar:AR2):AS:=fun D ρ A=>aGet ρ i fun x=>a ρ A fun y A1=>ar x y A1 fun z A2=>D.nx (ρ.set i (some z)) A2
theorem Ze3 {i:Nat} {t:TE} {a:AE} {ti:TIp} {ar:AR2} (ha:AbE K t a) (hr:AbR K ti ar):AbS K (tAug i t ti) (aAug i a ar):=fun ρ A σ H D' D hs g w k=>by
 obtain ⟨x,v,e,r,q⟩:=hs.get w
 exact ⟨v,e,ha ρ A σ H _ _ hs g q fun y A1 v1 H1 k1 g1 r1 q1=>hr _ _ _ _ _ _ _ _ (r.same k1) r1 g1 q1 fun z A2 v2 H2 k2 g2 r2 q2=>k.nx _ _ _ _ (k1.trans k2) g2 ((hs.same (k1.trans k2)).set r2 i) q2⟩
noncomputable def aWhile (c:AT) (b:AS):AS:=fun D ρ A=>∃ W:Nat->ASt->AHp->Prop,(∃ m,W m ρ A)/\∀ m ρ A,W m ρ A ->
 c ρ A fun k A1=>if k=true then ∃ N:ASt->AHp->Prop,(∀ ρ' A',N ρ' A'->∃ m',m' < m/\W m' ρ' A')/\b { D with nx:=N,ct:=N,bk:=D.nx } ρ A1 else D.nx ρ A1
theorem ab_while {c:TT} {t:TS} {ac:AT} {a:AS} (hc:AbT K c ac) (ha:AbS K t a):AbS K (tWhile c t) (aWhile ac a):=fun ρ A σ H D' D hs g hq0 k=>by
 obtain ⟨W,⟨m0,w0⟩,turn⟩:=hq0
 refine ⟨fun m σ1 H1=>∃ ρ1 A1,Kp K H H1/\HR K H1 A1/\RSt K H1 ρ1 σ1/\W m ρ1 A1,⟨m0,ρ,A,.refl H,g,hs,w0⟩,?_⟩
 rintro m σ1 H1 ⟨ρ1,A1,k1,g1,s1,w1⟩
 refine hc ρ1 A1 σ1 H1 _ _ s1 g1 (turn m ρ1 A1 w1) fun b A2 H2 k2 g2 q2=>?_
 cases b
 ·exact iteN (by decide) (k.nx _ _ _ _ (k1.trans k2) g2 (s1.same k2) (by simpa using q2))
 ·refine iteP rfl ?_
  obtain ⟨N,hN,q2⟩:=(by simpa using q2:∃ N:ASt->AHp->Prop,(∀ ρ' A',N ρ' A'->∃ m',m' < m/\W m' ρ' A')/\a { D' with nx:=N,ct:=N,bk:=D'.nx } ρ1 A2)
  refine ⟨fun σ' H'=>∃ ρ' A',Kp K H H'/\HR K H' A'/\RSt K H' ρ' σ'/\N ρ' A',?_,?_⟩
  ·rintro σ' H' ⟨ρ',A',k',g',s',n'⟩
   obtain ⟨m',hm,w'⟩:=hN ρ' A' n'
   exact ⟨m',hm,ρ',A',k',g',s',w'⟩
  ·have k12:=k1.trans k2
   exact ha ρ1 A2 σ1 H2 _ _ (s1.same k2) g2 q2 ⟨fun ρ A σ H' k3 g3 s3 n3=>⟨ρ,A,k12.trans k3,g3,s3,n3⟩,(k.same k12).rt,fun ρ A σ H' k3 g3 s3 n3=>k.nx _ _ _ _ (k12.trans k3) g3 s3 n3,fun ρ A σ H' k3 g3 s3 n3=>⟨ρ,A,k12.trans k3,g3,s3,n3⟩⟩
end
noncomputable abbrev AIt:=Nat->AHp->Option U->Prop
noncomputable def AbJ (K:YFr) (H0:Hp) (J:It) (aj:AIt):Prop:=∀ i A H r,Kp K H0 H->HR K H A->aj i A r->match r with
 | none=>J.stop i H
 | some u=>J.go i H/\∀ x H',J.yld i H x H'->Kp K H H'/\HR K H' A/\RU K H' u x
noncomputable abbrev AI:=ASt->AHp->(AIt->AHp->Prop)->Prop
noncomputable def AbI (K:YFr) (wi:TI) (ai:AI):Prop:=∀ ρ A σ H R' R,RSt K H ρ σ->HR K H A->ai ρ A R'->(∀ aj A' J H',Kp K H H'->HR K H' A'->AbJ K H' J aj->R' aj A'->R J H')->wi σ H R
noncomputable def ZeF (J:AIt) (g:AG) (b:AS) (D:Zdi) (ρ:ASt) (A:AHp):Prop:=∃ W:Nat->Nat->ASt->AHp->Prop,(∃ m,W 0 m ρ A)/\∀ i m ρ A,W i m ρ A ->
 (J i A none/\D.nx ρ A)\/∃ u,J i A (some u)/\∃ N:ASt->AHp->Prop,(∀ ρ' A',N ρ' A'->∃ m',m' < m/\W (i + 1) m' ρ' A')/\g u ρ A fun ρ2 A2=>b { D with nx:=N,ct:=N,bk:=D.nx } ρ2 A2
noncomputable def aFor (wi:AI) (g:AG) (b:AS):AS:=fun D ρ A=>wi ρ A fun J A1=>ZeF J g b D ρ A1
section
variable {K:YFr}
theorem Zbt {wi:TI} {g:TG} {t:TS} {ai:AI} {ag:AG} {a:AS} (hi:AbI K wi ai) (hg:AbG K g ag) (ha:AbS K t a):AbS K (tFor wi g t) (aFor ai ag a):=fun ρ A σ H D' D hs g0 w k=>by
 refine hi ρ A σ H _ _ hs g0 w fun aj A1 J H1 k1 g1 hj q=>?_
 obtain ⟨W,⟨m0,w0⟩,turn⟩:=q
 refine ⟨fun i m σ2 H2=>∃ ρ2 A2,Kp K H1 H2/\HR K H2 A2/\RSt K H2 ρ2 σ2/\W i m ρ2 A2,⟨m0,ρ,A1,.refl H1,g1,hs.same k1,w0⟩,?_⟩
 rintro i m σ2 H2 ⟨ρ2,A2,k2,g2,s2,w2⟩
 have k12:=k1.trans k2
 rcases turn i m ρ2 A2 w2 with ⟨hstop,q⟩ | ⟨u,hgo,N,hN,q⟩
 ·exact .inl ⟨hj i A2 H2 _ k2 g2 hstop,k.nx _ _ _ _ k12 g2 s2 q⟩
 ·obtain ⟨j1,j2⟩:=hj i A2 H2 _ k2 g2 hgo
  refine .inr ⟨j1,fun σ' H'=>∃ ρ' A',Kp K H1 H'/\HR K H' A'/\RSt K H' ρ' σ'/\N ρ' A',?_,fun x H3 hy=>?_⟩
  ·rintro σ' H' ⟨ρ',A',k',g',s',n'⟩
   obtain ⟨m',hm,w'⟩:=hN ρ' A' n'
   exact ⟨m',hm,ρ',A',k',g',s',w'⟩
  ·obtain ⟨k3,g3,r3⟩:=j2 x H3 hy
   refine hg _ _ _ _ _ _ _ _ r3 (s2.same k3) g3 q fun ρ4 A4 σ4 H4 k4 g4 s4 q4=>?_
   have k24:=k2.trans (k3.trans k4)
   exact ha ρ4 A4 σ4 H4 _ _ s4 g4 q4 ⟨fun ρ5 A5 σ5 H5 k5 g5 s5 n5=>⟨ρ5,A5,k24.trans k5,g5,s5,n5⟩,(k.same (k1.trans k24)).rt,fun ρ5 A5 σ5 H5 k5 g5 s5 n5=>k.nx _ _ _ _ ((k1.trans k24).trans k5) g5 s5 n5,fun ρ5 A5 σ5 H5 k5 g5 s5 n5=>⟨ρ5,A5,k24.trans k5,g5,s5,n5⟩⟩
noncomputable def jFix (us:List U):AIt:=fun i _ r=>r=us[i]?
noncomputable def jLst (a:Addr):AIt:=fun i A r=>∃ us,A a=some (.lst us)/\r=us[i]?
noncomputable def aJof (y:U->AHp->(AIt->AHp->Prop)->Prop) (a:AE):AI:=fun ρ A R=>a ρ A fun x A1=>y x A1 R
noncomputable def AbY1 (K:YFr) (u:V->Hp->(It->Hp->Prop)->Prop) (y:U->AHp->(AIt->AHp->Prop)->Prop):Prop:=∀ x v A H R' R,RU K H x v->HR K H A->y x A R'->(∀ aj A' J H',Kp K H H'->HR K H' A'->AbJ K H' J aj->R' aj A'->R J H')->u v H R
theorem ZaI {u:V->Hp->(It->Hp->Prop)->Prop} {y:U->AHp->(AIt->AHp->Prop)->Prop} {t:TE} {a:AE} (hy:AbY1 K u y) (ha:AbE K t a):AbI K (jOf u t) (aJof y a):=fun ρ A σ H R' R hs g w k =>
 ha ρ A σ H _ _ hs g w fun x A1 v H1 k1 g1 r1 q1=>hy _ _ _ _ _ _ r1 g1 q1 fun aj A2 J H2 k2 g2 hj q2=>k _ _ _ _ (k1.trans k2) g2 hj q2
theorem itl_fix {H:Hp} {a:Addr} {us:List U} {vs:List V} (h:SqR K H a vs) (r:RUs K H us vs):AbJ K H (Itl K a) (jFix us):=fun i A H1 x k g e=>by
 have e:x=us[i]?:=e
 have h1:=(k.r _ _ h).sq
 have r1:=r.same k
 subst e
 cases hu:us[i]? with
 | none=>exact ⟨vs,h1,by rw [<- r1.length];exact Y7.mp hu⟩
 | some u =>
  obtain ⟨v,hv,rv⟩:=r1.get' hu
  refine ⟨⟨vs,v,h1,hv⟩,?_⟩
  rintro x H' ⟨rfl,hx⟩
  have:=hx vs h1
  rw [hv] at this;cases this
  exact ⟨.refl _,g,rv⟩
theorem itl_lst {H:Hp} {a:Addr}:AbJ K H (Itl K a) (jLst a):=fun i A H1 x k g hq0=>by
 obtain ⟨us,hA,e⟩:=hq0
 subst e
 obtain ⟨vs,h1,r1⟩:=g.list hA
 have h1:SqL K H1 a vs:=SqL.of h1
 cases hu:us[i]? with
 | none=>exact ⟨vs,h1,by rw [<- r1.length];exact Y7.mp hu⟩
 | some u =>
  obtain ⟨v,hv,rv⟩:=r1.get' hu
  refine ⟨⟨vs,v,h1,hv⟩,?_⟩
  rintro x H' ⟨rfl,hx⟩
  have:=hx vs h1
  rw [hv] at this;cases this
  exact ⟨.refl _,g,rv⟩
theorem itt_fix {H:Hp} {a:Addr} {us:List U} {vs:List V} (h:SqT K H a vs) (r:RUs K H us vs):AbJ K H (Itt K a) (jFix us):=fun i A H1 x k g e=>by
 have e:x=us[i]?:=e
 have h1:=k.t _ _ h
 have r1:=r.same k
 subst e
 cases hu:us[i]? with
 | none=>exact ⟨vs,h1,by rw [<- r1.length];exact Y7.mp hu⟩
 | some u =>
  obtain ⟨v,hv,rv⟩:=r1.get' hu
  refine ⟨⟨vs,v,h1,hv⟩,?_⟩
  rintro x H' ⟨rfl,hx⟩
  have:=hx vs h1
  rw [hv] at this;cases this
  exact ⟨.refl _,g,rv⟩
noncomputable def yList:U->AHp->(AIt->AHp->Prop)->Prop:=fun u A R=>match u with
 | .ref a=>(∃ us,A a=some (.lst us))/\R (jLst a) A
 | .rol us=>R (jFix us) A
 | _=>False
theorem Zgs:AbY1 K (uList K) yList:=fun x v A H R' R r g w k=>by
 cases r with
 | ref a =>
  obtain ⟨⟨us,hA⟩,w⟩:=w
  obtain ⟨vs,h1,r1⟩:=g.list hA
  exact ⟨⟨vs,SqL.of h1⟩,k _ _ _ _ (.refl H) g itl_lst w⟩
 | rol h1 r1=>exact ⟨⟨_,h1.sq⟩,k _ _ _ _ (.refl H) g (itl_fix h1 r1) w⟩
 | _=>exact w.elim
noncomputable def yTup:U->AHp->(AIt->AHp->Prop)->Prop:=fun u A R=>match u with
 | .tup us=>R (jFix us) A
 | _=>False
theorem ab_ytup:AbY1 K (uTupI K) yTup:=fun x v A H R' R r g w k=>by
 cases r with
 | tup h1 r1=>exact ⟨⟨_,h1⟩,k _ _ _ _ (.refl H) g (itt_fix h1 r1) w⟩
 | _=>exact w.elim
noncomputable def rngU (lo:Int) (n:Nat):List U:=(List.range n).map fun (i:Nat)=>.int (lo + (i:Int))
theorem ZbD (lo:Int) (n i:Nat):(rngU lo n)[i]? = if i < n then some (.int (lo + (i:Int))) else none:=by
 unfold rngU
 rw [Yr]
 by_cases h:i < n
 ·rw [if_pos h,YbC h];rfl
 ·rw [if_neg h,YT (by rw [Yab];lia)];rfl
theorem rngU_len (lo:Int) (n:Nat):(rngU lo n).length=n:=by simp [rngU]
theorem ZhW {H:Hp} {lo:Int} {n:Nat}:AbJ K H (Itr lo n) (jFix (rngU lo n)):=fun i A H1 x k g e=>by
 have e:x=(rngU lo n)[i]?:=e
 rw [ZbD] at e
 subst e
 by_cases h:i < n
 ·rw [if_pos h]
  refine ⟨h,?_⟩
  rintro x H' ⟨rfl,rfl⟩
  exact ⟨.refl _,g,.int _⟩
 ·rw [if_neg h]
  exact YcS h
noncomputable def yRng1:List U->AHp->(AIt->AHp->Prop)->Prop:=fun us A R=>match us with
 | [.int j]=>-(2 ^ 62)<=j/\j < 2 ^ 62/\R (jFix (rngU 0 j.toNat)) A
 | _=>False
noncomputable def yRng2:List U->AHp->(AIt->AHp->Prop)->Prop:=fun us A R=>match us with
 | [.int i,.int j]=>(-(2 ^ 62)<=i/\i < 2 ^ 62/\-(2 ^ 62)<=j/\j < 2 ^ 62)/\R (jFix (rngU i (j - i).toNat)) A
 | _=>False
noncomputable def AbYs (K:YFr) (u:List V->Hp->(It->Hp->Prop)->Prop) (y:List U->AHp->(AIt->AHp->Prop)->Prop):Prop:=∀ x v A H R' R,RUs K H x v->HR K H A->y x A R'->(∀ aj A' J H',Kp K H H'->HR K H' A'->AbJ K H' J aj->R' aj A'->R J H')->u v H R
noncomputable def ZgW (y:List U->AHp->(AIt->AHp->Prop)->Prop) (l:AA):AI:=fun ρ A R=>l ρ A fun us A1=>y us A1 R
theorem ZcP {u:List V->Hp->(It->Hp->Prop)->Prop} {y:List U->AHp->(AIt->AHp->Prop)->Prop} {t:TA} {l:AA} (hy:AbYs K u y) (hl:AbA K t l):AbI K (jArgs u t) (ZgW y l):=fun ρ A σ H R' R hs g w k =>
 hl ρ A σ H _ _ hs g w fun x A1 v H1 k1 g1 r1 q1=>hy _ _ _ _ _ _ r1 g1 q1 fun aj A2 J H2 k2 g2 hj q2=>k _ _ _ _ (k1.trans k2) g2 hj q2
theorem ab_yrng1:AbYs K uRng1 yRng1:=fun x v A H R' R r g w k=>by
 unfold yRng1 at w
 split at w
 ·cases r with
  | cons r rr =>
   cases rr;cases r
   exact ⟨w.1,w.2.1,k _ _ _ _ (.refl H) g ZhW w.2.2⟩
 ·exact w.elim
theorem ab_yrng2:AbYs K uRng2 yRng2:=fun x v A H R' R r g w k=>by
 unfold yRng2 at w
 split at w
 ·cases r with
  | cons r rr =>
   cases rr with
   | cons r2 rr =>
    cases rr;cases r;cases r2
    exact ⟨w.1,k _ _ _ _ (.refl H) g ZhW w.2⟩
 ·exact w.elim
theorem ZbZ {t:TA} {l:AA} (hl:AbA K t l):AbI K (jRng1 t) (ZgW yRng1 l):=ZcP (u:=uRng1) ab_yrng1 hl
theorem Zgk {t:TA} {l:AA} (hl:AbA K t l):AbI K (jRng2 t) (ZgW yRng2 l):=ZcP (u:=uRng2) ab_yrng2 hl
noncomputable def enU (us:List U):List U:=us.zipIdx.map fun p=>.tup [.int (p.2:Nat),p.1]
theorem Zjy (us:List U) (i:Nat):(enU us)[i]? = (us[i]?).map fun u=>.tup [.int (i:Nat),u]:=by
 unfold enU
 rw [Yr,List.getElem?_zipIdx]
 cases us[i]? <;> simp
theorem enU_len (us:List U):(enU us).length=us.length:=by simp [enU]
noncomputable def jEnum (a:Addr):AIt:=fun i A r=>∃ us,A a=some (.lst us)/\r=(enU us)[i]?
noncomputable def yEnum:List U->AHp->(AIt->AHp->Prop)->Prop:=fun us A R=>match us with
 | [.ref a]=>(∃ us,A a=some (.lst us))/\R (jEnum a) A
 | [.rol us]=>R (jFix (enU us)) A
 | _=>False
theorem ite_of {H:Hp} {a:Addr} {us:List U} {vs:List V} {i:Nat} {A:AHp} (h1:SqL K H a vs) (r1:RUs K H us vs) (g:HR K H A):match (enU us)[i]? with
  | none=>(Ite K a).stop i H
  | some u=>(Ite K a).go i H/\∀ x H',(Ite K a).yld i H x H'->Kp K H H'/\HR K H' A/\RU K H' u x:=by
 rw [Zjy]
 cases hu:us[i]? with
 | none=>exact ⟨vs,h1,by rw [<- r1.length];exact Y7.mp hu⟩
 | some u =>
  obtain ⟨v,hv,rv⟩:=r1.get' hu
  refine ⟨⟨vs,v,h1,hv⟩,?_⟩
  rintro x H' ⟨T,x0,rfl,hT,rfl,hx⟩
  have:=hx vs h1
  rw [hv] at this;cases this
  have s:=Same.upd_new (o:=.tup [.int i,v]) hT
  exact ⟨s.kp,g.grow s,.tup (SqT.of Zae) (.cons (.int _) (.one (rv.same s.kp)))⟩
theorem ab_yenum:AbYs K (uEnum K) yEnum:=fun x v A H R' R r g w k=>by
 unfold yEnum at w
 split at w
 ·cases r with
  | cons r rr =>
   cases rr;cases r
   obtain ⟨⟨us,hA⟩,w⟩:=w
   obtain ⟨vs,h1,r1⟩:=g.list hA
   refine ⟨⟨vs,SqL.of h1⟩,k _ _ _ _ (.refl H) g (fun i A1 H1 r k1 g1 ⟨us,hA,e⟩=>?_) w⟩
   subst e
   obtain ⟨vs,h1,r1⟩:=g1.list hA
   exact ite_of (SqL.of h1) r1 g1
 ·cases r with
  | cons r rr =>
   cases rr
   cases r with
   | rol h1 r1 =>
    refine ⟨⟨_,h1.sq⟩,k _ _ _ _ (.refl H) g (fun i A1 H1 r k1 g1 e=>?_) w⟩
    have e:r=(enU _)[i]?:=e
    subst e
    exact ite_of (k1.r _ _ h1).sq (r1.same k1) g1
 ·exact w.elim
noncomputable def yEnumT:List U->AHp->(AIt->AHp->Prop)->Prop:=fun us A R=>match us with
 | [.tup us]=>R (jFix (enU us)) A
 | _=>False
noncomputable def zpU:List U->List U->List U
 | x::xs,y::ys=>.tup [x,y]::zpU xs ys
 | _,_=>[]
theorem Zfw:∀ (us ws:List U) (i:Nat),(zpU us ws)[i]? = match us[i]?,ws[i]? with | some x,some y=>some (.tup [x,y]) | _,_=>none
 | [],ws,i=>by simp [zpU]
 | _ :: _,[],i=>by
  simp only [zpU,List.getElem?_nil]
  split <;> simp_all
 | x::xs,y::ys,0=>by simp [zpU]
 | x::xs,y::ys,i + 1=>by simpa [zpU] using Zfw xs ys i
noncomputable def jZip (a b:Addr):AIt:=fun i A r=>∃ us ws,A a=some (.lst us)/\A b=some (.lst ws)/\r=(zpU us ws)[i]?
noncomputable def yZip:List U->AHp->(AIt->AHp->Prop)->Prop:=fun us A R=>match us with
 | [.ref a,.ref b]=>(∃ us ws,A a=some (.lst us)/\A b=some (.lst ws))/\R (jZip a b) A
 | _=>False
theorem ab_yzip:AbYs K (uZip K) yZip:=fun x v A H R' R r g w k=>by
 unfold yZip at w
 split at w
 ·cases r with
  | cons r rr =>
   cases rr with
   | cons r2 rr =>
    cases rr;cases r;cases r2
    obtain ⟨⟨us,ws,hA,hB⟩,w⟩:=w
    obtain ⟨vs,h1,r1⟩:=g.list hA
    obtain ⟨zs,h2,r2⟩:=g.list hB
    refine ⟨⟨vs,zs,SqL.of h1,SqL.of h2⟩,k _ _ _ _ (.refl H) g (fun i A1 H1 r k1 g1 ⟨us,ws,hA,hB,e⟩=>?_) w⟩
    obtain ⟨vs,h1,r1⟩:=g1.list hA
    obtain ⟨zs,h2,r2⟩:=g1.list hB
    rw [Zfw] at e
    subst e
    cases hu:us[i]? with
    | none=>exact ⟨vs,zs,SqL.of h1,SqL.of h2,.inl (by rw [<- r1.length];exact Y7.mp hu)⟩
    | some u =>
     cases hw:ws[i]? with
     | none=>exact ⟨vs,zs,SqL.of h1,SqL.of h2,.inr (by rw [<- r2.length];exact Y7.mp hw)⟩
     | some w =>
      obtain ⟨v,hv,rv⟩:=r1.get' hu
      obtain ⟨z,hz,rz⟩:=r2.get' hw
      refine ⟨⟨vs,zs,v,z,SqL.of h1,SqL.of h2,hv,hz⟩,?_⟩
      rintro x H' ⟨T,x0,y0,rfl,hT,rfl,hx,hy⟩
      have e1:=hx vs (SqL.of h1)
      have e2:=hy zs (SqL.of h2)
      rw [hv] at e1;cases e1
      rw [hz] at e2;cases e2
      have s:=Same.upd_new (o:=.tup [v,z]) hT
      exact ⟨s.kp,g1.grow s,.tup (SqT.of Zae) (.cons (rv.same s.kp) (.one (rz.same s.kp)))⟩
 ·exact w.elim
noncomputable def jRevA (a:Addr) (n:Nat):AIt:=fun i A r=>(i=n/\r=none)\/(i < n/\∃ us u,A a=some (.lst us)/\us[n - 1 - i]? = some u/\r=some u)
noncomputable def aJrev (a:AE):AI:=fun ρ A R=>a ρ A fun x A1=>∃ p us,x=.ref p/\A1 p=some (.lst us)/\R (jRevA p us.length) A1
theorem ab_jrev {t:TE} {a:AE} (ha:AbE K t a):AbI K (jRev K t) (aJrev a):=fun ρ A σ H R' R hs g w k =>
 ha ρ A σ H _ _ hs g w fun x A1 v H1 k1 g1 r1 hq0=>by
  obtain ⟨p,us,e,hA,q1⟩:=hq0
  subst e;cases r1
  obtain ⟨vs,h1,r1⟩:=g1.list hA
  refine ⟨p,vs,rfl,SqL.of h1,?_⟩
  rw [<- r1.length]
  refine k _ _ _ _ k1 g1 (fun i A2 H2 r k2 g2 e=>?_) q1
  rcases e with ⟨rfl,rfl⟩ | ⟨hi,us2,u,hA2,hu,rfl⟩
  ·rfl
  ·obtain ⟨vs2,h2,r2⟩:=g2.list hA2
   obtain ⟨v,hv,rv⟩:=r2.get' hu
   refine ⟨⟨hi,vs2,v,SqL.of h2,hv⟩,?_⟩
   rintro x H' ⟨rfl,hx⟩
   have:=hx vs2 (SqL.of h2)
   rw [hv] at this;cases this
   exact ⟨.refl _,g2,rv⟩
noncomputable def aCompStart (nt:Nat) (frs:List (Str × Nat)) (ρ:ASt):ASt:=List.replicate nt none++frs.map fun p=>(ρ[p.2]?).join
theorem RSt.join {H:Hp}:∀ {ρ:ASt} {σ:St} (i:Nat) {ρ2:ASt} {σ2:St},RSt K H ρ σ->RSt K H ρ2 σ2->RSt K H ((ρ[i]?).join::ρ2) ((σ[i]?).join::σ2)
 | _,_,_,_,_,.nil,q=>by simpa using .skip q
 | _,_,0,_,_,.skip _,q=>by simpa using .skip q
 | _,_,i + 1,_,_,.skip r,q=>by simpa using RSt.join i r q
 | _,_,0,_,_,.cons h _,q=>by simpa using .cons h q
 | _,_,i + 1,_,_,.cons _ r,q=>by simpa using RSt.join i r q
theorem RSt.comp {H:Hp} {ρ:ASt} {σ:St} (h:RSt K H ρ σ) (nt:Nat) (frs:List (Str × Nat)):RSt K H (aCompStart nt frs ρ) (ZaR nt frs σ):=by
 unfold aCompStart ZaR
 induction nt with
 | zero =>
  simp only [List.replicate_zero,List.nil_append]
  induction frs with
  | nil=>exact .nil
  | cons p frs ih=>simp only [Yu];exact h.join p.2 ih
 | succ n ih=>simp only [List.replicate_succ,List.cons_append];exact .skip ih
noncomputable def aCL (J:AIt) (g:AG) (tt:AT) (te:AE) (l:Addr) (Q:AVK) (τ:ASt) (A:AHp):Prop:=∃ W:Nat->Nat->ASt->AHp->Prop,(∃ m,W 0 m τ A) /\
 ∀ i m τ A,W i m τ A->(J i A none/\Q (.ref l) A)\/∃ u,J i A (some u)/\g u τ A fun τ2 A2=>tt τ2 A2 fun ok A3 =>
  if ok=true then te τ2 A3 fun y A4=>∃ ys,A4 l=some (.lst ys)/\ys.length < sizeLine/\∃ m',m' < m/\W (i + 1) m' τ2 (updA A4 l (.lst (ys++[y]))) else ∃ m',m' < m/\W (i + 1) m' τ2 A3
noncomputable def aComp (nt:Nat) (frs:List (Str × Nat)) (wi:AI) (g:AG) (tt:AT) (te:AE):AE:=fun ρ A Q=>wi ρ A fun J A1=>∀ l,A1 l=none->aCL J g tt te l Q (aCompStart nt frs ρ) (updA A1 l (.lst []))
theorem Zak {nt:Nat} {frs:List (Str × Nat)} {wi:TI} {g:TG} {tt:TT} {te:TE} {ai:AI} {ag:AG} {at':AT} {ae:AE} (hi:AbI K wi ai) (hg:AbG K g ag) (ht:AbT K tt at') (he:AbE K te ae):AbE K (tComp nt frs wi g tt te) (aComp nt frs ai ag at' ae):=fun ρ A σ H Q' Q hs g0 w k=>by
 refine hi ρ A σ H _ _ hs g0 w fun aj A1 J H1 k1 g1 hj q=>?_
 intro l hl
 obtain ⟨W,⟨m0,w0⟩,turn⟩:=q l (g1.none hl)
 have kl:Kp K H1 (upd H1 l (.lst [])):=(Same.upd_new hl).kp
 refine ⟨fun i m τ H2=>∃ τ' A2,Kp K H1 H2/\HR K H2 A2/\RSt K H2 τ' τ/\W i m τ' A2,⟨m0,_,_,kl,g1.newL hl .nil,(hs.same (k1.trans kl)).comp nt frs,w0⟩,?_⟩
 rintro i m τ H2 ⟨τ',A2,k2,g2,s2,w2⟩
 have k12:=k1.trans k2
 rcases turn i m τ' A2 w2 with ⟨hstop,q⟩ | ⟨u,hgo,q⟩
 ·exact .inl ⟨hj i A2 H2 _ k2 g2 hstop,k _ _ _ _ k12 g2 (.ref l) q⟩
 ·obtain ⟨j1,j2⟩:=hj i A2 H2 _ k2 g2 hgo
  refine .inr ⟨j1,fun x H3 hy=>?_⟩
  obtain ⟨k3,g3,r3⟩:=j2 x H3 hy
  refine hg _ _ _ _ _ _ _ _ r3 (s2.same k3) g3 q fun ρ4 A4 σ4 H4 k4 g4 s4 q4=>ht ρ4 A4 σ4 H4 _ _ s4 g4 q4 fun b A5 H5 k5 g5 q5=>?_
  have k25:=k2.trans (k3.trans (k4.trans k5))
  cases b
  ·refine iteN (by decide) ?_
   obtain ⟨m',hm,w'⟩:=(by simpa using q5:∃ m',m' < m/\W (i + 1) m' ρ4 A5)
   exact ⟨m',hm,_,_,k25,g5,s4.same k5,w'⟩
  ·refine iteP rfl (he ρ4 A5 σ4 H5 _ _ (s4.same k5) g5 (by simpa using q5) fun y A6 v6 H6 k6 g6 r6 q6=>?_)
   obtain ⟨ys,hA,hz,m',hm,w'⟩:=q6
   obtain ⟨vs,h6,r7⟩:=g6.list hA
   exact ⟨vs,h6,by rw [<- r7.length];exact hz,m',hm,_,_,k25.trans (k6.trans (Kp.lst h6)),g6.setL h6 (r7.app (.one r6)),(s4.same (k5.trans (k6.trans (Kp.lst h6)))),w'⟩
end
section
variable {K:YFr}
noncomputable def xAdd:AR2:=fun u w A Q=>match u,w with
 | .int i,.int j=>Q (.int (i + j)) A
 | .str i,.str j=>i.length + j.length<=sizeLine/\Q (.str (i++j)) A
 | .tup xs,.tup ys=>xs.length + ys.length<=sizeLine/\Q (.tup (xs++ys)) A
 | .ref a,.ref b=>∃ xs ys,A a=some (.lst xs)/\A b=some (.lst ys)/\xs.length + ys.length<=sizeLine/\∀ p,A p=none->Q (.ref p) (updA A p (.lst (xs++ys)))
 | _,_=>False
theorem ZX:AbR K (uAddW K) xAdd:=fun x y u w A H Q' Q hu hw g h k=>by
 unfold xAdd at h
 split at h
 ·cases hu;cases hw;exact k _ _ _ _ (.refl H) g (.int _) h
 ·cases hu;cases hw;exact ⟨h.1,k _ _ _ _ (.refl H) g (.str _) h.2⟩
 ·cases hu with
  | tup h1 r1 =>
   cases hw with
   | tup h2 r2 =>
    refine .inr ⟨_,_,h1,h2,by rw [<- r1.length,<- r2.length];exact h.1,fun p H' s hp=>k _ _ _ _ s.kp (g.grow s) (.tup hp ((r1.app r2).same s.kp)) h.2⟩
 ·cases hu;cases hw
  obtain ⟨xs,ys,e1,e2,hz,q⟩:=h
  obtain ⟨vs,h1,r1⟩:=g.list e1
  obtain ⟨zs,h2,r2⟩:=g.list e2
  exact .inl ⟨vs,zs,SqL.of h1,SqL.of h2,by rw [<- r1.length,<- r2.length];exact hz,fun p hp=>k _ _ _ _ (Same.upd_new hp).kp (g.newL hp (r1.app r2)) (.ref p) (q p (g.none hp))⟩
 ·exact h.elim
noncomputable def xI2 (C:Int->Int->Prop) (f:Int->Int->U):AR2:=fun u w A Q=>match u,w with
 | .int i,.int j=>C i j/\Q (f i j) A
 | _,_=>False
noncomputable def xI (f:Int->Int->U):AR2:=fun u w A Q=>match u,w with
 | .int i,.int j=>Q (f i j) A
 | _,_=>False
theorem ZgA:AbR K uSub (xI fun i j=>.int (i - j)):=fun x y u w A H Q' Q hu hw g h k=>by
 unfold xI at h
 split at h
 ·cases hu;cases hw;exact k _ _ _ _ (.refl H) g (.int _) h
 ·exact h.elim
noncomputable def xMul:AR2:=fun u w A Q=>match u,w with
 | .int i,.int j=>IntMulOk i j/\Q (.int (i * j)) A
 | .ref a,.int m=>∃ xs,A a=some (.lst xs)/\-(2 ^ 63)<=m/\m < 2 ^ 63/\xs.length * m.toNat<=sizeLine/\∀ p,A p=none->Q (.ref p) (updA A p (.lst (List.replicate m.toNat xs).flatten))
 | _,_=>False
theorem RUs.flat {H:Hp} {us:List U} {vs:List V} (r:RUs K H us vs):∀ n,RUs K H (List.replicate n us).flatten (List.replicate n vs).flatten
 | 0=>.nil
 | n + 1=>by rw [List.replicate_succ,List.replicate_succ,List.flatten_cons,List.flatten_cons];exact r.app (r.flat n)
theorem Zde:AbR K uMulB xMul:=fun x y u w A H Q' Q hu hw g h k=>by
 unfold xMul at h
 split at h
 ·cases hu;cases hw;exact ⟨h.1,k _ _ _ _ (.refl H) g (.int _) h.2⟩
 ·cases hu;cases hw
  obtain ⟨xs,e1,b1,b2,hz,q⟩:=h
  obtain ⟨vs,h1,r1⟩:=g.list e1
  exact ⟨_,_,vs,rfl,rfl,h1,b1,b2,by rw [<- r1.length];exact hz,fun p hp=>k _ _ _ _ (Same.upd_new hp).kp (g.newL hp (r1.flat _)) (.ref p) (q p (g.none hp))⟩
 ·exact h.elim
theorem Zfj:AbR K uDiv (xI2 CDiv fun i j=>.int (i / j)):=fun x y u w A H Q' Q hu hw g h k=>by
 unfold xI2 at h
 split at h
 ·cases hu;cases hw;exact ⟨h.1,k _ _ _ _ (.refl H) g (.int _) h.2⟩
 ·exact h.elim
theorem Za4:AbR K uMod (xI2 (fun _ j=>0 < j) fun i j=>.int (i % j)):=fun x y u w A H Q' Q hu hw g h k=>by
 unfold xI2 at h
 split at h
 ·cases hu;cases hw;exact ⟨h.1,k _ _ _ _ (.refl H) g (.int _) h.2⟩
 ·exact h.elim
theorem Zgr:AbR K uPow (xI2 CPow fun i j=>.int (i ^ j.toNat)):=fun x y u w A H Q' Q hu hw g h k=>by
 unfold xI2 at h
 split at h
 ·cases hu;cases hw;exact ⟨h.1,k _ _ _ _ (.refl H) g (.int _) h.2⟩
 ·exact h.elim
noncomputable def xLt:AR2:=fun u w A Q=>match u,w with
 | .int i,.int j=>Q (.bl (decide (i < j))) A
 | .str i,.str j=>Q (.bl (decide (i.cps.toList < j.cps.toList))) A
 | _,_=>False
theorem ab_lt:AbR K uLt xLt:=fun x y u w A H Q' Q hu hw g h k=>by
 unfold xLt at h
 split at h
 ·cases hu;cases hw;exact k _ _ _ _ (.refl H) g (.bl _) h
 ·cases hu;cases hw;exact k _ _ _ _ (.refl H) g (.bl _) h
 ·exact h.elim
theorem ZfL:AbR K uGt (xI fun i j=>.bl (decide (j < i))):=fun x y u w A H Q' Q hu hw g h k=>by
 unfold xI at h
 split at h
 ·cases hu;cases hw;exact k _ _ _ _ (.refl H) g (.bl _) h
 ·exact h.elim
mutual
inductive DU (A:AHp):U->PyData->Prop
 | non:DU A .non .none
 | bl (b:Bool):DU A (.bl b) (.bool b)
 | int (i:Int):DU A (.int i) (.int i)
 | str (x:Str):DU A (.str x) (.str x)
 | tup {us:List U} {ds:List PyData}:DUs A us ds->DU A (.tup us) (.tuple ds)
 | rol {us:List U} {ds:List PyData}:DUs A us ds->DU A (.rol us) (.list ds)
 | lst {a:Addr} {us:List U} {ds:List PyData}:A a=some (.lst us)->DUs A us ds->DU A (.ref a) (.list ds)
inductive DUs (A:AHp):List U->List PyData->Prop
 | nil:DUs A [] []
 | cons {u:U} {d:PyData} {us:List U} {ds:List PyData}:DU A u d->DUs A us ds->DUs A (u::us) (d::ds)
end
mutual
theorem DU.rep {A:AHp} {H:Hp} (g:HR K H A):∀ {u:U} {v:V} {d:PyData},DU A u d->RU K H u v->Rep K H d v:=by
 intro u v d h r
 cases h with
 | non=>cases r;exact .non
 | bl b=>cases r;exact .bl b
 | int b=>cases r;exact .int b
 | str b=>cases r;exact .str b
 | tup q=>cases r with | tup h r=>exact .tup h (DUs.reps g q r)
 | rol q=>cases r with | rol h r=>exact .lst h.sq (DUs.reps g q r)
 | lst e q =>
  cases r
  obtain ⟨vs,h,r⟩:=g.list e
  exact .lst (SqL.of h) (DUs.reps g q r)
theorem DUs.reps {A:AHp} {H:Hp} (g:HR K H A):∀ {us:List U} {vs:List V} {ds:List PyData},DUs A us ds->RUs K H us vs->Reps K H ds vs
 | _,_,_,.nil,.nil=>.nil
 | _,_,_,.cons h r,.cons q s=>.cons (DU.rep g h q) (DUs.reps g r s)
end
noncomputable def ZbP (ne:Bool) (u w:U) (A:AHp) (Q:AVK):Prop:=∃ d e,DU A u d/\DU A w e/\d.canLay0=true/\e.canLay0=true/\d.depth<=190/\Q (.bl (if ne then !PyData.eqv d e else PyData.eqv d e)) A
noncomputable def xEq:AR2:=fun u w A Q=>match u,w with
 | .int i,.int j=>Q (.bl (decide (i=j))) A
 | .str i,.str j=>Q (.bl (decide (i=j))) A
 | .bl i,.bl j=>Q (.bl (decide (i=j))) A
 | .tup us,.tup ws=>ZbP false (.tup us) (.tup ws) A Q
 | .ref a,.ref b=>ZbP false (.ref a) (.ref b) A Q
 | .rol a,.ref b=>ZbP false (.rol a) (.ref b) A Q
 | .tup us,.non=>ZbP false (.tup us) .non A Q
 | .non,.tup us=>ZbP false .non (.tup us) A Q
 | .non,.non=>Q (.bl true) A
 | .non,.str _=>Q (.bl false) A
 | .str _,.non=>Q (.bl false) A
 | _,_=>False
theorem Zbr {x y:V} {u w:U} {A:AHp} {H:Hp} {Q':AVK} {Q:VK} {ne:Bool} (hu:RU K H u x) (hw:RU K H w y) (g:HR K H A) (h:ZbP ne u w A Q') (k:Aft K H Q' Q):rEqD K ne x y H Q:=by
 obtain ⟨d,e,h1,h2,c1,c2,dp,q⟩:=h
 exact ⟨d,e,h1.rep g hu,h2.rep g hw,c1,c2,dp,k _ _ _ _ (.refl H) g (.bl _) q⟩
theorem Zbg:AbR K (uEqD K) xEq:=fun x y u w A H Q' Q hu hw g h k=>by
 unfold xEq at h
 split at h
 ·cases hu;cases hw;exact k _ _ _ _ (.refl H) g (.bl _) h
 ·cases hu;cases hw;exact k _ _ _ _ (.refl H) g (.bl _) h
 ·cases hu;cases hw;exact k _ _ _ _ (.refl H) g (.bl _) h
 ·have:=Zbr hu hw g h k;cases hu;exact this
 ·have:=Zbr hu hw g h k;cases hu;exact this
 ·have:=Zbr hu hw g h k;cases hu;exact this
 ·have:=Zbr hu hw g h k;cases hu;exact this
 ·have:=Zbr hu hw g h k;cases hu;cases hw;exact this
 ·cases hu;cases hw;exact k _ _ _ _ (.refl H) g (.bl _) h
 ·cases hu;cases hw;exact k _ _ _ _ (.refl H) g (.bl _) h
 ·cases hu;cases hw;exact k _ _ _ _ (.refl H) g (.bl _) h
 ·exact h.elim
noncomputable def xNe:AR2:=fun u w A Q=>match u,w with
 | .int i,.int j=>Q (.bl (!decide (i=j))) A
 | .str i,.str j=>Q (.bl (!decide (i=j))) A
 | .bl i,.bl j=>Q (.bl (!decide (i=j))) A
 | .tup us,.tup ws=>ZbP true (.tup us) (.tup ws) A Q
 | .ref a,.ref b=>ZbP true (.ref a) (.ref b) A Q
 | .rol a,.ref b=>ZbP true (.rol a) (.ref b) A Q
 | .tup us,.non=>ZbP true (.tup us) .non A Q
 | .non,.tup us=>ZbP true .non (.tup us) A Q
 | .non,.non=>Q (.bl false) A
 | .non,.str _=>Q (.bl true) A
 | .str _,.non=>Q (.bl true) A
 | _,_=>False
theorem ab_ne:AbR K (uNeD K) xNe:=fun x y u w A H Q' Q hu hw g h k=>by
 unfold xNe at h
 split at h
 ·cases hu;cases hw;exact k _ _ _ _ (.refl H) g (.bl _) h
 ·cases hu;cases hw;exact k _ _ _ _ (.refl H) g (.bl _) h
 ·cases hu;cases hw;exact k _ _ _ _ (.refl H) g (.bl _) h
 ·have:=Zbr hu hw g h k;cases hu;exact this
 ·have:=Zbr hu hw g h k;cases hu;exact this
 ·have:=Zbr hu hw g h k;cases hu;exact this
 ·have:=Zbr hu hw g h k;cases hu;exact this
 ·have:=Zbr hu hw g h k;cases hu;cases hw;exact this
 ·cases hu;cases hw;exact k _ _ _ _ (.refl H) g (.bl _) h
 ·cases hu;cases hw;exact k _ _ _ _ (.refl H) g (.bl _) h
 ·cases hu;cases hw;exact k _ _ _ _ (.refl H) g (.bl _) h
 ·exact h.elim
noncomputable def U.flat:U->Bool
 | .non=>true
 | .bl _=>true
 | .int _=>true
 | .str _=>true
 | _=>false
noncomputable def U.toV:U->V
 | .bl b=>.bl b
 | .int i=>.int i
 | .str x=>.str x
 | _=>.non
theorem RU.flat {H:Hp} {u:U} {v:V} (h:RU K H u v) (f:u.flat=true):v=u.toV/\Zca v=true:=by
 cases h <;> first | exact ⟨rfl,rfl⟩ | cases f
theorem RUs.flats {H:Hp}:∀ {us:List U} {vs:List V},RUs K H us vs->us.all U.flat=true->vs=us.map U.toV/\vs.all Zca=true
 | _,_,.nil,_=>⟨rfl,rfl⟩
 | _, _,.cons h r,f=>by
  rw [List.all_cons,Yc] at f
  obtain ⟨e1,f1⟩:=h.flat f.1
  obtain ⟨e2,f2⟩:=RUs.flats r f.2
  exact ⟨by rw [Yu,e1,e2],by rw [List.all_cons,f1,f2];rfl⟩
noncomputable def inU (u:U) (us:List U):Bool:=inV u.toV (us.map U.toV)
noncomputable def xInB (neg:Bool):AR2:=fun u w A Q=>match w with
 | .str j=>∃ i,u=.str i/\Q (.bl (if neg then !occ j i else occ j i)) A
 | .tup us=>u.flat=true/\us.all U.flat=true/\Q (.bl (if neg then !inU u us else inU u us)) A
 | .rol us=>u.flat=true/\us.all U.flat=true/\Q (.bl (if neg then !inU u us else inU u us)) A
 | .ref a=>∃ us,A a=some (.lst us)/\u.flat=true/\us.all U.flat=true/\Q (.bl (if neg then !inU u us else inU u us)) A
 | _=>False
noncomputable abbrev xIn:=xInB false
theorem in_ref {x:V} {p:Addr} {H:Hp} {Q:VK} {xs:List V} (fx:Zca x=true) (h:∃ xs,Sq K H p xs/\Zca x=true/\xs.all Zca=true/\Q (.bl (inV x xs)) H):uIn K x (.ref p) H Q:=by
 cases x <;> exact h
theorem in_go {x:V} {u:U} {us:List U} {vs:List V} {p:Addr} {H:Hp} {A:AHp} {Q':AVK} {Q:VK} (hu:RU K H u x) (hs:Sq K H p vs) (r:RUs K H us vs) (g:HR K H A) (f:u.flat=true) (fs:us.all U.flat=true) (h:Q' (.bl (inU u us)) A) (k:Aft K H Q' Q):uIn K x (.ref p) H Q:=by
 obtain ⟨e1,f1⟩:=hu.flat f
 obtain ⟨e2,f2⟩:=r.flats fs
 refine in_ref (xs:=vs) f1 ⟨vs,hs,f1,f2,k _ _ _ _ (.refl H) g (.bl _) ?_⟩
 rw [e1,e2];exact h
theorem Zb3:AbR K (uIn K) xIn:=fun x y u w A H Q' Q hu hw g h k=>by
 unfold xIn xInB at h
 split at h
 ·obtain ⟨i,rfl,h⟩:=h
  cases hw;cases hu;exact k _ _ _ _ (.refl H) g (.bl _) h
 ·cases hw with
  | tup h1 r1=>exact in_go hu (.inr h1) r1 g h.1 h.2.1 h.2.2 k
 ·cases hw with
  | rol h1 r1=>exact in_go hu (.inl h1.sq) r1 g h.1 h.2.1 h.2.2 k
 ·cases hw
  obtain ⟨us,e,h⟩:=h
  obtain ⟨vs,h1,r1⟩:=g.list e
  exact in_go hu (.inl (SqL.of h1)) r1 g h.1 h.2.1 h.2.2 k
 ·exact h.elim
theorem RUs.at {H:Hp} {us:List U} {vs:List V} {i:Int} {u:U} (r:RUs K H us vs) (h:atI us i=some u):∃ v,atI vs i=some v/\RU K H u v:=by
 unfold atI at h ⊢
 rw [<- r.length]
 cases e:ixN us.length i with
 | none=>rw [e] at h;cases h
 | some j=>rw [e] at h;exact r.get' h
noncomputable def xIx:AR2:=fun u w A Q=>match u,w with
 | .str z,.int i=>z.length<=sizeLine/\∃ c,atI z.cps.toList i=some c/\Q (.str ⟨#[c]⟩) A
 | .tup us,.int i=>∃ x,atI us i=some x/\Q x A
 | .rol us,.int i=>∃ x,atI us i=some x/\Q x A
 | .ref a,.int i=>∃ us x,A a=some (.lst us)/\atI us i=some x/\Q x A
 | _,_=>False
theorem ZQ:AbR K (uIx K) xIx:=fun x y u w A H Q' Q hu hw g h k=>by
 unfold xIx at h
 split at h
 ·cases hu;cases hw
  obtain ⟨hz,c,e,h⟩:=h
  exact ⟨hz,c,e,k _ _ _ _ (.refl H) g (.str _) h⟩
 ·cases hw
  obtain ⟨x,e,h⟩:=h
  cases hu with
  | tup h1 r1 =>
   obtain ⟨v,e2,rv⟩:=r1.at e
   exact ⟨_,v,.inr h1,e2,k _ _ _ _ (.refl H) g rv h⟩
 ·cases hw
  obtain ⟨x,e,h⟩:=h
  cases hu with
  | rol h1 r1 =>
   obtain ⟨v,e2,rv⟩:=r1.at e
   exact ⟨_,v,.inl h1.sq,e2,k _ _ _ _ (.refl H) g rv h⟩
 ·cases hw;cases hu
  obtain ⟨us,x,e0,e,h⟩:=h
  obtain ⟨vs,h1,r1⟩:=g.list e0
  obtain ⟨v,e2,rv⟩:=r1.at e
  exact ⟨_,v,.inl (SqL.of h1),e2,k _ _ _ _ (.refl H) g rv h⟩
 ·exact h.elim
noncomputable def cutU (xs:List U) (lo hi:Option Int):List U:=(xs.drop (HT.sIx xs.length 0 lo)).take (HT.sIx xs.length xs.length hi - HT.sIx xs.length 0 lo)
theorem RUs.cut {H:Hp} {us:List U} {vs:List V} (r:RUs K H us vs) (lo hi:Option Int):RUs K H (cutU us lo hi) (cutV vs lo hi):=by
 unfold cutU cutV
 rw [r.length]
 exact (r.drop _).take _
noncomputable def xSl:U->Option Int->Option Int->AHp->AVK->Prop:=fun u lo hi A Q=>match u with
 | .str z=>z.length<=sizeLine/\Q (.str (cutS z lo hi)) A
 | .tup us=>Q (.tup (cutU us lo hi)) A
 | .rol us=>∀ p,A p=none->Q (.ref p) (updA A p (.lst (cutU us lo hi)))
 | .ref a=>∃ us,A a=some (.lst us)/\∀ p,A p=none->Q (.ref p) (updA A p (.lst (cutU us lo hi)))
 | _=>False
theorem Zah:AbSl K (uSlW K) xSl:=fun x u lo hi A H Q' Q hu g h k=>by
 unfold xSl at h
 split at h
 ·cases hu;exact ⟨h.1,k _ _ _ _ (.refl H) g (.str _) h.2⟩
 ·cases hu with
  | tup h1 r1=>exact .inr ⟨_,h1,fun p H' s hp=>k _ _ _ _ s.kp (g.grow s) (.tup hp ((r1.cut lo hi).same s.kp)) h⟩
 ·cases hu with
  | rol h1 r1=>exact .inl ⟨_,h1.sq,fun p hp=>k _ _ _ _ (Same.upd_new hp).kp (g.newL hp (r1.cut lo hi)) (.ref p) (h p (g.none hp))⟩
 ·cases hu
  obtain ⟨us,e,h⟩:=h
  obtain ⟨vs,h1,r1⟩:=g.list e
  exact .inl ⟨_,SqL.of h1,fun p hp=>k _ _ _ _ (Same.upd_new hp).kp (g.newL hp (r1.cut lo hi)) (.ref p) (h p (g.none hp))⟩
 ·exact h.elim
noncomputable def xLen:List U->AHp->AVK->Prop:=fun us A Q=>match us with
 | [.str z]=>z.length<=sizeLine/\Q (.int z.length) A
 | [.tup us]=>Q (.int us.length) A
 | [.rol us]=>Q (.int us.length) A
 | [.ref a]=>∃ us,A a=some (.lst us)/\Q (.int us.length) A
 | _=>False
theorem RUs.inv1 {H:Hp} {u:U} {vs:List V} (h:RUs K H [u] vs):∃ v,vs=[v]/\RU K H u v:=by
 cases h with
 | cons h r=>cases r;exact ⟨_,rfl,h⟩
theorem RUs.inv2 {H:Hp} {u w:U} {vs:List V} (h:RUs K H [u,w] vs):∃ v x,vs=[v,x]/\RU K H u v/\RU K H w x:=by
 cases h with
 | cons h r=>obtain ⟨x,rfl,r'⟩:=r.inv1;exact ⟨_,x,rfl,h,r'⟩
theorem ZaE:AbL K (uLen K) xLen:=fun xs us A H Q' Q r g h k=>by
 unfold xLen at h
 split at h
 ·obtain ⟨v,rfl,r'⟩:=r.inv1;cases r';exact ⟨h.1,k _ _ _ _ (.refl H) g (.int _) h.2⟩
 ·obtain ⟨v,rfl,r'⟩:=r.inv1
  cases r' with
  | tup h1 r1=>exact ⟨_,.inr h1,k _ _ _ _ (.refl H) g (.int _) (by rw [<- r1.length];exact h)⟩
 ·obtain ⟨v,rfl,r'⟩:=r.inv1
  cases r' with
  | rol h1 r1=>exact ⟨_,.inl h1.sq,k _ _ _ _ (.refl H) g (.int _) (by rw [<- r1.length];exact h)⟩
 ·obtain ⟨v,rfl,r'⟩:=r.inv1
  cases r'
  obtain ⟨us,e,h⟩:=h
  obtain ⟨vs,h1,r1⟩:=g.list e
  exact ⟨_,.inl (SqL.of h1),k _ _ _ _ (.refl H) g (.int _) (by rw [<- r1.length];exact h)⟩
 ·exact h.elim
noncomputable def xMin:List U->AHp->AVK->Prop:=fun us A Q=>match us with
 | [.int i,.int j]=>Q (.int (min i j)) A
 | [.ref a]=>∃ ns:List Int,A a=some (.lst (ns.map U.int))/\1<=ns.length/\∀ m,m∈ns->(∀ x∈ns,m<=x)->Q (.int m) A
 | _=>False
noncomputable def xMax:List U->AHp->AVK->Prop:=fun us A Q=>match us with
 | [.int i,.int j]=>Q (.int (max i j)) A
 | [.ref a]=>∃ ns:List Int,A a=some (.lst (ns.map U.int))/\1<=ns.length/\∀ m,m∈ns->(∀ x∈ns,x<=m)->Q (.int m) A
 | _=>False
theorem Zjs:AbL K (uMaxA K) xMax:=fun xs us A H Q' Q r g h k=>by
 unfold xMax at h
 split at h
 ·obtain ⟨v,x,rfl,r1,r2⟩:=r.inv2;cases r1;cases r2;exact k _ _ _ _ (.refl H) g (.int _) h
 ·obtain ⟨v,rfl,r'⟩:=r.inv1;cases r'
  obtain ⟨ns,e,hn,h⟩:=h
  obtain ⟨vs,h1,r1⟩:=g.list e
  exact ⟨ns,SqL.of (by rw [h1,r1.ints]),hn,fun m hm hx=>k _ _ _ _ (.refl H) g (.int _) (h m hm hx)⟩
 ·exact h.elim
noncomputable def xSum:List U->AHp->AVK->Prop:=fun us A Q=>match us with
 | [.ref a]=>∃ ns:List Int,A a=some (.lst (ns.map U.int))/\Q (.int ns.sum) A
 | _=>False
theorem ZcK:AbL K (uSum K) xSum:=fun xs us A H Q' Q r g h k=>by
 unfold xSum at h
 split at h
 ·obtain ⟨v,rfl,r'⟩:=r.inv1;cases r'
  obtain ⟨ns,e,h⟩:=h
  obtain ⟨vs,h1,r1⟩:=g.list e
  exact ⟨ns,SqL.of (by rw [h1,r1.ints]),k _ _ _ _ (.refl H) g (.int _) h⟩
 ·exact h.elim
noncomputable def Zc6:List U->AHp->AVK->Prop:=fun us A Q=>match us with
 | [.tup us]=>∀ p,A p=none->Q (.ref p) (updA A p (.lst us))
 | [.rol us]=>∀ p,A p=none->Q (.ref p) (updA A p (.lst us))
 | [.ref a]=>∃ us,A a=some (.lst us)/\∀ p,A p=none->Q (.ref p) (updA A p (.lst us))
 | _=>False
theorem Zfe:AbL K (ZfG K) Zc6:=fun xs us A H Q' Q r g h k=>by
 unfold Zc6 at h
 split at h
 ·obtain ⟨v,rfl,r'⟩:=r.inv1
  cases r' with
  | tup h1 r1=>exact ⟨_,.inr h1,fun p hp=>k _ _ _ _ (Same.upd_new hp).kp (g.newL hp r1) (.ref p) (h p (g.none hp))⟩
 ·obtain ⟨v,rfl,r'⟩:=r.inv1
  cases r' with
  | rol h1 r1=>exact ⟨_,.inl h1.sq,fun p hp=>k _ _ _ _ (Same.upd_new hp).kp (g.newL hp r1) (.ref p) (h p (g.none hp))⟩
 ·obtain ⟨v,rfl,r'⟩:=r.inv1
  cases r'
  obtain ⟨us,e,h⟩:=h
  obtain ⟨vs,h1,r1⟩:=g.list e
  exact ⟨_,.inl (SqL.of h1),fun p hp=>k _ _ _ _ (Same.upd_new hp).kp (g.newL hp r1) (.ref p) (h p (g.none hp))⟩
 ·exact h.elim
noncomputable def ZeW:List U->AHp->AVK->Prop:=fun us A Q=>match us with
 | [.tup us]=>Q (.tup us) A
 | [.rol us]=>Q (.tup us) A
 | [.ref a]=>∃ us,A a=some (.lst us)/\Q (.tup us) A
 | _=>False
theorem ZaL:AbL K (Zis K) ZeW:=fun xs us A H Q' Q r g h k=>by
 unfold ZeW at h
 split at h
 ·obtain ⟨v,rfl,r'⟩:=r.inv1
  cases r' with
  | tup h1 r1=>exact ⟨_,.inr ⟨h1,k _ _ _ _ (.refl H) g (.tup h1 r1) h⟩⟩
 ·obtain ⟨v,rfl,r'⟩:=r.inv1
  cases r' with
  | @rol _ zs _ h1 r1 =>
   refine ⟨_,.inl ⟨h1.sq,fun p hp=>?_⟩⟩
   have s:=Same.upd_new (o:=.tup zs) hp
   exact k _ _ _ _ s.kp (g.grow s) (.tup (SqT.of Zae) (r1.same s.kp)) h
 ·obtain ⟨v,rfl,r'⟩:=r.inv1
  cases r'
  obtain ⟨us,e,h⟩:=h
  obtain ⟨vs,h1,r1⟩:=g.list e
  refine ⟨_,.inl ⟨SqL.of h1,fun p hp=>?_⟩⟩
  have s:=Same.upd_new (o:=.tup vs) hp
  exact k _ _ _ _ s.kp (g.grow s) (.tup (SqT.of Zae) (r1.same s.kp)) h
 ·exact h.elim
theorem Zb2:AbU K (rU fun i=>.int (-i)) (fun u A Q=>∃ i,u=.int i/\Q (.int (-i)) A):=fun x u A H Q' Q r g hq0 k=>by
 obtain ⟨i,e,h⟩:=hq0
 subst e;cases r;exact ⟨i,rfl,k _ _ _ _ (.refl H) g (.int _) h⟩
noncomputable def isLst:U->AHp->Prop:=fun u A=>match u with
 | .ref a=>∃ us,A a=some (.lst us)
 | _=>False
theorem Za9:AbY K "list" isLst:=fun x u A H r g h=>by
 unfold isLst at h
 split at h
 ·cases r
  obtain ⟨us,e⟩:=h
  obtain ⟨vs,h1,r1⟩:=g.list e
  exact .inl ⟨rfl,vs,SqL.of h1⟩
 ·exact h.elim
noncomputable def isTupU:U->AHp->Prop:=fun u _=>match u with
 | .tup _=>True
 | _=>False
noncomputable def mApp:U->List U->AHp->AVK->Prop:=fun u us A Q=>match u,us with
 | .ref a,[w]=>∃ xs,A a=some (.lst xs)/\xs.length < sizeLine/\Q .non (updA A a (.lst (xs++[w])))
 | _,_=>False
theorem Zdb:AbMt K ZiQ mApp:=fun x u xs us A H Q' Q r rs g h k=>by
 unfold mApp at h
 split at h
 ·cases r
  obtain ⟨v,rfl,rv⟩:=rs.inv1
  obtain ⟨zs,e,hz,h⟩:=h
  obtain ⟨vs,h1,r1⟩:=g.list e
  exact ⟨_,vs,_,rfl,rfl,h1,by rw [<- r1.length];exact hz,k _ _ _ _ (Kp.lst h1) (g.setL h1 (r1.app (.one rv))) .non h⟩
 ·exact h.elim
noncomputable def mPop:U->List U->AHp->AVK->Prop:=fun u us A Q=>match u,us with
 | .ref a,[]=>∃ xs y,A a=some (.lst (xs++[y]))/\Q y (updA A a (.lst xs))
 | _,_=>False
theorem ab_mpop:AbMt K rPop mPop:=fun x u xs us A H Q' Q r rs g h k=>by
 unfold mPop at h
 split at h
 ·cases r;cases rs
  obtain ⟨zs,y,e,h⟩:=h
  obtain ⟨vs,h1,r1⟩:=g.list e
  have hl:=r1.length
  rw [Yh,List.length_singleton] at hl
  obtain ⟨v,hv,rv⟩:=r1.get' (i:=zs.length) (u:=y) (by simp)
  refine ⟨_,vs,v,rfl,rfl,h1,by rw [<- hl];exact hv,k _ _ _ _ (Kp.lst h1) (g.setL h1 ?_) (rv.same (Kp.lst h1)) h⟩
  have:=r1.dropLast
  rw [List.dropLast_concat] at this
  exact this
 ·exact h.elim
noncomputable def mExtT:U->List U->AHp->AVK->Prop:=fun u us A Q=>match u,us with
 | .ref a,[.tup ws]=>∃ xs,A a=some (.lst xs)/\xs.length + ws.length<=sizeLine/\Q .non (updA A a (.lst (xs++ws)))
 | _,_=>False
theorem ab_mextT:AbMt K (rExtT K) mExtT:=fun x u xs us A H Q' Q r rs g h k=>by
 unfold mExtT at h
 split at h
 ·cases r
  obtain ⟨v,rfl,rv⟩:=rs.inv1
  obtain ⟨zs,e,hz,h⟩:=h
  obtain ⟨vs,h1,r1⟩:=g.list e
  cases rv with
  | tup h2 r2=>exact ⟨_,_,vs,_,rfl,rfl,h1,h2,by rw [<- r1.length,<- r2.length];exact hz,k _ _ _ _ (Kp.lst h1) (g.setL h1 (r1.app r2)) .non h⟩
 ·exact h.elim
noncomputable def mExt:U->List U->AHp->AVK->Prop:=fun u us A Q=>match u,us with
 | .ref a,[.ref b]=>∃ xs ws,A a=some (.lst xs)/\A b=some (.lst ws)/\xs.length + ws.length<=sizeLine/\Q .non (updA A a (.lst (xs++ws)))
 | _,_=>False
theorem ab_mext:AbMt K Zf5 mExt:=fun x u xs us A H Q' Q r rs g h k=>by
 unfold mExt at h
 split at h
 ·cases r
  obtain ⟨v,rfl,rv⟩:=rs.inv1
  cases rv
  obtain ⟨zs,ws,e,e2,hz,h⟩:=h
  obtain ⟨vs,h1,r1⟩:=g.list e
  obtain ⟨ys,h2,r2⟩:=g.list e2
  exact ⟨_,_,vs,_,rfl,rfl,h1,h2,by rw [<- r1.length,<- r2.length];exact hz,k _ _ _ _ (Kp.lst h1) (g.setL h1 (r1.app r2)) .non h⟩
 ·exact h.elim
noncomputable def bSetL (o i:AE):AG:=fun u ρ A Q=>o ρ A fun x A1=>i ρ A1 fun y A2=>∃ a us m j,x=.ref a/\y=.int m/\A2 a=some (.lst us)/\ixN us.length m=some j/\Q ρ (updA A2 a (.lst (us.set j u)))
theorem ab_setl {to ti:TE} {ao ai:AE} (ho:AbE K to ao) (hi:AbE K ti ai):AbG K (gSub to ti rSetL) (bSetL ao ai):=fun u v ρ A σ H Q' Q r hs g w k =>
 ho ρ A σ H _ _ hs g w fun x A1 v1 H1 k1 g1 r1 q1=>hi ρ A1 σ H1 _ _ (hs.same k1) g1 q1 fun y A2 v2 H2 k2 g2 r2 hq0=>by
  obtain ⟨a,us,m,j,e1,e2,eA,ej,q⟩:=hq0
  subst e1 e2
  cases r1;cases r2
  obtain ⟨vs,h1,r1⟩:=g2.list eA
  refine ⟨_,vs,_,j,rfl,rfl,h1,by rw [<- r1.length];exact ej,k _ _ _ _ (k1.trans (k2.trans (Kp.lst h1))) (g2.setL h1 (r1.set (r.same (k1.trans k2)) j)) (hs.same (k1.trans (k2.trans (Kp.lst h1)))) q⟩
noncomputable def bTail (o:AE) (l:AP1):AG:=fun u ρ A Q=>o ρ A fun x A1=>l ρ A1 fun y A2=>∃ a b us ws i,x=.ref a/\u=.ref b/\y=some i/\A2 a=some (.lst us)/\A2 b=some (.lst ws)/\a≠b/\0<=i/\i<=us.length/\us.length + ws.length<=sizeLine/\Q ρ (updA A2 a (.lst (us.take i.toNat++ws)))
theorem ab_tail {to:TE} {tl:TO} {ao:AE} {al:AP1} (ho:AbE K to ao) (hl:AbP K tl al):AbG K (gTail to tl) (bTail ao al):=fun u v ρ A σ H Q' Q r hs g w k =>
 ho ρ A σ H _ _ hs g w fun x A1 v1 H1 k1 g1 r1 q1=>hl ρ A1 σ H1 _ _ (hs.same k1) g1 q1 fun y A2 H2 k2 g2 hq0=>by
  obtain ⟨a,b,us,ws,i,e1,e2,e3,eA,eB,hne,h0,hi,hz,q⟩:=hq0
  subst e1 e2 e3
  cases r1;cases r
  obtain ⟨vs,h1,r1⟩:=g2.list eA
  obtain ⟨ys,h2,r2⟩:=g2.list eB
  refine ⟨_,_,vs,ys,i,rfl,rfl,rfl,h1,h2,hne,h0,by rw [<- r1.length];exact hi,by rw [<- r1.length,<- r2.length];exact hz,k _ _ _ _ (k1.trans (k2.trans (Kp.lst h1))) (g2.setL h1 ((r1.take _).app r2)) (hs.same (k1.trans (k2.trans (Kp.lst h1)))) q⟩
end
theorem ZeS (x:U) (xs:List U):cutU (x::xs) (some 1) none=xs:=by
 unfold cutU
 have:HT.sIx (x::xs).length 0 (some 1)=1:=by
  have:=HT.sIx_nat (x::xs).length 0 1
  rw [show ((1:Nat):Int)=1 from rfl] at this
  rw [this,List.length_cons];lia
 rw [this,HT.sIx_none,List.drop_succ_cons,YaB,List.length_cons,Nat.add_sub_cancel,Yat]
section
variable {u:U} {ρ:ASt} {A:AHp} {Q:AVK} {a b:AE} {c d:AT} {B:Bool->AHp->Prop} {l:AA} {L:List U->AHp->Prop} {D:Zdi}
theorem ZgN :(aVar 0 (some u::ρ) A Q)=(Q u A):=rfl
theorem q_nm0 {a0:Option U} {g:ASt->AHp->Prop} :(ZbH 0 u (a0::ρ) A g)=(g (some u::ρ) A):=rfl
theorem q_get0 {k:U->Prop} :(aGet (some u::ρ) 0 k)=(k u):=rfl
theorem q_varS {i:Nat} {a0:Option U}:(aVar (i + 1) (a0::ρ) A Q)=(aVar i ρ A Q):=rfl
theorem q_nmS {i:Nat} {a0:Option U} {g:ASt->AHp->Prop}:(ZbH (i + 1) u (a0::ρ) A g)=(ZbH i u ρ A fun ρ2 A2=>g (a0::ρ2) A2):=rfl
theorem q_getS {i:Nat} {a0:Option U} {k:U->Prop}:(aGet (a0::ρ) (i + 1) k)=(aGet ρ i k):=rfl
theorem ZjC {a0:Option U} :(aVar 1 (a0::some u::ρ) A Q)=(Q u A):=rfl
theorem q_c :(aC u ρ A Q)=(Q u A):=rfl
theorem q_op {r:AR2}:(aOp r a b ρ A Q)=(a ρ A fun x A1=>b ρ A1 fun y A2=>r x y A2 Q):=rfl
theorem q_un {r:U->AHp->AVK->Prop}:(aUn r a ρ A Q)=(a ρ A fun x A1=>r x A1 Q):=rfl
theorem q_tb :(aB a ρ A B)=(a ρ A fun x A1=>∃ c,x=.bl c/\B c A1):=rfl
theorem q_bl {k:Bool} {F:Bool->Prop}:(∃ c,U.bl k=.bl c/\F c)=(F k):=by simp
theorem q_int {i:Int} {F:Int->Prop}:(∃ c,U.int i=.int c/\F c)=(F i):=by simp
theorem q_and :(aAnd c d ρ A B)=(c ρ A fun k A1=>if k=true then d ρ A1 B else B false A1):=rfl
theorem q_or :(aOr c d ρ A B)=(c ρ A fun k A1=>if k=true then B true A1 else d ρ A1 B):=rfl
theorem q_not :(aNot c ρ A B)=(c ρ A fun k A1=>B (!k) A1):=rfl
theorem q_andv :(aAndV a b ρ A Q)=(a ρ A fun x A1=>∃ k,x=.bl k/\if k=true then b ρ A1 Q else Q (.bl false) A1):=rfl
theorem q_notv :(aNotV a ρ A Q)=(a ρ A fun x A1=>∃ k,x=.bl k/\Q (.bl (!k)) A1):=rfl
theorem q_if :(aIf c a b ρ A Q)=(c ρ A fun k A1=>if k=true then a ρ A1 Q else b ρ A1 Q):=rfl
theorem q_true :(ZcA ρ A B)=(B true A):=rfl
theorem q_nil :(aNil ρ A L)=(L [] A):=rfl
theorem Zfc :(Zeo a l ρ A L)=(a ρ A fun x A1=>l ρ A1 fun xs A2=>L (x::xs) A2):=rfl
theorem q_const {us:List U}:(aConst us ρ A L)=(L us A):=rfl
theorem q_tup :(aTup l ρ A Q)=(l ρ A fun xs A1=>xs.length<=sizeLine/\Q (.tup xs) A1):=rfl
theorem q_lst :(aLst l ρ A Q)=(l ρ A fun xs A1=>xs.length<=sizeLine/\∀ p,A1 p=none->Q (.ref p) (updA A1 p (.lst xs))):=rfl
theorem q_cb {r:List U->AHp->AVK->Prop}:(aCB r l ρ A Q)=(l ρ A fun us A1=>r us A1 Q):=rfl
theorem Zip {sp:ASp}:(Zf4 sp l ρ A Q)=(l ρ A fun us A1=>sp us A1 Q):=rfl
theorem q_callV {sp:ASp} {f:Addr}:(aCallV f sp a l ρ A Q)=(a ρ A fun y A0=>y=.ref f/\l ρ A0 fun us A1=>sp us A1 Q):=rfl
theorem Zg5 {O:Option Int->AHp->Prop}:(Zcv ρ A O)=(O none A):=rfl
theorem q_part {O:Option Int->AHp->Prop}:(Zhr a ρ A O)=(a ρ A fun x A1=>∃ i,x=.int i/\O (some i) A1):=rfl
theorem q_sl {r:U->Option Int->Option Int->AHp->AVK->Prop} {lo hi:AP1}:(aSl r a lo hi ρ A Q)=(a ρ A fun x A1=>lo ρ A1 fun i A2=>hi ρ A2 fun j A3=>r x i j A3 Q):=rfl
theorem q_bm0 {y:U->AHp->Prop} {r:U->List U->AHp->AVK->Prop}:(aBM0 y r a ρ A Q)=(a ρ A fun x A1=>y x A1/\r x [] A1 Q):=rfl
theorem q_bm {y:U->AHp->Prop} {r:U->List U->AHp->AVK->Prop}:(aBM y r a l ρ A Q)=(a ρ A fun x A1=>y x A1/\l ρ A1 fun us A2=>r x us A2 Q):=rfl
theorem q_next :(aNext D ρ A)=(D.nx ρ A):=rfl
theorem q_seq {t t2:AS}:(aSeq t t2 D ρ A)=(t { D with nx:=t2 D } ρ A):=rfl
theorem q_drop :(aDrop a D ρ A)=(a ρ A fun _ A1=>D.nx ρ A1):=rfl
theorem q_ret :(aRet a D ρ A)=(a ρ A D.rt):=rfl
theorem q_ifs {t t2:AS}:(aIfS c t t2 D ρ A)=(c ρ A fun k A1=>if k=true then t D ρ A1 else t2 D ρ A1):=rfl
theorem q_asg {g:AG}:(aAsg a g D ρ A)=(a ρ A fun x A1=>g x ρ A1 D.nx):=rfl
theorem q_par {i j:Nat}:(aPar i j l D ρ A)=(l ρ A fun us A1=>∃ v w,us=[v,w]/\D.nx ((ρ.set i (some v)).set j (some w)) A1):=rfl
theorem q_two {v w:U} {F:U->U->Prop}:(∃ a b,[v,w]=[a,b]/\F a b)=(F v w):=propext ⟨fun hq0=>by obtain ⟨a,b,e,h⟩:=hq0;injection e with e1 e2;injection e2 with e2 _;subst e1 e2;exact h,fun h=>⟨_,_,rfl,h⟩⟩
theorem q_aug {i:Nat} {r:AR2}:(aAug i a r D ρ A)=(aGet ρ i fun x=>a ρ A fun y A1=>r x y A1 fun z A2=>D.nx (ρ.set i (some z)) A2):=rfl
theorem q_for {wi:AI} {g:AG} {t:AS}:(aFor wi g t D ρ A)=(wi ρ A fun J A1=>ZeF J g t D ρ A1):=rfl
theorem q_jof {y:U->AHp->(AIt->AHp->Prop)->Prop} {R:AIt->AHp->Prop}:(aJof y a ρ A R)=(a ρ A fun x A1=>y x A1 R):=rfl
theorem q_jargs {y:List U->AHp->(AIt->AHp->Prop)->Prop} {R:AIt->AHp->Prop}:(ZgW y l ρ A R)=(l ρ A fun us A1=>y us A1 R):=rfl
theorem q_ylr {R:AIt->AHp->Prop} {p:Addr}:(yList (.ref p) A R)=((∃ us,A p=some (.lst us))/\R (jLst p) A):=rfl
theorem q_ylo {R:AIt->AHp->Prop} {us:List U}:(yList (.rol us) A R)=(R (jFix us) A):=rfl
theorem q_yt {R:AIt->AHp->Prop} {us:List U}:(yTup (.tup us) A R)=(R (jFix us) A):=rfl
theorem q_yr1 {R:AIt->AHp->Prop} {j:Int}:(yRng1 [.int j] A R)=(-(2 ^ 62)<=j/\j < 2 ^ 62/\R (jFix (rngU 0 j.toNat)) A):=rfl
theorem q_yr2 {R:AIt->AHp->Prop} {i j:Int}:(yRng2 [.int i,.int j] A R)=((-(2 ^ 62)<=i/\i < 2 ^ 62/\-(2 ^ 62)<=j/\j < 2 ^ 62)/\R (jFix (rngU i (j - i).toNat)) A):=rfl
theorem q_yer {R:AIt->AHp->Prop} {p:Addr}:(yEnum [.ref p] A R)=((∃ us,A p=some (.lst us))/\R (jEnum p) A):=rfl
theorem q_yeo {R:AIt->AHp->Prop} {us:List U}:(yEnum [.rol us] A R)=(R (jFix (enU us)) A):=rfl
theorem q_yet {R:AIt->AHp->Prop} {us:List U}:(yEnumT [.tup us] A R)=(R (jFix (enU us)) A):=rfl
theorem q_yz {R:AIt->AHp->Prop} {p q:Addr}:(yZip [.ref p,.ref q] A R)=((∃ us ws,A p=some (.lst us)/\A q=some (.lst ws))/\R (jZip p q) A):=rfl
theorem q_jrev {R:AIt->AHp->Prop}:(aJrev a ρ A R)=(a ρ A fun x A1=>∃ p us,x=.ref p/\A1 p=some (.lst us)/\R (jRevA p us.length) A1):=rfl
theorem q_comp {nt:Nat} {frs:List (Str × Nat)} {wi:AI} {g:AG} {tt:AT} {te:AE}:(aComp nt frs wi g tt te ρ A Q)=(wi ρ A fun J A1=>∀ l,A1 l=none->aCL J g tt te l Q (aCompStart nt frs ρ) (updA A1 l (.lst []))):=rfl
theorem q_gtup {n:Nat} {t:AGs} {N:ASt->AHp->Prop} {us:List U}:(bTup n t (.tup us) ρ A N)=(us.length=n/\t us ρ A N):=propext ⟨fun hq0=>by obtain ⟨vs,e,h⟩:=hq0;cases e;exact h,fun h=>⟨_,rfl,h⟩⟩
theorem q_gcons {t:AG} {ts:AGs} {N:ASt->AHp->Prop} {us:List U}:(bCons t ts (u::us) ρ A N)=(t u ρ A fun ρ2 A2=>ts us ρ2 A2 N):=propext ⟨fun hq0=>by obtain ⟨v,r,e,h⟩:=hq0;cases e;exact h,fun h=>⟨_,_,rfl,h⟩⟩
theorem q_gnil {N:ASt->AHp->Prop}:(bNil [] ρ A N)=(N ρ A):=propext ⟨fun h=>h.2,fun h=>⟨rfl,h⟩⟩
theorem q_addi {i j:Int}:(xAdd (.int i) (.int j) A Q)=(Q (.int (i + j)) A):=rfl
theorem q_adds {x y:Str}:(xAdd (.str x) (.str y) A Q)=(x.length + y.length<=sizeLine/\Q (.str (x++y)) A):=rfl
theorem q_addt {us ws:List U}:(xAdd (.tup us) (.tup ws) A Q)=(us.length + ws.length<=sizeLine/\Q (.tup (us++ws)) A):=rfl
theorem q_addr {p q:Addr}:(xAdd (.ref p) (.ref q) A Q)=(∃ xs ys,A p=some (.lst xs)/\A q=some (.lst ys)/\xs.length + ys.length<=sizeLine/\∀ p,A p=none->Q (.ref p) (updA A p (.lst (xs++ys)))):=rfl
theorem q_xi {i j:Int} {f:Int->Int->U}:(xI f (.int i) (.int j) A Q)=(Q (f i j) A):=rfl
theorem q_xi2 {i j:Int} {f:Int->Int->U} {C:Int->Int->Prop}:(xI2 C f (.int i) (.int j) A Q)=(C i j/\Q (f i j) A):=rfl
theorem q_mul {i j:Int}:(xMul (.int i) (.int j) A Q)=(IntMulOk i j/\Q (.int (i * j)) A):=rfl
theorem q_rep {p:Addr} {m:Int}:(xMul (.ref p) (.int m) A Q)=(∃ xs,A p=some (.lst xs)/\-(2 ^ 63)<=m/\m < 2 ^ 63/\xs.length * m.toNat<=sizeLine/\∀ p,A p=none->Q (.ref p) (updA A p (.lst (List.replicate m.toNat xs).flatten))):=rfl
theorem q_lti {i j:Int}:(xLt (.int i) (.int j) A Q)=(Q (.bl (decide (i < j))) A):=rfl
theorem q_eqi {i j:Int}:(xEq (.int i) (.int j) A Q)=(Q (.bl (decide (i=j))) A):=rfl
theorem q_eqs {x y:Str}:(xEq (.str x) (.str y) A Q)=(Q (.bl (decide (x=y))) A):=rfl
theorem q_eqb {k m:Bool}:(xEq (.bl k) (.bl m) A Q)=(Q (.bl (decide (k=m))) A):=rfl
theorem q_eqt {us ws:List U}:(xEq (.tup us) (.tup ws) A Q)=(ZbP false (.tup us) (.tup ws) A Q):=rfl
theorem q_eqr {p q:Addr}:(xEq (.ref p) (.ref q) A Q)=(ZbP false (.ref p) (.ref q) A Q):=rfl
theorem q_nei {i j:Int}:(xNe (.int i) (.int j) A Q)=(Q (.bl (!decide (i=j))) A):=rfl
theorem q_nes {x y:Str}:(xNe (.str x) (.str y) A Q)=(Q (.bl (!decide (x=y))) A):=rfl
theorem q_neb {k m:Bool}:(xNe (.bl k) (.bl m) A Q)=(Q (.bl (!decide (k=m))) A):=rfl
theorem q_net {us ws:List U}:(xNe (.tup us) (.tup ws) A Q)=(ZbP true (.tup us) (.tup ws) A Q):=rfl
theorem q_ner {p q:Addr}:(xNe (.ref p) (.ref q) A Q)=(ZbP true (.ref p) (.ref q) A Q):=rfl
theorem q_int_ {us:List U}:(xInB false u (.tup us) A Q)=(u.flat=true/\us.all U.flat=true/\Q (.bl (inU u us)) A):=rfl
theorem q_inr_ {p:Addr}:(xInB false u (.ref p) A Q)=(∃ us,A p=some (.lst us)/\u.flat=true/\us.all U.flat=true/\Q (.bl (inU u us)) A):=rfl
theorem q_ins_ {x y:Str}:(xInB false (.str x) (.str y) A Q)=(Q (.bl (occ y x)) A):=propext ⟨fun hq0=>by obtain ⟨i,e,h⟩:=hq0;cases e;exact h,fun h=>⟨_,rfl,h⟩⟩
theorem q_ixs {z:Str} {i:Int}:(xIx (.str z) (.int i) A Q)=(z.length<=sizeLine/\∃ c,atI z.cps.toList i=some c/\Q (.str ⟨#[c]⟩) A):=rfl
theorem q_ix0 {us:List U}:(xIx (.tup (u::us)) (.int 0) A Q)=(Q u A):=propext ⟨fun hq0=>by obtain ⟨x,e,h⟩:=hq0;rw [show atI (u::us) 0=some u from Zau (j:=0) rfl] at e;cases e;exact h,fun h=>⟨_,Zau (j:=0) rfl,h⟩⟩
theorem q_ix1 {w:U} {us:List U}:(xIx (.tup (u::w::us)) (.int 1) A Q)=(Q w A):=propext ⟨fun hq0=>by obtain ⟨x,e,h⟩:=hq0;rw [show atI (u::w::us) 1=some w from Zau (j:=1) rfl] at e;cases e;exact h,fun h=>⟨_,Zau (j:=1) rfl,h⟩⟩
theorem q_ix2 {w x:U} {us:List U}:(xIx (.tup (u::w::x::us)) (.int 2) A Q)=(Q x A):=propext ⟨fun hq0=>by obtain ⟨z,e,h⟩:=hq0;rw [show atI (u::w::x::us) 2=some x from Zau (j:=2) rfl] at e;cases e;exact h,fun h=>⟨_,Zau (j:=2) rfl,h⟩⟩
theorem q_ixt {us:List U} {i:Int}:(xIx (.tup us) (.int i) A Q)=(∃ x,atI us i=some x/\Q x A):=rfl
theorem q_ixo {us:List U} {i:Int}:(xIx (.rol us) (.int i) A Q)=(∃ x,atI us i=some x/\Q x A):=rfl
theorem q_ixr {p:Addr} {i:Int}:(xIx (.ref p) (.int i) A Q)=(∃ us x,A p=some (.lst us)/\atI us i=some x/\Q x A):=rfl
theorem q_sls {lo hi:Option Int} {z:Str}:(xSl (.str z) lo hi A Q)=(z.length<=sizeLine/\Q (.str (cutS z lo hi)) A):=rfl
theorem q_slt1 {us:List U}:(xSl (.tup (u::us)) (some 1) none A Q)=(Q (.tup us) A):=by show Q (.tup (cutU (u::us) (some 1) none)) A=_;rw [ZeS]
theorem q_slt {lo hi:Option Int} {us:List U}:(xSl (.tup us) lo hi A Q)=(Q (.tup (cutU us lo hi)) A):=rfl
theorem q_slo {lo hi:Option Int} {us:List U}:(xSl (.rol us) lo hi A Q)=(∀ p,A p=none->Q (.ref p) (updA A p (.lst (cutU us lo hi)))):=rfl
theorem q_slr {lo hi:Option Int} {p:Addr}:(xSl (.ref p) lo hi A Q)=(∃ us,A p=some (.lst us)/\∀ p,A p=none->Q (.ref p) (updA A p (.lst (cutU us lo hi)))):=rfl
theorem q_lens {z:Str}:(xLen [.str z] A Q)=(z.length<=sizeLine/\Q (.int z.length) A):=rfl
theorem q_lent {us:List U}:(xLen [.tup us] A Q)=(Q (.int us.length) A):=rfl
theorem q_leno {us:List U}:(xLen [.rol us] A Q)=(Q (.int us.length) A):=rfl
theorem q_lenr {p:Addr}:(xLen [.ref p] A Q)=(∃ us,A p=some (.lst us)/\Q (.int us.length) A):=rfl
theorem q_min2 {i j:Int}:(xMin [.int i,.int j] A Q)=(Q (.int (min i j)) A):=rfl
theorem q_max2 {i j:Int}:(xMax [.int i,.int j] A Q)=(Q (.int (max i j)) A):=rfl
theorem q_maxl {p:Addr}:(xMax [.ref p] A Q)=(∃ ns:List Int,A p=some (.lst (ns.map U.int))/\1<=ns.length/\∀ m,m∈ns->(∀ x∈ns,x<=m)->Q (.int m) A):=rfl
theorem q_sum {p:Addr}:(xSum [.ref p] A Q)=(∃ ns:List Int,A p=some (.lst (ns.map U.int))/\Q (.int ns.sum) A):=rfl
theorem q_lot {us:List U}:(Zc6 [.tup us] A Q)=(∀ p,A p=none->Q (.ref p) (updA A p (.lst us))):=rfl
theorem q_loo {us:List U}:(Zc6 [.rol us] A Q)=(∀ p,A p=none->Q (.ref p) (updA A p (.lst us))):=rfl
theorem q_lor {p:Addr}:(Zc6 [.ref p] A Q)=(∃ us,A p=some (.lst us)/\∀ p,A p=none->Q (.ref p) (updA A p (.lst us))):=rfl
theorem q_tot {us:List U}:(ZeW [.tup us] A Q)=(Q (.tup us) A):=rfl
theorem q_tor {p:Addr}:(ZeW [.ref p] A Q)=(∃ us,A p=some (.lst us)/\Q (.tup us) A):=rfl
theorem q_isl {p:Addr}:(isLst (.ref p) A)=(∃ us,A p=some (.lst us)):=rfl
theorem q_ist {us:List U}:(isTupU (.tup us) A)=(True):=rfl
theorem q_app {p:Addr}:(mApp (.ref p) [u] A Q)=(∃ xs,A p=some (.lst xs)/\xs.length < sizeLine/\Q .non (updA A p (.lst (xs++[u])))):=rfl
theorem q_pop {p:Addr}:(mPop (.ref p) [] A Q)=(∃ xs y,A p=some (.lst (xs++[y]))/\Q y (updA A p (.lst xs))):=rfl
theorem q_extT {p:Addr} {us:List U}:(mExtT (.ref p) [.tup us] A Q)=(∃ xs,A p=some (.lst xs)/\xs.length + us.length<=sizeLine/\Q .non (updA A p (.lst (xs++us)))):=rfl
theorem q_ext {p q:Addr}:(mExt (.ref p) [.ref q] A Q)=(∃ xs ws,A p=some (.lst xs)/\A q=some (.lst ws)/\xs.length + ws.length<=sizeLine/\Q .non (updA A p (.lst (xs++ws)))):=rfl
theorem q_setl {N:ASt->AHp->Prop} {o i:AE}:(bSetL o i u ρ A N)=(o ρ A fun x A1=>i ρ A1 fun y A2=>∃ a us m j,x=.ref a/\y=.int m/\A2 a=some (.lst us)/\ixN us.length m=some j/\N ρ (updA A2 a (.lst (us.set j u)))):=rfl
theorem q_tail {N:ASt->AHp->Prop} {o:AE} {lo:AP1}:(bTail o lo u ρ A N)=(o ρ A fun x A1=>lo ρ A1 fun y A2=>∃ a b us ws i,x=.ref a/\u=.ref b/\y=some i/\A2 a=some (.lst us)/\A2 b=some (.lst ws)/\a≠b/\0<=i/\i<=us.length/\us.length + ws.length<=sizeLine/\N ρ (updA A2 a (.lst (us.take i.toNat++ws)))):=rfl
theorem q_neg {i:Int}:((fun (u:U) (A:AHp) (Q:AVK)=>∃ i,u=.int i/\Q (.int (-i)) A) (.int i) A Q)=(Q (.int (-i)) A):=by simp
end
noncomputable def Ext (A A':AHp):Prop:=∀ a o,A a=some o->A' a=some o
theorem Ext.refl (A:AHp):Ext A A:=fun _ _ h=>h
theorem Ext.trans {A B C:AHp} (h:Ext A B) (k:Ext B C):Ext A C:=fun a o e=>k a o (h a o e)
theorem Ext.new {A:AHp} {l:Addr} {o:AO} (h:A l=none):Ext A (updA A l o):=fun b u e=>by
 rw [Zm (fun z=>by rw [z,h] at e;cases e)];exact e
theorem HR.ext {K:YFr} {H:Hp} {A A':AHp} (e:Ext A A') (h:HR K H A'):HR K H A:=fun a o q=>h a o (e a o q)
noncomputable def Fg (Q:AVK):AVK:=fun u A=>∃ A',Ext A' A/\Q u A'
noncomputable def aStart (N:List Str) (us:List U):ASt:=us.map some++List.replicate (N.length - us.length) none
section
variable {P:Program} {w:World} {K:YFr} {mg:Str->Option Value} {base:Heap}
theorem RSt.nones {H:Hp}:∀ n,RSt K H (List.replicate n none) (List.replicate n none)
 | 0=>.nil
 | n + 1=>.skip (RSt.nones n)
theorem RSt.start {H:Hp} (N:List Str) {us:List U} {vs:List V} (r:RUs K H us vs):RSt K H (aStart N us) (L2.start N vs):=by
 unfold aStart L2.start
 rw [r.length]
 generalize N.length - vs.length=n
 induction us generalizing vs with
 | nil=>cases r;exact RSt.nones n
 | cons u us ih =>
  cases r with
  | cons h r=>exact .cons h (ih r)
theorem Fun.okA {x qual:Str} {st:Stmt} {f:Addr} {fd:FuncData} {N ps:List Str} {k:Nat} {asp:ASp} {sc:Scope} {body:List Stmt} {as:AS} (F:Fun K x qual st f fd) (hs:defScope st=sc) (hb:defBody st=body) (S:ZA N ps (defScope st))
  (hbody:ZA N ps sc->∀ (cdv:Value) (A:Around) (outer:List Env) (s:Shared) (H:Hp) (E:XK),Room k (A.deeper (envOfC qual sc s.heap.objs.size f cdv)) ->
   ∃ t,PSs (cxOf CX0 P w K mg base N qual sc f cdv A outer s H E).nox body t/\AbS K t as)
  (hsp:∀ us A Q,asp us A Q->us.length=ps.length/\as { nx:=fun _ A'=>Fg Q .non A',rt:=Fg Q } (aStart N us) A):FnOk P w K mg base CX0 (k + 1) f fd ps (spOf K asp):=by
 refine F.ok2 hs hb S (fun vs H Q E ⟨us,A,Q',r,g,h,_⟩=>?_) fun S cdv A outer s H vs Q E hr ⟨us,A',Q',r,g,h,k⟩=>?_
 ·rw [<- r.length];exact (hsp us A Q' h).1
 ·obtain ⟨t,ht,ha⟩:=hbody S cdv A outer s H E hr
  exact ⟨t,ht,ha _ _ _ _ _ _ (RSt.start N r) g (hsp us A' Q' h).2 ⟨fun ρ A σ H' k' g' s' ⟨A3,e,q'⟩=>k _ _ _ _ k' (g'.ext e) .non q',fun u A v H' k' g' r' ⟨A3,e,q'⟩=>k _ _ _ _ k' (g'.ext e) r' q',fun _ _ _ _ _ _ _ q=>q.elim,fun _ _ _ _ _ _ _ q=>q.elim⟩⟩
end
noncomputable def truU:U->AHp->(Bool->AHp->Prop)->Prop:=fun x A1 Q=>match x with
 | .ref p=>∃ us,A1 p=some (.lst us)/\Q (!us.isEmpty) A1
 | .tup us=>Q (!us.isEmpty) A1
 | .bl b=>Q b A1
 | .int i=>Q (i != 0) A1
 | .non=>Q false A1
 | _=>False
noncomputable def aTru (a:AE):AT:=fun ρ A Q=>a ρ A fun x A1=>truU x A1 Q
theorem RUs.empty {K:YFr} {H:Hp} {us:List U} {vs:List V} (r:RUs K H us vs):vs.isEmpty=us.isEmpty:=by cases r <;> rfl
theorem ab_tru {K:YFr} {t:TE} {a:AE} (ha:AbE K t a):AbT K (fun σ H Q=>t σ H fun x H'=>∃ k,TruV K x H' k/\Q k H') (aTru a):=fun ρ A σ H Q' Q hs g w k =>
 ha ρ A σ H _ _ hs g w fun x A1 v H1 k1 g1 r1 q1=>by
  cases r1 with
  | ref p =>
   obtain ⟨us,e,q1⟩:=q1
   obtain ⟨vs,h1,r1⟩:=g1.list e
   exact ⟨_,.inl ⟨vs,SqL.of h1,rfl⟩,k _ _ _ k1 g1 (by rw [r1.empty];exact q1)⟩
  | tup h r=>exact ⟨_,.inr (.inl ⟨_,h,rfl⟩),k _ _ _ k1 g1 (by rw [r.empty];exact q1)⟩
  | bl b=>exact ⟨b,rfl,k _ _ _ k1 g1 q1⟩
  | int i=>exact ⟨_,rfl,k _ _ _ k1 g1 q1⟩
  | non=>exact ⟨_,rfl,k _ _ _ k1 g1 q1⟩
  | _=>exact q1.elim
theorem q_tru {a:AE} {ρ:ASt} {A:AHp} {B:Bool->AHp->Prop}:(aTru a ρ A B)=(a ρ A fun x A1=>truU x A1 B):=rfl
theorem q_trul {A:AHp} {B:Bool->AHp->Prop} {p:Addr}:(truU (.ref p) A B)=(∃ us,A p=some (.lst us)/\B (!us.isEmpty) A):=rfl
theorem q_trut {A:AHp} {B:Bool->AHp->Prop} {us:List U}:(truU (.tup us) A B)=(B (!us.isEmpty) A):=rfl
theorem q_trub {A:AHp} {B:Bool->AHp->Prop} {k:Bool}:(truU (.bl k) A B)=(B k A):=rfl
section
variable {J:AIt} {g:AG} {b:AS} {D:Zdi} {ρ:ASt} {A:AHp}
theorem ZfH (items:List U) (Pv:Nat->ASt->AHp->Prop) (h0:Pv 0 ρ A) (hJ:∀ k ρ A,k<=items.length->Pv k ρ A->J k A items[k]?)
  (hs:∀ k u ρ A,items[k]? = some u->Pv k ρ A->g u ρ A fun ρ2 A2=>b { D with nx:=Pv (k + 1),ct:=Pv (k + 1),bk:=D.nx } ρ2 A2) (hd:∀ ρ A,Pv items.length ρ A->D.nx ρ A):ZeF J g b D ρ A:=by
 refine ⟨fun k m ρ A=>m=items.length - k/\k<=items.length/\Pv k ρ A,⟨_,rfl,YX _,h0⟩,?_⟩
 rintro k m ρ A ⟨rfl,hk,p⟩
 have j:=hJ k ρ A hk p
 by_cases hlt:k < items.length
 ·rw [Ye hlt] at j
  exact .inr ⟨_,j,Pv (k + 1),fun ρ' A' p'=>⟨items.length - (k + 1),by lia,rfl,hlt,p'⟩,hs k _ ρ A (Ye hlt) p⟩
 ·have e:k=items.length:=by lia
  subst e
  rw [YT (Yg _)] at j
  exact .inl ⟨j,hd ρ A p⟩
theorem ZfQ {us:List U} (Pv:Nat->ASt->AHp->Prop) (h0:Pv 0 ρ A)
  (hs:∀ k u ρ A,us[k]? = some u->Pv k ρ A->g u ρ A fun ρ2 A2=>b { D with nx:=Pv (k + 1),ct:=Pv (k + 1),bk:=D.nx } ρ2 A2) (hd:∀ ρ A,Pv us.length ρ A->D.nx ρ A):ZeF (jFix us) g b D ρ A :=
 ZfH us Pv h0 (fun _ _ _ _ _=>rfl) hs hd
theorem Zeq {a:Addr} (us:List U) (Pv:Nat->ASt->AHp->Prop) (h0:Pv 0 ρ A) (hl:∀ k ρ A,k<=us.length->Pv k ρ A->A a=some (.lst us))
  (hs:∀ k u ρ A,us[k]? = some u->Pv k ρ A->g u ρ A fun ρ2 A2=>b { D with nx:=Pv (k + 1),ct:=Pv (k + 1),bk:=D.nx } ρ2 A2) (hd:∀ ρ A,Pv us.length ρ A->D.nx ρ A):ZeF (jLst a) g b D ρ A :=
 ZfH us Pv h0 (fun k ρ A hk p=>⟨us,hl k ρ A hk p,rfl⟩) hs hd
theorem Zii {us:List U} (Pv:Nat->ASt->AHp->Prop) (h0:Pv 0 ρ A)
  (hs:∀ (k:Nat) u ρ A,us[k]? = some u->Pv k ρ A->g (.tup [.int k,u]) ρ A fun ρ2 A2=>b { D with nx:=Pv (k + 1),ct:=Pv (k + 1),bk:=D.nx } ρ2 A2) (hd:∀ ρ A,Pv us.length ρ A->D.nx ρ A):ZeF (jFix (enU us)) g b D ρ A :=
 ZfH (enU us) Pv h0 (fun k ρ A hk p=>rfl) (fun k u ρ A hu p=>by
  rw [Zjy] at hu
  obtain ⟨x,hx,rfl⟩:=Yak.mp hu
  exact hs k x ρ A hx p) (by rw [enU_len];exact hd)
theorem Zfv {lo:Int} {n:Nat} (Pv:Nat->ASt->AHp->Prop) (h0:Pv 0 ρ A)
  (hs:∀ (k:Nat) ρ A,k < n->Pv k ρ A->g (.int (lo + k)) ρ A fun ρ2 A2=>b { D with nx:=Pv (k + 1),ct:=Pv (k + 1),bk:=D.nx } ρ2 A2) (hd:∀ ρ A,Pv n ρ A->D.nx ρ A):ZeF (jFix (rngU lo n)) g b D ρ A :=
 ZfH (rngU lo n) Pv h0 (fun k ρ A hk p=>rfl) (fun k u ρ A hu p=>by
  rw [ZbD] at hu
  by_cases h:k < n
  ·rw [if_pos h] at hu;cases hu;exact hs k ρ A h p
  ·rw [if_neg h] at hu;cases hu) (by rw [rngU_len];exact hd)
theorem for_revA {a:Addr} (us:List U) (Pv:Nat->ASt->AHp->Prop) (h0:Pv 0 ρ A) (hl:∀ k ρ A,k<=us.length->Pv k ρ A->A a=some (.lst us))
  (hs:∀ k u ρ A,us.reverse[k]? = some u->Pv k ρ A->g u ρ A fun ρ2 A2=>b { D with nx:=Pv (k + 1),ct:=Pv (k + 1),bk:=D.nx } ρ2 A2) (hd:∀ ρ A,Pv us.length ρ A->D.nx ρ A):ZeF (jRevA a us.length) g b D ρ A :=
 ZfH us.reverse Pv h0 (fun k ρ A hk p=>by
  rw [Yaq] at hk
  by_cases h:k < us.length
  ·rw [Ybt h]
   exact .inr ⟨h,us,us[us.length - 1 - k]'(by lia),hl k ρ A hk p,Ye (by lia),Ye (by lia)⟩
  ·have e:k=us.length:=by lia
   subst e
   exact .inl ⟨rfl,YT (by simp)⟩) hs (by rw [Yaq];exact hd)
noncomputable def whA (Pv:ASt->AHp->Prop) (μ:ASt->AHp->Nat) (b:AS) (D:Zdi) (k:Nat) (ρ:ASt) (A1:AHp):Prop:=∃ N:ASt->AHp->Prop,(∀ ρ' A',N ρ' A'->∃ m',m' < k/\(m'=μ ρ' A'/\Pv ρ' A'))/\b { D with nx:=N,ct:=N,bk:=D.nx } ρ A1
theorem wh_goA {Pv:ASt->AHp->Prop} {μ:ASt->AHp->Nat} {k:Nat} (h:b { D with nx:=fun ρ' A'=>Pv ρ' A'/\μ ρ' A' < k,ct:=fun ρ' A'=>Pv ρ' A'/\μ ρ' A' < k,bk:=D.nx } ρ A):whA Pv μ b D k ρ A :=
 ⟨_,fun ρ' A' ⟨p,l⟩=>⟨_,l,rfl,p⟩,h⟩
theorem while_A {c:AT} (Pv:ASt->AHp->Prop) (μ:ASt->AHp->Nat) (h0:Pv ρ A)
  (hs:∀ ρ A,Pv ρ A->c ρ A fun k A1=>if k=true then whA Pv μ b D (μ ρ A) ρ A1 else D.nx ρ A1):aWhile c b D ρ A:=by
 refine ⟨fun m ρ A=>m=μ ρ A/\Pv ρ A,⟨_,rfl,h0⟩,?_⟩
 rintro m ρ A ⟨rfl,p⟩
 exact hs ρ A p
end
theorem neA {A:AHp} {a b:Addr} {o:AO} (h:A a=some o) (h':A b=none):a≠b:=fun e=>by rw [e,h'] at h;cases h
section
variable {J:AIt} {g:AG} {tt:AT} {te:AE} {l:Addr} {Q:AVK} {τ:ASt} {A:AHp}
theorem cl_gen (items:List U) (p:Nat->Bool) (f:Nat->U) (T:ASt->Prop) (h0:T τ) (hl:A l=none) (hn:items.length<=100000) (hJ:∀ k A2,k<=items.length->Ext A A2->J k A2 items[k]?)
  (hs : ∀ k u τ A2,items[k]? = some u->T τ->Ext A A2->∀ (Cy:ASt->U->AHp->Prop) (Cn:ASt->AHp->Prop),(p k=true->∀ τ2,T τ2->Cy τ2 (f k) A2)->(p k=false->∀ τ2,T τ2->Cn τ2 A2) ->
   g u τ A2 fun τ2 A3=>tt τ2 A3 fun ok A4=>if ok=true then te τ2 A4 (Cy τ2) else Cn τ2 A4)
  (hd:Q (.ref l) (updA A l (.lst (((List.range items.length).filter p).map f)))):aCL J g tt te l Q τ (updA A l (.lst [])):=by
 refine ⟨fun i m τ A2=>m=items.length - i/\i<=items.length/\T τ/\A2=updA A l (.lst (((List.range i).filter p).map f)),⟨_,rfl,YX _,h0,rfl⟩,?_⟩
 rintro i m τ A2 ⟨rfl,hi,ht,rfl⟩
 have j:=hJ i _ hi (Ext.new (o:=.lst (((List.range i).filter p).map f)) hl)
 by_cases hlt:i < items.length
 ·have hu:items[i]? = some items[i]:=Ye hlt
  rw [hu] at j
  refine .inr ⟨_,j,hs i _ τ _ hu ht (Ext.new hl) _ _ (fun hp τ2 ht2=>⟨_,Zd,?_,_,?_,rfl,hlt,ht2,?_⟩) (fun hp τ2 ht2=>⟨_,?_,rfl,hlt,ht2,?_⟩)⟩
  ·have:(((List.range i).filter p).map f).length<=i:=by rw [Yb];exact YE (List.length_filter_le ..) (by simp)
   have:(100000:Nat) < sizeLine:=by decide
   lia
  ·lia
  ·rw [ZaJ,List.range_succ,YcD,Ym];simp [hp]
  ·lia
  ·rw [List.range_succ,YcD,Ym];simp [hp]
 ·have e:i=items.length:=by lia
  subst e
  rw [YT (Yg _)] at j
  exact .inl ⟨j,hd⟩
theorem cl_map {x0:Option U} {fr:ASt} (items ys:List U) (hlen:ys.length=items.length) (hl:A l=none) (hn:items.length<=100000) (hJ:∀ k A2,k<=items.length->Ext A A2->J k A2 items[k]?)
  (hs:∀ (k:Nat) u y A2,items[k]? = some u->ys[k]? = some y->Ext A A2->∀ Cy:U->AHp->Prop,Cy y A2->te (some u::fr) A2 Cy)
  (hd:Q (.ref l) (updA A l (.lst ys))):aCL J (ZbH 0) ZcA te l Q (x0::fr) (updA A l (.lst [])):=by
 refine cl_gen items (fun _=>true) (fun k=>(ys[k]?).getD .non) (fun τ=>∃ x,τ=x::fr) ⟨_,rfl⟩ hl hn hJ ?_ ?_
 ·rintro k u τ A2 hu ⟨x,rfl⟩ he Cy Cn hy hno
  show if true=true then te (some u::fr) A2 (Cy (some u::fr)) else Cn (some u::fr) A2
  rw [if_pos rfl]
  have hk:k < ys.length:=by rw [hlen];exact (Yp.mp hu).1
  have hyk:ys[k]? = some ys[k]:=Ye hk
  refine hs k u _ A2 hu hyk he _ ?_
  have:=hy rfl (some u::fr) ⟨_,rfl⟩
  rw [hyk] at this
  exact this
 ·have e:((List.range items.length).filter fun _=>true).map (fun k=>(ys[k]?).getD .non)=ys:=by
   rw [Ycr.mpr (fun _ _=>rfl),<- hlen]
   apply YbT
   ·simp
   ·intro i h1 h2;simp [Ye h2]
  rw [e];exact hd
theorem ZbC {x0 x1:Option U} {fr:ASt} (items ys:List U) (hlen:ys.length=items.length) (hl:A l=none) (hn:items.length<=100000) (hJ:∀ k A2,k<=items.length->Ext A A2->J k A2 items[k]?)
  (hs:∀ (k:Nat) u y A2,items[k]? = some u->ys[k]? = some y->Ext A A2->∃ v w,u=.tup [v,w]/\∀ Cy:U->AHp->Prop,Cy y A2->te (some v::some w::fr) A2 Cy)
  (hd:Q (.ref l) (updA A l (.lst ys))):aCL J (bTup 2 (bCons (ZbH 0) (bCons (ZbH 1) bNil))) ZcA te l Q (x0::x1::fr) (updA A l (.lst [])):=by
 refine cl_gen items (fun _=>true) (fun k=>(ys[k]?).getD .non) (fun τ=>∃ x y,τ=x::y::fr) ⟨_,_,rfl⟩ hl hn hJ ?_ ?_
 ·rintro k u τ A2 hu ⟨x,y,rfl⟩ he Cy Cn hy hno
  have hk:k < ys.length:=by rw [hlen];exact (Yp.mp hu).1
  have hyk:ys[k]? = some ys[k]:=Ye hk
  obtain ⟨v,w,rfl,h⟩:=hs k u _ A2 hu hyk he
  refine ⟨[v,w],rfl,rfl,v,[w],rfl,w,[],rfl,rfl,?_⟩
  show if true=true then te (some v::some w::fr) A2 (Cy (some v::some w::fr)) else Cn (some v::some w::fr) A2
  rw [if_pos rfl]
  refine h _ ?_
  have:=hy rfl (some v::some w::fr) ⟨_,_,rfl⟩
  rw [hyk] at this
  exact this
 ·have e:((List.range items.length).filter fun _=>true).map (fun k=>(ys[k]?).getD .non)=ys:=by
   rw [Ycr.mpr (fun _ _=>rfl),<- hlen]
   apply YbT
   ·simp
   ·intro i h1 h2;simp [Ye h2]
  rw [e];exact hd
end
section
variable {X:Cx}
noncomputable def U.tyName:U->Option String
 | .non=>some "NoneType"
 | .bl _=>some "bool"
 | .int _=>some "int"
 | .str _=>some "str"
 | .tup _=>some "tuple"
 | _=>none
inductive TyW (K:YFr) (H:Hp):V->Value->Prop
 | of {x:V} {t:Value}:TyOf K H x t->TyW K H x t
 | tup {a:Addr} {xs:List V}:SqT K H a xs->TyW K H (.ref a) (.type "tuple")
noncomputable def uIsW (K:YFr):List V->Hp->VK->Prop:=fun xs H Q=>match xs with
 | [x,.ty n]=>∃ t b,TyW K H x t/\PySem.W.kitOne K t (.type n)=some b/\Q (.bl b) H
 | [x,.ref c]=>∃ t b,TyW K H x t/\PySem.W.kitOne K t (.ref c)=some b/\Q (.bl b) H
 | _=>False
theorem c_isW:Zbi X (.builtin "isinstance") (uIsW X.K):=by
 intro pins s σ H xs us Q I r h
 have go:∀ (x:V) (u t:Value) (c:Value) (b:Bool),RelV x u->TyW X.K H x t->PySem.W.kitOne X.K t c=some b->Q (.bl b) H->wpAny (model X.prog X.w) X.A (call (.builtin "isinstance") [u,c]) (EP X pins σ Q) X.xe s:=by
  intro x u t c b rx ty e q
  cases ty with
  | of ty=>exact Zig I rx ty e fun tk=>⟨.bl b,H,I.tok _,rfl,q⟩
  | tup hq =>
   cases rx
   obtain ⟨its,rv,⟨o,h1,h2,h3⟩,hz⟩:=I.tuple hq
   exact Yag Ycz I.kIn ⟨o,h1,h2⟩ e (fun z=>nomatch z) fun tk=>⟨.bl b,H,I.tok _,rfl,q⟩
 unfold uIsW at h
 split at h
 ·obtain ⟨t,b,ty,e,q⟩:=h
  cases r with
  | cons r1 r2 =>
   cases r2 with
   | cons r2 r3 =>
    cases r3;cases r2
    exact go _ _ _ _ _ r1 ty e q
 ·obtain ⟨t,b,ty,e,q⟩:=h
  cases r with
  | cons r1 r2 =>
   cases r2 with
   | cons r2 r3 =>
    cases r3;cases r2
    exact go _ _ _ _ _ r1 ty e q
 ·exact h.elim
end
section
variable {K:YFr}
noncomputable def isTy (u:U) (n:String):Bool:=match u with
 | .non=>n == "NoneType"
 | .bl _=>n == "bool" || n == "int"
 | .int _=>n == "int"
 | .str _=>n == "str"
 | .tup _=>n == "tuple"
 | _=>false
noncomputable def xIsi:List U->AHp->AVK->Prop:=fun us A Q=>match us with
 | [u,.ty n]=>(n="int"\/n="bool"\/n="str"\/n="tuple")/\(match u with | .rol _=>False | .ref _=>False | .ty _=>False | _=>True)/\Q (.bl (isTy u n)) A
 | _=>False
theorem ab_isi:AbL K (uIsW K) xIsi:=fun xs us A H Q' Q r g h k=>by
 unfold xIsi at h
 split at h
 ·rename_i u n
  obtain ⟨hn,hu,h⟩:=h
  obtain ⟨v,x,rfl,r1,r2⟩:=r.inv2
  cases r2
  cases r1 with
  | non=>rcases hn with rfl | rfl | rfl | rfl <;> exact ⟨_,_,.of .non,rfl,k _ _ _ _ (.refl H) g (.bl _) h⟩
  | bl b=>rcases hn with rfl | rfl | rfl | rfl <;> exact ⟨_,_,.of (.bl b),rfl,k _ _ _ _ (.refl H) g (.bl _) h⟩
  | int b=>rcases hn with rfl | rfl | rfl | rfl <;> exact ⟨_,_,.of (.int b),rfl,k _ _ _ _ (.refl H) g (.bl _) h⟩
  | str b=>rcases hn with rfl | rfl | rfl | rfl <;> exact ⟨_,_,.of (.str b),rfl,k _ _ _ _ (.refl H) g (.bl _) h⟩
  | tup h1 r1=>rcases hn with rfl | rfl | rfl | rfl <;> exact ⟨_,_,.tup h1,rfl,k _ _ _ _ (.refl H) g (.bl _) h⟩
  | ty _=>exact hu.elim
  | ref _=>exact hu.elim
  | rol _ _=>exact hu.elim
 ·exact h.elim
theorem q_isi {A:AHp} {Q:AVK} {u:U} {n:String}:(xIsi [u,.ty n] A Q)=((n="int"\/n="bool"\/n="str"\/n="tuple")/\(match u with | .rol _=>False | .ref _=>False | .ty _=>False | _=>True)/\Q (.bl (isTy u n)) A):=rfl
noncomputable def mIdx:U->List U->AHp->AVK->Prop:=fun u us A Q=>match us with
 | [.str z]=>∃ (ss:List Str) (j:Nat),(u=.tup (ss.map U.str)\/∃ a,u=.ref a/\A a=some (.lst (ss.map U.str)))/\ss[j]? = some z/\(∀ m,m < j->ss[m]?≠some z)/\Q (.int j) A
 | _=>False
theorem ab_idxL:AbMt K (rIdxS fun x ss H=>∃ a,x=.ref a/\H a=some (.lst (ss.map V.str))) (fun u us A Q=>(∃ a,u=.ref a)/\mIdx u us A Q):=fun x u xs us A H Q' Q r rs g hq0 k=>by
 obtain ⟨⟨a,ea⟩,h⟩:=hq0
 unfold mIdx at h
 split at h
 ·obtain ⟨ss,j,hu,e1,e2,h⟩:=h
  obtain ⟨v,rfl,rv⟩:=rs.inv1
  cases rv
  rcases hu with rfl | ⟨b,rfl,hb⟩
  ·cases ea
  ·cases r
   obtain ⟨vs,h1,r1⟩:=g.list hb
   exact ⟨ss,_,j,⟨b,rfl,by rw [h1,r1.strs]⟩,rfl,e1,e2,k _ _ _ _ (.refl H) g (.int _) h⟩
 ·exact h.elim
end
mutual
noncomputable def Wr.toU:Wr->U
 | .nothing=>.tup [.str "nothing"]
 | .bead c=>.tup [.str "bead",.str c]
 | .side b f=>.tup [.str (Zcw b),f.toU]
 | .pair f g=>.tup [.str "pair",f.toU,g.toU]
 | .many k ps=>.tup [.str (Zaq k),.tup (toUL ps)]
noncomputable def toUL:List Wr->List U
 | []=>[]
 | w::ws=>w.toU::toUL ws
end
theorem ZgX:∀ ws:List Wr,toUL ws=ws.map Wr.toU
 | []=>rfl
 | w::ws=>by rw [toUL,Yu,ZgX ws]
theorem Wr.toU_many (k:Nat) (ps:List Wr):(Wr.many k ps).toU=.tup [.str (Zaq k),.tup (ps.map Wr.toU)]:=by rw [Wr.toU,ZgX]
noncomputable def Wr.few (w:Wr):Prop:=(∀ c,w≠.bead c)/\∀ k ps,w≠.many k ps
theorem Wr.toU_few {w:Wr} (h:w.few):w.toU=.tup (.str w.name::w.parts.map Wr.toU):=by
 cases w with
 | nothing=>rfl
 | bead c=>exact absurd rfl (h.1 c)
 | side b f=>rfl
 | pair f g=>rfl
 | many k ps=>exact absurd rfl (h.2 k ps)
theorem Wr.kinds (w:Wr):(∃ c,w=.bead c)\/(∃ k ps,w=.many k ps)\/w.few:=by
 cases w with
 | bead c=>exact .inl ⟨c,rfl⟩
 | many k ps=>exact .inr (.inl ⟨k,ps,rfl⟩)
 | _=>exact .inr (.inr ⟨fun c=>by simp,fun k ps=>by simp⟩)
theorem ZbV (k:Nat):inU (.str (Zaq k)) [.str "row",.str "bag",.str "choice",.str "ring"]=true:=ZjM (.many k [])
theorem Zbx {w:Wr} (h:∀ k ps,w≠.many k ps):inU (.str w.name) [.str "row",.str "bag",.str "choice",.str "ring"]=false:=by
 have:=ZjM w
 cases w with
 | many k ps=>exact absurd rfl (h k ps)
 | _=>exact this
theorem ZbJ {w:Wr} (h:∀ c,w≠.bead c):decide (w.name=Str.ofString "bead")=false:=by
 have:=w.nb h
 simpa using this
theorem nbm (k:Nat):decide (Zaq k=Str.ofString "bead")=false:=by
 have:=Zjf k
 simpa using this
theorem tup1 {x:U}:[x].length<=sizeLine:=by show 1<=sizeLine;decide
theorem tup2 {x y:U}:[x,y].length<=sizeLine:=by show 2<=sizeLine;decide
theorem tup3 {x y z:U}:[x,y,z].length<=sizeLine:=by show 3<=sizeLine;decide
theorem Zr {n:Nat} (h:n<=100000):n<=sizeLine:=YE h (by decide)
theorem Zbc {n:Nat} (h:n<=100000):n < sizeLine:=Ybc h (by decide)
theorem fg {Q:AVK} {u:U} {A:AHp} (h:Q u A):Fg Q u A:=⟨A,Ext.refl A,h⟩
theorem fgx {Q:AVK} {u:U} {A A':AHp} (e:Ext A A') (h:Q u A):Fg Q u A':=⟨A,e,h⟩
theorem iteB {b:Bool} {X Y:Prop} (h1:b=true->X) (h2:b=false->Y):if b=true then X else Y:=by
 cases b
 ·exact iteN (by decide) (h2 rfl)
 ·exact iteP rfl (h1 rfl)
theorem iteTt {X Y:Prop} {b:Bool} (hb:b=true) (h:X):if b=true then X else Y:=iteP hb h
theorem ZB {X Y:Prop} {b:Bool} (hb:b=false) (h:Y):if b=true then X else Y:=iteN (by rw [hb];decide) h
theorem Zik {us ws:List U}:cutU (us++ws) (some (us.length:Int)) none=ws:=by
 unfold cutU
 rw [HT.sIx_nat,HT.sIx_none,Yh,Ya6 (by lia),List.drop_left,Nat.add_sub_cancel_left,Yat]
noncomputable def aIdxC (ss:List Str) (l:AA):AE:=fun ρ A Q=>l ρ A fun us A1=>∃ (z:Str) (j:Nat),us=[.str z]/\ss[j]? = some z/\(∀ m,m < j->ss[m]?≠some z)/\Q (.int j) A1
theorem Zh6 {K:YFr} {a:Addr} {tl:TA} {l:AA} (ss:List Str) (ty:∀ H,tyV K "tuple" (.ref a) H) (hq:∀ H,SqT K H a (ss.map V.str)) (hl:AbA K tl l):AbE K (tBM K "tuple" (rIdxS fun x ss H=>∃ a,x=.ref a/\SqT K H a (ss.map V.str)) (tC (.ref a)) tl) (aIdxC ss l):=fun ρ A σ H Q' Q hs g w k =>
 ⟨ty H,hl ρ A σ H _ _ hs g w fun us A1 vs H1 k1 g1 r1 hq0=>by
  obtain ⟨z,j,e,e1,e2,h⟩:=hq0
  subst e
  obtain ⟨v,rfl,rv⟩:=r1.inv1
  cases rv
  exact ⟨ss,z,j,⟨a,rfl,hq H1⟩,rfl,e1,e2,k _ _ _ _ k1 g1 (.int _) h⟩⟩
theorem q_idxC {ss:List Str} {l:AA} {ρ:ASt} {A:AHp} {Q:AVK}:(aIdxC ss l ρ A Q)=(l ρ A fun us A1=>∃ (z:Str) (j:Nat),us=[.str z]/\ss[j]? = some z/\(∀ m,m < j->ss[m]?≠some z)/\Q (.int j) A1):=rfl
theorem q_idxL {A:AHp} {Q:AVK} {p:Addr} {z:Str}:((fun (u:U) (us:List U) (A:AHp) (Q:AVK)=>(∃ a,u=.ref a)/\mIdx u us A Q) (.ref p) [.str z] A Q)=(∃ (ss:List Str) (j:Nat),A p=some (.lst (ss.map U.str))/\ss[j]? = some z/\(∀ m,m < j->ss[m]?≠some z)/\Q (.int j) A):=by
 refine propext ⟨fun ⟨_,ss,j,h,h1,h2,h3⟩=>?_,fun ⟨ss,j,h,h1,h2,h3⟩=>⟨⟨p,rfl⟩,ss,j,.inr ⟨p,rfl,h⟩,h1,h2,h3⟩⟩
 rcases h with h | ⟨a,e,h⟩
 ·cases h
 ·cases e;exact ⟨ss,j,h,h1,h2,h3⟩
theorem Ext.put {A A2:AHp} {a:Addr} {o:AO} (e:Ext A A2):Ext (updA A a o) (updA A2 a o):=fun b u h=>by
 by_cases hb:b=a
 ·subst hb;rw [Zd] at h ⊢;exact h
 ·rw [Zm hb] at h ⊢;exact e b u h
theorem Ext.none {A A2:AHp} {l:Addr} (e:Ext A A2) (h:A2 l=Option.none):A l=Option.none:=by
 cases q:A l with
 | none=>rfl
 | some v=>rw [e l v q] at h;cases h
theorem Zdj {A:AHp} {a l:Addr} {x y:AO} (h:a≠l):updA (updA A a x) l y=updA (updA A l y) a x:=by
 funext b
 unfold updA
 by_cases h1:b=l
 ·rw [if_pos h1,if_neg (fun e=>h (e.symm.trans h1)),if_pos h1]
 ·rw [if_neg h1]
  by_cases h2:b=a
  ·rw [if_pos h2,if_pos h2]
  ·rw [if_neg h2,if_neg h2,if_neg h1]
theorem Zbu {A:AHp} {a:Addr} {o:AO} (h:A a=some o):updA A a o=A:=by
 funext b
 by_cases hb:b=a
 ·subst hb;rw [Zd,h]
 ·rw [Zm hb]
theorem side_atU {j:Int} (h0:0<=j) (h1:j < 2):∃ b:Bool,atI [U.str "left",U.str "right"] j=some (.str (Zcw b)):=by
 have h:j=0\/j=1:=by lia
 rcases h with h | h <;> rw [h]
 ·exact ⟨false,Zau (j:=0) rfl⟩
 ·exact ⟨true,Zau (j:=1) rfl⟩
theorem Ziu {ns:List Int} {i:Int} (h0:0<=i) (h:i < ns.length):∃ z,atI (ns.map U.int) i=some (.int z)/\ns[i.toNat]? = some z:=by
 obtain ⟨v,h1,h2⟩:=Zdr (xs:=ns.map U.int) (i:=i) h0 (by rw [Yb];exact h)
 rw [Yr] at h2
 obtain ⟨z,hz,rfl⟩:=Yak.mp h2
 exact ⟨z,h1,hz⟩
theorem Zga (ws:List Wr):(ws.map fun w=>((w.tups:Nat):Int)).sum=Zp ws:=by
 induction ws with
 | nil=>rfl
 | cons w ws ih=>rw [Yu,List.sum_cons,ih,Zp];push_cast;rfl
theorem Zai {α β:Type} {f:α->β} {xs:List α} {k:Nat} {u:β} (h:(xs.map f)[k]? = some u):∃ x,xs[k]? = some x/\u=f x:=by
 rw [Yr] at h
 obtain ⟨x,hx,rfl⟩:=Yak.mp h
 exact ⟨x,hx,rfl⟩
theorem Zbn {α:Type} {J:AIt} {te:AE} {l:Addr} {Q:AVK} {A:AHp} {x0:Option U} {fr:ASt} (xs:List α) (f g:α->U) (hl:A l=Option.none) (hn:xs.length<=100000) (hJ:∀ k A2,k<=xs.length->Ext A A2->J k A2 (xs.map f)[k]?)
  (hs:∀ (x:α) A2,x∈xs->Ext A A2->∀ Cy:U->AHp->Prop,Cy (g x) A2->te (some (f x)::fr) A2 Cy)
  (hd:Q (.ref l) (updA A l (.lst (xs.map g)))):aCL J (ZbH 0) ZcA te l Q (x0::fr) (updA A l (.lst [])):=by
 refine cl_map (xs.map f) (xs.map g) (by simp) hl (by simpa using hn) (fun k A2 hk he=>hJ k A2 (by simpa using hk) he) (fun k u y A2 hu hy he Cy hc=>?_) hd
 obtain ⟨x,hx,rfl⟩:=Zai hu
 obtain ⟨x',hx',rfl⟩:=Zai hy
 rw [hx] at hx';cases hx'
 exact hs x A2 (Yn hx) he Cy hc
theorem ZbX {P:Program} {w:World} {K:YFr} {mg:Str->Option Value} {base:Heap} {x qual:Str} {st:Stmt} {f:Addr} {fd:FuncData} {N ps:List Str} {k:Nat} {asp:ASp} (F:Fun K x qual st f fd) (S:ZA N ps (defScope st)) (h:∀ us A Q,¬ asp us A Q):FnOk P w K mg base CX0 k f fd ps (spOf K asp) :=
 ⟨fun vs H Q E ⟨us,A,Q',_,_,q,_⟩=>(h us A Q' q).elim,fun A outer s H args us vs Q E _ _ _ _ ⟨ws,A',Q',_,_,q,_⟩=>(h ws A' Q' q).elim⟩
noncomputable def tyB:Bool->String
 | true=>"tuple_iterator"
 | false=>"list_iterator"
noncomputable def sqB (K:YFr) (H:Hp) (t:Bool) (a:Addr) (xs:List V):Prop:=match t with
 | true=>SqT K H a xs
 | false=>SqL K H a xs
noncomputable def ItG (K:YFr) (t1 t2:Bool) (a b:Addr):It :=
 ⟨fun i H=>∃ xs ys x y,sqB K H t1 a xs/\sqB K H t2 b ys/\xs[i]? = some x/\ys[i]? = some y,
  fun i H v H'=>∃ T x y,v=.ref T/\H T=none/\H'=upd H T (.tup [x,y])/\(∀ xs,sqB K H t1 a xs->xs[i]? = some x)/\(∀ ys,sqB K H t2 b ys->ys[i]? = some y),
  fun i H=>∃ xs ys,sqB K H t1 a xs/\sqB K H t2 b ys/\(xs.length<=i\/ys.length<=i)⟩
noncomputable def uZipG (K:YFr):List V->Hp->(It->Hp->Prop)->Prop:=fun vs H R=>match vs with
 | [.ref a,.ref b]=>∃ t1 t2 xs ys,sqB K H t1 a xs/\sqB K H t2 b ys/\R (ItG K t1 t2 a b) H
 | _=>False
noncomputable def seqU (A:AHp):U->List U->Prop:=fun u us=>match u with
 | .tup xs=>xs=us
 | .rol xs=>xs=us
 | .ref a=>A a=some (.lst us)
 | _=>False
noncomputable def jZipG (x y:U):AIt:=fun i A r=>∃ us ws,seqU A x us/\seqU A y ws/\r=(zpU us ws)[i]?
noncomputable def yZipG:List U->AHp->(AIt->AHp->Prop)->Prop:=fun us A R=>match us with
 | [x,y]=>(∃ us ws,seqU A x us/\seqU A y ws)/\R (jZipG x y) A
 | _=>False
theorem q_yzg {x y:U} {A:AHp} {R:AIt->AHp->Prop}:(yZipG [x,y] A R)=((∃ us ws,seqU A x us/\seqU A y ws)/\R (jZipG x y) A):=rfl
theorem Zi0:∀ (us ws:List U),(zpU us ws).length=min us.length ws.length
 | [],ws=>by simp [zpU]
 | _::_,[]=>by simp [zpU]
 | u::us,w::ws=>by simp only [zpU,List.length_cons,Zi0 us ws];lia
mutual
noncomputable def Wr.keyU:Wr->U
 | .nothing=>.tup [.int 0,.int 0]
 | .bead c=>.tup [.int 1,.int 1,.str c]
 | .side b f=>.tup [.int f.size,.int (Wr.side b f).kidx,f.keyU]
 | .pair f g=>.tup [.int (Wr.pair f g).size,.int 4,f.keyU,g.keyU]
 | .many k ps=>.tup (.int (sizeL ps)::.int (Wr.many k ps).kidx::ZdD ps)
noncomputable def ZdD:List Wr->List U
 | []=>[]
 | w::ws=>w.keyU::ZdD ws
end
theorem Ze6:∀ ws:List Wr,ZdD ws=ws.map Wr.keyU
 | []=>rfl
 | w::ws=>by rw [ZdD,Yu,Ze6 ws]
theorem Wr.keyU_parts (w:Wr) (h:∀ c,w≠.bead c):w.keyU=.tup (.int w.size::.int w.kidx::w.parts.map Wr.keyU):=by
 cases w with
 | bead c=>exact absurd rfl (h c)
 | nothing=>rfl
 | side b f=>rfl
 | pair f g=>rfl
 | many k ps=>simp only [Wr.keyU,Wr.parts,Ze6];rfl
theorem Wr.keyU_head (w:Wr):∃ rest,w.keyU=.tup (.int w.size::rest):=by
 rcases bead_or w with ⟨c,rfl⟩ | h
 ·exact ⟨_,rfl⟩
 ·exact ⟨_,w.keyU_parts h⟩
theorem ZbO (ws:List Wr):(ws.map fun w=>((w.size:Nat):Int)).sum=sizeL ws:=by
 induction ws with
 | nil=>rfl
 | cons w ws ih=>rw [Yu,List.sum_cons,ih,sizeL];push_cast;rfl
mutual
noncomputable def U.pl:U->Bool
 | .int _=>true
 | .str _=>true
 | .tup us=>decide (us.length<=1000) && plL us
 | _=>false
noncomputable def plL:List U->Bool
 | []=>true
 | u::us=>u.pl && plL us
end
mutual
noncomputable def U.dp:U->Nat
 | .tup us=>1 + dpL us
 | _=>0
noncomputable def dpL:List U->Nat
 | []=>0
 | u::us=>max u.dp (dpL us)
end
mutual
theorem Wr.key_dp:∀ w:Wr,w.keyU.dp<=w.dep
 | .nothing=>by simp [Wr.keyU,U.dp,dpL,Wr.dep]
 | .bead c=>by simp [Wr.keyU,U.dp,dpL,Wr.dep]
 | .side b f=>by have:=f.key_dp;simp [Wr.keyU,U.dp,dpL,Wr.dep];lia
 | .pair f g=>by have:=f.key_dp;have:=g.key_dp;simp [Wr.keyU,U.dp,dpL,Wr.dep];lia
 | .many k ps=>by have:=Zi2 ps;simp [Wr.keyU,U.dp,dpL,Wr.dep];lia
theorem Zi2:∀ ws:List Wr,dpL (ZdD ws)<=depL ws
 | []=>Yg _
 | w::ws=>by have:=w.key_dp;have:=Zi2 ws;simp only [ZdD,dpL,depL];lia
end
section
variable {A:AHp}
mutual
theorem Wr.duW:∀ w:Wr,DU A w.toU w.toD
 | .nothing=>.tup (.cons (.str _) .nil)
 | .bead c=>.tup (.cons (.str _) (.cons (.str _) .nil))
 | .side b f=>.tup (.cons (.str _) (.cons f.duW .nil))
 | .pair f g=>.tup (.cons (.str _) (.cons f.duW (.cons g.duW .nil)))
 | .many k ps=>.tup (.cons (.str _) (.cons (.tup (duWL ps)) .nil))
theorem duWL:∀ ws:List Wr,DUs A (toUL ws) (toDL ws)
 | []=>.nil
 | w::ws=>.cons w.duW (duWL ws)
end
mutual
theorem Wr.duK:∀ w:Wr,DU A w.keyU w.keyD
 | .nothing=>.tup (.cons (.int _) (.cons (.int _) .nil))
 | .bead c=>.tup (.cons (.int _) (.cons (.int _) (.cons (.str _) .nil)))
 | .side b f=>.tup (.cons (.int _) (.cons (.int _) (.cons f.duK .nil)))
 | .pair f g=>.tup (.cons (.int _) (.cons (.int _) (.cons f.duK (.cons g.duK .nil))))
 | .many k ps=>.tup (.cons (.int _) (.cons (.int _) (duKL ps)))
theorem duKL:∀ ws:List Wr,DUs A (ZdD ws) (ZaP ws)
 | []=>.nil
 | w::ws=>.cons w.duK (duKL ws)
end
end
mutual
theorem Wr.canK:∀ w:Wr,w.ok=true->w.keyD.canLay0=true
 | .nothing,_=>by simp only [Wr.keyD,PyData.canLay0,PyData.canLayAll0];decide
 | .bead c,h=>by simp only [Wr.keyD,PyData.canLay0,PyData.canLayAll0,Ys,YA];simpa [Wr.ok] using h
 | .side b f,h=>by simp only [Wr.ok] at h;simp only [Wr.keyD,PyData.canLay0,PyData.canLayAll0,Ys,YA,f.canK h]
 | .pair f g,h=>by
  simp only [Wr.ok,Yc] at h
  simp only [Wr.keyD,PyData.canLay0,PyData.canLayAll0,Ys,YA,f.canK h.1,g.canK h.2]
 | .many k ps,h=>by simp only [Wr.ok] at h;simp only [Wr.keyD,PyData.canLay0,PyData.canLayAll0,Ys,YA,canKL ps h]
theorem canKL:∀ ws:List Wr,okL ws=true->PyData.canLayAll0 (ZaP ws)=true
 | [],_=>by simp only [ZaP,PyData.canLayAll0]
 | w::ws,h=>by simp only [okL,Yc] at h;simp only [ZaP,PyData.canLayAll0,w.canK h.1,canKL ws h.2,Ys]
end
mutual
theorem Wr.deepK:∀ w:Wr,w.keyD.depth<=w.dep + 1
 | .nothing=>by simp [Wr.keyD,PyData.depth,PyData.depthAll,Wr.dep]
 | .bead c=>by simp [Wr.keyD,PyData.depth,PyData.depthAll,Wr.dep]
 | .side b f=>by have:=f.deepK;simp only [Wr.keyD,PyData.depth,PyData.depthAll,Wr.dep];lia
 | .pair f g=>by have:=f.deepK;have:=g.deepK;simp only [Wr.keyD,PyData.depth,PyData.depthAll,Wr.dep];lia
 | .many k ps=>by have:=Zjt ps;simp only [Wr.keyD,PyData.depth,PyData.depthAll,Wr.dep];lia
theorem Zjt:∀ ws:List Wr,PyData.depthAll (ZaP ws)<=depL ws + 1
 | []=>by simp [ZaP,PyData.depthAll]
 | w::ws=>by have:=w.deepK;have:=Zjt ws;simp only [ZaP,PyData.depthAll,depL];lia
end
mutual
noncomputable def Wr.like:Wr->Wr->Bool
 | .nothing,.nothing=>true
 | .bead c,.bead d=>c == d
 | .side b f,.side b' f'=>b == b' && f.like f'
 | .pair f g,.pair f' g'=>f.like f' && g.like g'
 | .many k ps,.many k' ps'=>(Zaq k == Zaq k') && ZaK ps ps'
 | _,_=>false
noncomputable def ZaK:List Wr->List Wr->Bool
 | [],[]=>true
 | w::ws,v::vs=>w.like v && ZaK ws vs
 | _,_=>false
end
mutual
theorem Wr.like_size:∀ w v:Wr,w.like v=true->w.size=v.size
 | .nothing,.nothing,_=>rfl
 | .bead c,.bead d,_=>rfl
 | .side b f,.side b' f',h=>by simp only [Wr.like,Yc] at h;simp only [Wr.size];exact f.like_size f' h.2
 | .pair f g,.pair f' g',h=>by simp only [Wr.like,Yc] at h;simp only [Wr.size];rw [f.like_size f' h.1,g.like_size g' h.2]
 | .many k ps,.many k' ps',h=>by simp only [Wr.like,Yc] at h;simp only [Wr.size];exact Zcs ps ps' h.2
theorem Zcs:∀ ws vs:List Wr,ZaK ws vs=true->sizeL ws=sizeL vs
 | [],[],_=>rfl
 | w::ws,v::vs,h=>by simp only [ZaK,Yc] at h;simp only [sizeL];rw [w.like_size v h.1,Zcs ws vs h.2]
end
theorem mname_cases (k:Nat):((k=0/\Zaq k="row")\/(k=1/\Zaq k="bag")\/(k=2/\Zaq k="choice")\/(3<=k/\Zaq k="ring")):=by
 match k with
 | 0=>exact .inl ⟨rfl,rfl⟩
 | 1=>exact .inr (.inl ⟨rfl,rfl⟩)
 | 2=>exact .inr (.inr (.inl ⟨rfl,rfl⟩))
 | k + 3=>exact .inr (.inr (.inr ⟨by lia,rfl⟩))
noncomputable def mcode:Nat->Nat
 | 0=>5
 | 1=>6
 | 2=>7
 | _=>8
theorem ZdL (k k':Nat):(Zaq k == Zaq k')=(mcode k == mcode k'):=by
 match k,k' with
 | 0,0=>decide +kernel
 | 0,1=>decide +kernel
 | 0,2=>decide +kernel
 | 0,k' + 3=>show ((Str.ofString "row") == (Str.ofString "ring"))=(5 == 8);decide +kernel
 | 1,0=>decide +kernel
 | 1,1=>decide +kernel
 | 1,2=>decide +kernel
 | 1,k' + 3=>show ((Str.ofString "bag") == (Str.ofString "ring"))=(6 == 8);decide +kernel
 | 2,0=>decide +kernel
 | 2,1=>decide +kernel
 | 2,2=>decide +kernel
 | 2,k' + 3=>show ((Str.ofString "choice") == (Str.ofString "ring"))=(7 == 8);decide +kernel
 | k + 3,0=>show ((Str.ofString "ring") == (Str.ofString "row"))=(8 == 5);decide +kernel
 | k + 3,1=>show ((Str.ofString "ring") == (Str.ofString "bag"))=(8 == 6);decide +kernel
 | k + 3,2=>show ((Str.ofString "ring") == (Str.ofString "choice"))=(8 == 7);decide +kernel
 | k + 3,k' + 3=>show ((Str.ofString "ring") == (Str.ofString "ring"))=(8 == 8);decide +kernel
theorem Zaz (k:Nat) (ps:List Wr):(Wr.many k ps).kidx=mcode k:=by
 match k with
 | 0=>rfl
 | 1=>rfl
 | 2=>rfl
 | k + 3=>rfl
theorem Zh9 (w v:Wr):(w.name == v.name)=(w.kidx == v.kidx):=by
 have e1:=w.kidx_at
 have e2:=v.kidx_at
 by_cases h:w.kidx=v.kidx
 ·have:=e1.1
  rw [h,e2.1] at this
  rw [Y0 this,h]
  simp
 ·have:w.name≠v.name:=fun e=>by
   rcases Nat.lt_or_gt_of_ne h with q | q
   ·exact e2.2 _ q (by rw [e1.1,e])
   ·exact e1.2 _ q (by rw [e2.1,e])
  rw [Yan.mpr this,Yan.mpr h]
theorem Z5 (x y:Str):PyData.eqv (.str x) (.str y)=(x == y):=by simp only [PyData.eqv]
theorem sname_eq (b b':Bool):(Zcw b == Zcw b')=(b == b'):=by cases b <;> cases b' <;> decide +kernel
theorem ZU (xs ys:List PyData):PyData.eqv (.tuple xs) (.tuple ys)=PyData.eqvAll xs ys:=by simp only [PyData.eqv]
theorem Zq (x y:PyData) (xs ys:List PyData):PyData.eqvAll (x::xs) (y::ys)=(PyData.eqv x y && PyData.eqvAll xs ys):=by simp only [PyData.eqvAll]
theorem ZJ:PyData.eqvAll [] []=true:=by simp only [PyData.eqvAll]
theorem Zax (x:PyData) (xs:List PyData):PyData.eqvAll (x::xs) []=false:=by simp only [PyData.eqvAll]
theorem Zav (x:PyData) (xs:List PyData):PyData.eqvAll [] (x::xs)=false:=by simp only [PyData.eqvAll]
theorem Z9 (c:Str) (w:Wr):PyData.eqv (.str c) w.toD=false:=by cases w <;> simp [Wr.toD,PyData.eqv]
theorem Z8 (c:Str) (w:Wr):PyData.eqv w.toD (.str c)=false:=by cases w <;> simp [Wr.toD,PyData.eqv]
theorem Zac (c:Str) (xs:List PyData):PyData.eqv (.str c) (.tuple xs)=false:=by simp [PyData.eqv]
theorem Zaa (c:Str) (xs:List PyData):PyData.eqv (.tuple xs) (.str c)=false:=by simp [PyData.eqv]
theorem sm_ne (b:Bool) (k:Nat):(Zcw b == Zaq k)=false:=by
 have:=Zh9 (.side b .nothing) (.many k [])
 rw [Zaz] at this
 rw [show (Zcw b == Zaq k)=_ from this]
 match k with
 | 0=>cases b <;> rfl
 | 1=>cases b <;> rfl
 | 2=>cases b <;> rfl
 | k + 3=>cases b <;> rfl
theorem ms_ne (b:Bool) (k:Nat):(Zaq k == Zcw b)=false:=by
 have:=Zh9 (.many k []) (.side b .nothing)
 rw [Zaz] at this
 rw [show (Zaq k == Zcw b)=_ from this]
 match k with
 | 0=>cases b <;> rfl
 | 1=>cases b <;> rfl
 | 2=>cases b <;> rfl
 | k + 3=>cases b <;> rfl
mutual
theorem Wr.eqvD:∀ w v:Wr,PyData.eqv w.toD v.toD=w.like v
 | .nothing,.nothing=>by simp only [Wr.toD,ZU,Zq,ZJ,Zax,Zav,Wr.like,Z5,Z9,Z8,Zac,Zaa,Yy,YH,Ys,Yz,YA]
 | .nothing,.bead c'=>by simp only [Wr.toD,ZU,Zq,ZJ,Zax,Zav,Wr.like,Z5,Z9,Z8,Zac,Zaa,Yy,YH,Ys,Yz,YA]
 | .nothing,.side b' f'=>by simp only [Wr.toD,ZU,Zq,ZJ,Zax,Zav,Wr.like,Z5,Z9,Z8,Zac,Zaa,Yy,YH,Ys,Yz,YA]
 | .nothing,.pair f' g'=>by simp only [Wr.toD,ZU,Zq,ZJ,Zax,Zav,Wr.like,Z5,Z9,Z8,Zac,Zaa,Yy,YH,Ys,Yz,YA]
 | .nothing,.many k' ps'=>by simp only [Wr.toD,ZU,Zq,ZJ,Zax,Zav,Wr.like,Z5,Z9,Z8,Zac,Zaa,Yy,YH,Ys,Yz,YA]
 | .bead c,.nothing=>by simp only [Wr.toD,ZU,Zq,ZJ,Zax,Zav,Wr.like,Z5,Z9,Z8,Zac,Zaa,Yy,YH,Ys,Yz,YA]
 | .bead c,.bead c'=>by simp only [Wr.toD,ZU,Zq,ZJ,Zax,Zav,Wr.like,Z5,Z9,Z8,Zac,Zaa,Yy,YH,Ys,Yz,YA]
 | .bead c,.side b' f'=>by simp only [Wr.toD,ZU,Zq,ZJ,Zax,Zav,Wr.like,Z5,Z9,Z8,Zac,Zaa,Yy,YH,Ys,Yz,YA]
 | .bead c,.pair f' g'=>by simp only [Wr.toD,ZU,Zq,ZJ,Zax,Zav,Wr.like,Z5,Z9,Z8,Zac,Zaa,Yy,YH,Ys,Yz,YA]
 | .bead c,.many k' ps'=>by simp only [Wr.toD,ZU,Zq,ZJ,Zax,Zav,Wr.like,Z5,Z9,Z8,Zac,Zaa,Yy,YH,Ys,Yz,YA]
 | .side b f,.nothing=>by simp only [Wr.toD,ZU,Zq,ZJ,Zax,Zav,Wr.like,Z5,Z9,Z8,Zac,Zaa,Yy,YH,Ys,Yz,YA]
 | .side b f,.bead c'=>by simp only [Wr.toD,ZU,Zq,ZJ,Zax,Zav,Wr.like,Z5,Z9,Z8,Zac,Zaa,Yy,YH,Ys,Yz,YA]
 | .side b f,.side b' f'=>by simp only [Wr.toD,ZU,Zq,ZJ,Zax,Zav,Wr.like,Z5,Z9,Z8,Zac,Zaa,Yy,YH,Ys,Yz,YA,sname_eq,f.eqvD f']
 | .side b f,.pair f' g'=>by simp only [Wr.toD,ZU,Zq,ZJ,Zax,Zav,Wr.like,Z5,Z9,Z8,Zac,Zaa,Yy,YH,Ys,Yz,YA]
 | .side b f,.many k' ps'=>by simp only [Wr.toD,ZU,Zq,ZJ,Zax,Zav,Wr.like,Z5,Z9,Z8,Zac,Zaa,Yy,YH,Ys,Yz,YA,sm_ne]
 | .pair f g,.nothing=>by simp only [Wr.toD,ZU,Zq,ZJ,Zax,Zav,Wr.like,Z5,Z9,Z8,Zac,Zaa,Yy,YH,Ys,Yz,YA]
 | .pair f g,.bead c'=>by simp only [Wr.toD,ZU,Zq,ZJ,Zax,Zav,Wr.like,Z5,Z9,Z8,Zac,Zaa,Yy,YH,Ys,Yz,YA]
 | .pair f g,.side b' f'=>by simp only [Wr.toD,ZU,Zq,ZJ,Zax,Zav,Wr.like,Z5,Z9,Z8,Zac,Zaa,Yy,YH,Ys,Yz,YA]
 | .pair f g,.pair f' g'=>by simp only [Wr.toD,ZU,Zq,ZJ,Zax,Zav,Wr.like,Z5,Z9,Z8,Zac,Zaa,Yy,YH,Ys,Yz,YA,f.eqvD f',g.eqvD g']
 | .pair f g,.many k' ps'=>by simp only [Wr.toD,ZU,Zq,ZJ,Zax,Zav,Wr.like,Z5,Z9,Z8,Zac,Zaa,Yy,YH,Ys,Yz,YA]
 | .many k ps,.nothing=>by simp only [Wr.toD,ZU,Zq,ZJ,Zax,Zav,Wr.like,Z5,Z9,Z8,Zac,Zaa,Yy,YH,Ys,Yz,YA]
 | .many k ps,.bead c'=>by simp only [Wr.toD,ZU,Zq,ZJ,Zax,Zav,Wr.like,Z5,Z9,Z8,Zac,Zaa,Yy,YH,Ys,Yz,YA]
 | .many k ps,.side b' f'=>by simp only [Wr.toD,ZU,Zq,ZJ,Zax,Zav,Wr.like,Z5,Z9,Z8,Zac,Zaa,Yy,YH,Ys,Yz,YA,ms_ne]
 | .many k ps,.pair f' g'=>by simp only [Wr.toD,ZU,Zq,ZJ,Zax,Zav,Wr.like,Z5,Z9,Z8,Zac,Zaa,Yy,YH,Ys,Yz,YA]
 | .many k ps,.many k' ps'=>by simp only [Wr.toD,ZU,Zq,ZJ,Zax,Zav,Wr.like,Z5,Z9,Z8,Zac,Zaa,Yy,YH,Ys,Yz,YA,eqvDL ps ps']
theorem eqvDL:∀ ws vs:List Wr,PyData.eqvAll (toDL ws) (toDL vs)=ZaK ws vs
 | [],[]=>by simp only [toDL,ZJ,ZaK]
 | [],_::_=>by simp only [toDL,Zav,ZaK]
 | _::_,[]=>by simp only [toDL,Zax,ZaK]
 | w::ws,v::vs=>by simp only [toDL,Zq,ZaK,w.eqvD v,eqvDL ws vs]
end
theorem Zi4 {w v:Wr} (h:w.like v=true):w.kidx=v.kidx:=by
 cases w <;> cases v <;> simp only [Wr.like,Yc,reduceCtorEq] at h <;> first | rfl | skip
 ·have:=h.1;simp at this;subst this;rfl
 ·rw [Zaz,Zaz];have:=h.1;rw [ZdL] at this;simpa using this
theorem Zb5 (x y:Int):PyData.eqv (.int x) (.int y)=(x == y):=by simp only [PyData.eqv]
theorem ki (i j:Nat):(((i:Nat):Int) == ((j:Nat):Int))=(i == j):=by
 by_cases h:i=j
 ·subst h;simp
 ·rw [Yan.mpr h,Yan.mpr (by lia)]
theorem kne {w v:Wr} (h:w.kidx≠v.kidx) (l:w.like v=false) (hw:∃ r,w.keyD=.tuple (.int w.size::.int w.kidx::r)) (hv:∃ r,v.keyD=.tuple (.int v.size::.int v.kidx::r)):PyData.eqv w.keyD v.keyD=w.like v:=by
 obtain ⟨r,e⟩:=hw
 obtain ⟨r',e'⟩:=hv
 rw [e,e',ZU,Zq,Zq,Zb5,Zb5,ki,ki,Yan.mpr h,YH,Yy,l]
theorem Wr.keyD_h2 (w:Wr):∃ r,w.keyD=.tuple (.int w.size::.int w.kidx::r):=by
 rcases bead_or w with ⟨c,rfl⟩ | h
 ·exact ⟨_,rfl⟩
 ·exact ⟨_,w.keyD_parts h⟩
theorem Zbp (k:Nat):5<=mcode k:=by
 match k with
 | 0=>decide
 | 1=>decide
 | 2=>decide
 | k + 3=>show 5<=8;decide
mutual
theorem Wr.eqvK:∀ w v:Wr,PyData.eqv w.keyD v.keyD=w.like v
 | .nothing,.nothing=>by simp only [Wr.keyD,ZU,Zq,ZJ,Zb5,Wr.like,Yz,Bool.and_self]
 | .nothing,.bead c'=>kne (by simp [Wr.kidx]) rfl (Wr.keyD_h2 _) (Wr.keyD_h2 _)
 | .nothing,.side b' f'=>kne (by cases b' <;> simp [Wr.kidx]) rfl (Wr.keyD_h2 _) (Wr.keyD_h2 _)
 | .nothing,.pair f' g'=>kne (by simp [Wr.kidx]) rfl (Wr.keyD_h2 _) (Wr.keyD_h2 _)
 | .nothing,.many k' ps'=>kne (by rw [Zaz];have:=Zbp k';simp only [Wr.kidx];lia) rfl (Wr.keyD_h2 _) (Wr.keyD_h2 _)
 | .bead c,.nothing=>kne (by simp [Wr.kidx]) rfl (Wr.keyD_h2 _) (Wr.keyD_h2 _)
 | .bead c,.bead c'=>by simp only [Wr.keyD,ZU,Zq,ZJ,Zb5,Z5,Wr.like,Yz,Ys,YA]
 | .bead c,.side b' f'=>kne (by cases b' <;> simp [Wr.kidx]) rfl (Wr.keyD_h2 _) (Wr.keyD_h2 _)
 | .bead c,.pair f' g'=>kne (by simp [Wr.kidx]) rfl (Wr.keyD_h2 _) (Wr.keyD_h2 _)
 | .bead c,.many k' ps'=>kne (by rw [Zaz];have:=Zbp k';simp only [Wr.kidx];lia) rfl (Wr.keyD_h2 _) (Wr.keyD_h2 _)
 | .side b f,.nothing=>kne (by cases b <;> simp [Wr.kidx]) rfl (Wr.keyD_h2 _) (Wr.keyD_h2 _)
 | .side b f,.bead c'=>kne (by cases b <;> simp [Wr.kidx]) rfl (Wr.keyD_h2 _) (Wr.keyD_h2 _)
 | .side b f,.side b' f'=>by
  simp only [Wr.keyD,ZU,Zq,ZJ,Zb5,Wr.like,f.eqvK f',Ys,ki]
  cases h:f.like f' with
  | false=>simp only [Yy]
  | true=>rw [f.like_size f' h];cases b <;> cases b' <;> simp [Wr.kidx]
 | .side b f,.pair f' g'=>kne (by cases b <;> simp [Wr.kidx]) rfl (Wr.keyD_h2 _) (Wr.keyD_h2 _)
 | .side b f,.many k' ps'=>kne (by rw [Zaz];have:=Zbp k';cases b <;> simp [Wr.kidx] <;> lia) rfl (Wr.keyD_h2 _) (Wr.keyD_h2 _)
 | .pair f g,.nothing=>kne (by simp [Wr.kidx]) rfl (Wr.keyD_h2 _) (Wr.keyD_h2 _)
 | .pair f g,.bead c'=>kne (by simp [Wr.kidx]) rfl (Wr.keyD_h2 _) (Wr.keyD_h2 _)
 | .pair f g,.side b' f'=>kne (by cases b' <;> simp [Wr.kidx]) rfl (Wr.keyD_h2 _) (Wr.keyD_h2 _)
 | .pair f g,.pair f' g'=>by
  simp only [Wr.keyD,ZU,Zq,ZJ,Zb5,Wr.like,f.eqvK f',g.eqvK g',Ys,Yz,YA]
  cases h:f.like f' with
  | false=>simp only [YH,Yy]
  | true =>
   cases h2:g.like g' with
   | false=>simp only [Yy]
   | true=>simp only [Wr.size];rw [f.like_size f' h,g.like_size g' h2];simp
 | .pair f g,.many k' ps'=>kne (by rw [Zaz];have:=Zbp k';simp only [Wr.kidx];lia) rfl (Wr.keyD_h2 _) (Wr.keyD_h2 _)
 | .many k ps,.nothing=>kne (by rw [Zaz];have:=Zbp k;simp only [Wr.kidx];lia) rfl (Wr.keyD_h2 _) (Wr.keyD_h2 _)
 | .many k ps,.bead c'=>kne (by rw [Zaz];have:=Zbp k;simp only [Wr.kidx];lia) rfl (Wr.keyD_h2 _) (Wr.keyD_h2 _)
 | .many k ps,.side b' f'=>kne (by rw [Zaz];have:=Zbp k;cases b' <;> simp [Wr.kidx] <;> lia) rfl (Wr.keyD_h2 _) (Wr.keyD_h2 _)
 | .many k ps,.pair f' g'=>kne (by rw [Zaz];have:=Zbp k;simp only [Wr.kidx];lia) rfl (Wr.keyD_h2 _) (Wr.keyD_h2 _)
 | .many k ps,.many k' ps'=>by
  simp only [Wr.keyD,ZU,Zq,Zb5,Wr.like,Zaz,eqvKL ps ps',ZdL,ki]
  cases h:ZaK ps ps' with
  | false=>simp only [Yy]
  | true=>rw [Zcs ps ps' h];simp
theorem eqvKL:∀ ws vs:List Wr,PyData.eqvAll (ZaP ws) (ZaP vs)=ZaK ws vs
 | [],[]=>by simp only [ZaP,ZJ,ZaK]
 | [],_::_=>by simp only [ZaP,Zav,ZaK]
 | _::_,[]=>by simp only [ZaP,Zax,ZaK]
 | w::ws,v::vs=>by simp only [ZaP,Zq,ZaK,w.eqvK v,eqvKL ws vs]
end
noncomputable def uSeqI (K:YFr):V->Hp->(It->Hp->Prop)->Prop:=fun x H R=>uList K x H R\/uTupI K x H R
section
variable {X:Cx} {tg a:Expr} {te:TE} {ta:TA} {p pos tp:Pos} {elts:List Expr} {k0:Nat}
theorem ZaH (hl:PE X a te):PI X tg a (jOf (uSeqI X.K) te):=by
 intro pins s σ H R I h
 refine thn (hl pins s σ H _ I h) fun v s1 h_q=>?_
 obtain ⟨x,H1,I1,r1,q1⟩:=h_q
 have fp:∀ b∈[s1.heap.objs.size],FpOk X pins H1 b:=fun b hb=>by
  obtain rfl:b=s1.heap.objs.size:=by simpa using hb
  exact I1.fpOk (Yg _) (I1.hok.fresh (Yg _))
 have J1:∀ o,Inv X pins σ H1 { s1 with heap:=s1.heap.push o }:=fun o=>I1.kept (t':=s1.toks) fun b u e=>Yi _ e
 cases x with
 | ref l =>
  cases r1
  rcases q1 with ⟨⟨xs,hq⟩,q⟩ | ⟨⟨xs,hq⟩,q⟩
  ·obtain ⟨its,rv,pl,hz⟩:=I1.list hq
   exact YaX pl.isList ⟨s1.heap.objs.size,[s1.heap.objs.size],_,_,H1,rfl,J1 _,ZiL l _,⟨_,YI _ rfl,rfl,rfl⟩,fp,q⟩
  ·obtain ⟨its,rv,pl,hz⟩:=I1.tuple hq
   exact wpAny_pyIter_tuple (show s1.heap.IsTuple l its.toArray from pl) ⟨s1.heap.objs.size,[s1.heap.objs.size],_,_,H1,rfl,J1 _,ZhO l _,⟨_,YI _ rfl,rfl,rfl⟩,fp,q⟩
 | _=>rcases q1 with q | q <;> exact q.elim
end
section
variable {K:YFr}
noncomputable def ySeq:U->AHp->(AIt->AHp->Prop)->Prop:=fun u A R=>match u with
 | .ref a=>(∃ us,A a=some (.lst us))/\R (jLst a) A
 | .rol us=>R (jFix us) A
 | .tup us=>R (jFix us) A
 | _=>False
theorem Zab:AbY1 K (uSeqI K) ySeq:=fun x v A H R' R r g w k=>by
 cases r with
 | ref a=>exact .inl (Zgs (.ref a) _ A H R' R (.ref a) g w k)
 | rol h1 r1=>exact .inl (Zgs _ _ A H R' R (.rol h1 r1) g w k)
 | tup h1 r1=>exact .inr (ab_ytup _ _ A H R' R (.tup h1 r1) g w k)
 | _=>exact w.elim
noncomputable def ZiH:List U->AHp->(AIt->AHp->Prop)->Prop:=fun us A R=>match us with
 | [.ref a]=>(∃ us,A a=some (.lst us))/\R (jEnum a) A
 | [.rol us]=>R (jFix (enU us)) A
 | [.tup us]=>R (jFix (enU us)) A
 | _=>False
variable {A:AHp} {R:AIt->AHp->Prop} {p:Addr} {us:List U}
theorem q_ysr:(ySeq (.ref p) A R)=((∃ us,A p=some (.lst us))/\R (jLst p) A):=rfl
theorem q_yso:(ySeq (.rol us) A R)=(R (jFix us) A):=rfl
theorem q_yst:(ySeq (.tup us) A R)=(R (jFix us) A):=rfl
theorem q_yesr:(ZiH [.ref p] A R)=((∃ us,A p=some (.lst us))/\R (jEnum p) A):=rfl
theorem q_yeso:(ZiH [.rol us] A R)=(R (jFix (enU us)) A):=rfl
theorem q_yest:(ZiH [.tup us] A R)=(R (jFix (enU us)) A):=rfl
end
section
variable {X:Cx}
noncomputable def rExtS (K:YFr):V->List V->Hp->VK->Prop:=fun x vs H Q=>Zf5 x vs H Q\/rExtT K x vs H Q
theorem mt_extS:MtM X "list.extend" (rExtS X.K):=fun pins s σ H x vs v us Q I rx rv h=>by
 rcases h with h | h
 ·exact Zim pins s σ H x vs v us Q I rx rv h
 ·exact mt_extT pins s σ H x vs v us Q I rx rv h
variable {K:YFr}
noncomputable def mExtS:U->List U->AHp->AVK->Prop:=fun u us A Q=>match u,us with
 | .ref a,[.tup ws]=>∃ xs,A a=some (.lst xs)/\xs.length + ws.length<=sizeLine/\Q .non (updA A a (.lst (xs++ws)))
 | .ref a,[.ref b]=>∃ xs ws,A a=some (.lst xs)/\A b=some (.lst ws)/\xs.length + ws.length<=sizeLine/\Q .non (updA A a (.lst (xs++ws)))
 | _,_=>False
theorem ab_mextS:AbMt K (rExtS K) mExtS:=fun x u xs us A H Q' Q r rs g h k=>by
 unfold mExtS at h
 split at h
 ·exact .inr (ab_mextT _ _ _ _ A H Q' Q r rs g h k)
 ·exact .inl (ab_mext _ _ _ _ A H Q' Q r rs g h k)
 ·exact h.elim
theorem q_exSt {A:AHp} {Q:AVK} {p:Addr} {us:List U}:(mExtS (.ref p) [.tup us] A Q)=(∃ xs,A p=some (.lst xs)/\xs.length + us.length<=sizeLine/\Q .non (updA A p (.lst (xs++us)))):=rfl
theorem q_exSr {A:AHp} {Q:AVK} {p q:Addr}:(mExtS (.ref p) [.ref q] A Q)=(∃ xs ws,A p=some (.lst xs)/\A q=some (.lst ws)/\xs.length + ws.length<=sizeLine/\Q .non (updA A p (.lst (xs++ws)))):=rfl
end
noncomputable def cutL {α:Type} (xs:List α) (lo hi:Option Int):List α:=(xs.drop (HT.sIx xs.length 0 lo)).take (HT.sIx xs.length xs.length hi - HT.sIx xs.length 0 lo)
theorem cutU_map {α:Type} (f:α->U) (xs:List α) (lo hi:Option Int):cutU (xs.map f) lo hi=(cutL xs lo hi).map f:=by
 unfold cutU cutL
 rw [Yb,Y5,Yaf]
theorem sIx_m1 (n d:Nat) (h:0 < n):HT.sIx n d (some (-1))=n - 1:=by
 unfold HT.sIx
 simp only
 split <;> lia
theorem ZjE (xs:List U) (h:0 < xs.length):cutU xs none (some (-1))=xs.dropLast:=by
 unfold cutU
 rw [HT.sIx_none,sIx_m1 _ _ h,YaB,Nat.sub_zero,Ybu]
theorem eqK {w v:Wr} {A:AHp} {Q:AVK} (h1:w.ok=true) (h2:v.ok=true) (hd:w.dep<=189) (h:Q (.bl (w.like v)) A):ZbP false w.keyU v.keyU A Q :=
 ⟨w.keyD,v.keyD,w.duK,v.duK,w.canK h1,v.canK h2,YE w.deepK (by lia),by rw [if_neg (by decide),w.eqvK];exact h⟩
theorem Wr.keyU_tup (w:Wr):∃ us,w.keyU=.tup us:=by cases w <;> exact ⟨_,rfl⟩
theorem q_eqK {w v:Wr} {A:AHp} {Q:AVK}:(xEq w.keyU v.keyU A Q)=(ZbP false w.keyU v.keyU A Q):=by
 obtain ⟨a,e⟩:=w.keyU_tup
 obtain ⟨b,e'⟩:=v.keyU_tup
 rw [e,e'];rfl
theorem Zd9:∀ (ws us:List Wr),depL (ws++us)=max (depL ws) (depL us)
 | [],us=>by simp [depL]
 | w::ws,us=>by simp only [List.cons_append,depL,Zd9 ws us,Nat.max_assoc]
noncomputable def LtAt (A:Around) (s:Shared) (y x:Value) (b:Bool):Prop:=∀ (prog:Program) (w:World) (E:Value->Shared->Prop) (Q:Value->Shared->Prop),Q (.bool b) s->wpAny (model prog w) A (richCompare .Lt y x) Q E s
noncomputable def lexN (e l:Nat->Bool) (d:Bool):Nat->Nat->Bool
 | _,0=>d
 | i,k + 1=>if e i=true then lexN e l d (i + 1) k else l i
section
open PySem.SeqAt
open PySem.AutoSeq1 (wpAny_loadPart')
open PySem.MeetsSeq PySem.MeetsSeq2 PySem.MeetsSeq3
theorem Zho (l b:Addr) (items items2:Array Value) (n n2:Nat) (dd dd2:Option Addr) (sl sl2:Array (Option Value)) (e lt:Nat->Bool) :
  Meets (Builtin.«tuple.__lt__» ⟨[.ref l,.ref b],[]⟩)
   (fun A R s=>s.heap.get? l=some { cls:=.type "tuple",dict:=dd,data:=.seq items n,slots:=sl }/\s.heap.get? b=some { cls:=.type "tuple",dict:=dd2,data:=.seq items2 n2,slots:=sl2 } /\
    (∀ j (h1:j < items.size) (h2:j < items2.size),EqAt A.in1 s items[j] items2[j] (e j))/\(∀ j (h1:j < items.size) (h2:j < items2.size),(∀ i,i < j->e i=true)->e j=false->LtAt A.in1 s items[j] items2[j] (lt j)) /\
    R (.ok (.ret (.bool (lexN e lt (decide (items.size < items2.size)) 0 (min items.size items2.size))))) s) :=
 .of_wp fun prog w A R s h=>by
  obtain ⟨hp,g,d,tk,os⟩:=s;obtain ⟨hl,hb,he,hlt,h⟩:=h
  have f2:=AutoSeq1.sub_tuple_tuple
  have hZ:(items.toList.zip items2.toList).length=min items.size items2.size:=by simp
  wp_walk using YN hl,YN hb,YcU _ (fun rest b s'=>b.1=none/\s'=⟨hp,g,d,tk,os⟩/\∃ i k,rest=(items.toList.zip items2.toList).drop i/\i + k=min items.size items2.size/\(∀ j,j < i->e j=true) /\
   R (.ok (.ret (.bool (lexN e lt (decide (items.size < items2.size)) i k)))) ⟨hp,g,d,tk,os⟩) _
  case turn =>
   rintro ⟨y,x⟩ rest b s' ⟨hb',rfl,i,k,hr,hk,hall,hR⟩
   have hi:i < (items.toList.zip items2.toList).length:=by
    rcases Nat.lt_or_ge i (items.toList.zip items2.toList).length with q | q
    ·exact q
    ·rw [List.drop_eq_nil_of_le q] at hr;cases hr
   have hi2:i < min items.size items2.size:=hZ ▸ hi
   rw [YaM hi] at hr
   injection hr with h1 h2
   have hyx:y=items[i]'(by lia)/\x=items2[i]'(by lia):=by
    have:(items.toList.zip items2.toList)[i]=(items[i]'(by lia),items2[i]'(by lia)):=by simp
    rw [this] at h1
    injection h1 with a1 a2
    exact ⟨a1,a2⟩
   obtain ⟨rfl,rfl⟩:=hyx
   obtain ⟨k,rfl⟩:∃ k',k=k' + 1:=⟨k - 1,by lia⟩
   simp only [lexN] at hR
   refine Yd (he i (by lia) (by lia) prog w _ _ ?_)
   cases q:e i with
   | true =>
    rw [q,if_pos rfl] at hR
    wp_walk
    exact ⟨rfl,rfl,i + 1,k,h2,by lia,fun j hj=>by
     by_cases hji:j=i
     ·rw [hji];exact q
     ·exact hall j (by lia),hR⟩
   | false =>
    rw [q,if_neg (by decide)] at hR
    have hri:=hlt i (by lia) (by lia) hall q prog w
    wp_walk using hri
    exact ⟨_,rfl,by simpa using hR⟩
  case fin =>
   rintro ⟨b1,b2⟩ s' ⟨hb',rfl,i,k,hr,hk,hall,hR⟩
   simp only at hb'
   subst hb'
   have hi:(items.toList.zip items2.toList).length<=i:=List.drop_eq_nil_iff.mp hr.symm
   obtain rfl:k=0:=by lia
   wp_walk
   exact ⟨_,rfl,by simpa [Builtin.Tuple.tupleCompareSizes,lexN] using hR⟩
  case h =>
   exact ⟨rfl,rfl,0,_,rfl,by lia,fun j hj=>absurd hj (Yb7 _),h⟩
theorem ZiB (l b:Addr) (items items2:Array Value) (n n2:Nat) (dd dd2:Option Addr) (sl sl2:Array (Option Value)) (e lt:Nat->Bool) (k:Nat) :
  ∀ i : Nat,i + k=min items.size items2.size->(∀ j,j < i->e j=true)->Meets (Builtin.«list.__eq__.loop» ⟨[.ref l,.ref b,rawInt i,rawInt 0],[]⟩)
   (fun A R s=>s.heap.get? l=some { cls:=.type "list",dict:=dd,data:=.seq items n,slots:=sl }/\s.heap.get? b=some { cls:=.type "list",dict:=dd2,data:=.seq items2 n2,slots:=sl2 } /\
    (∀ j (h1:j < items.size) (h2:j < items2.size),EqAt A.in1 s items[j] items2[j] (e j))/\(∀ j (h1:j < items.size) (h2:j < items2.size),(∀ i,i < j->e i=true)->e j=false->LtAt A.in1 s items[j] items2[j] (lt j)) /\
    R (.ok (.ret (.bool (lexN e lt (decide (items.size < items2.size)) i k)))) s):=by
 induction k with
 | zero =>
  intro i hk hall prog w A R s h
  obtain ⟨hp,g,d,tk,os⟩:=s;obtain ⟨hl,hb,he,hlt,h⟩:=h
  wp_walk using YN hl,YN hb
  by_cases q:i < items.size
  ·have z1:items[((i:Nat):Int).toNat]? = some (items[i]):=by simp [q]
   have z2:items2[((i:Nat):Int).toNat]? = none:=by simp;lia
   rw [z1,z2]
   wp_walk using YN hl,YN hb
   exact h
  ·have z1:items[((i:Nat):Int).toNat]? = none:=by simp;lia
   rw [z1]
   wp_walk using YN hl,YN hb
   exact h
 | succ k ih =>
  intro i hk hall prog w A R s h
  obtain ⟨hp,g,d,tk,os⟩:=s;obtain ⟨hl,hb,he,hlt,h⟩:=h
  wp_walk using YN hl,YN hb
  have b1:i < items.size:=by lia
  have b2:i < items2.size:=by lia
  have z1:items[((i:Nat):Int).toNat]? = some items[i]:=by simp [b1]
  have z2:items2[((i:Nat):Int).toNat]? = some items2[i]:=by simp [b2]
  have hc:((i:Int) + 1)=((i + 1:Nat):Int):=by push_cast;rfl
  simp only [lexN] at h
  rw [z1,z2]
  refine Yd (he i b1 b2 prog w _ _ ?_)
  cases q:e i with
  | true =>
   rw [q,if_pos rfl] at h
   wp_walk
   rw [hc]
   exact ⟨YaP plain_eq_loop _,YbA entry_eq_loop (by
    rw [Ya1 plain_eq_loop _]
    exact ih (i + 1) (by lia) (fun j hj=>by
     by_cases hji:j=i
     ·rw [hji];exact q
     ·exact hall j (by lia)) prog w A R _ ⟨hl,hb,he,hlt,h⟩)⟩
  | false =>
   rw [q,if_neg (by decide)] at h
   have hri:=hlt i b1 b2 hall q prog w
   wp_walk using YN hl,YN hb
   rw [z1,z2]
   wp_walk using hri
   exact h
theorem ZjG (l b:Addr) (items items2:Array Value) (n n2:Nat) (dd dd2:Option Addr) (sl sl2:Array (Option Value)) (e lt:Nat->Bool) :
  Meets (Builtin.«list.__lt__» ⟨[.ref l,.ref b],[]⟩)
   (fun A R s=>s.heap.get? l=some { cls:=.type "list",dict:=dd,data:=.seq items n,slots:=sl }/\s.heap.get? b=some { cls:=.type "list",dict:=dd2,data:=.seq items2 n2,slots:=sl2 } /\
    (∀ j (h1:j < items.size) (h2:j < items2.size),EqAt A.in1 s items[j] items2[j] (e j))/\(∀ j (h1:j < items.size) (h2:j < items2.size),(∀ i,i < j->e i=true)->e j=false->LtAt A.in1 s items[j] items2[j] (lt j)) /\
    R (.ok (.ret (.bool (lexN e lt (decide (items.size < items2.size)) 0 (min items.size items2.size))))) s):=by
 intro prog w A R s h
 obtain ⟨hp,g,d,tk,os⟩:=s;obtain ⟨hl,hb,he,hlt,h⟩:=h
 have f3:=AutoSeq1.sub_list_list
 wp_walk using YN hl,YN hb
 exact ⟨YaP plain_eq_loop _,YbA entry_eq_loop (by
  rw [Ya1 plain_eq_loop _]
  exact ZiB l b items items2 n n2 dd dd2 sl sl2 e lt _ 0 (by lia) (fun j hj=>absurd hj (Yb7 _)) prog w A R _ ⟨hl,hb,he,hlt,h⟩)⟩
end
section
open PySem.SeqAt
variable {A:Around} {s:Shared} {l b:Addr} {items items2:Array Value} {e lt:Nat->Bool}
theorem LtAt.tuples (hl:s.heap.IsTuple l items) (hb:s.heap.IsTuple b items2) (hu:A.units < cLine) (he:∀ j (h1:j < items.size) (h2:j < items2.size),EqAt A.in1 s items[j] items2[j] (e j))
  (hlt:∀ j (h1:j < items.size) (h2:j < items2.size),(∀ i,i < j->e i=true)->e j=false->LtAt A.in1 s items[j] items2[j] (lt j)):LtAt A s (.ref l) (.ref b) (lexN e lt (decide (items.size < items2.size)) 0 (min items.size items2.size)):=fun prog w E Q h=>by
 obtain ⟨⟨cls,dd,data,sl⟩,ho,hc,n,hd⟩:=id hl
 obtain ⟨⟨cls2,dd2,data2,sl2⟩,ho2,hc2,n2,hd2⟩:=id hb
 simp only at hc hd hc2 hd2
 subst hc hd hc2 hd2
 refine Ycb (op:=.Lt) ⟨_,ho,rfl⟩ ⟨_,ho2,rfl⟩ PySem.F.slot_tuple_lt PySem.F.entry_tuple_lt (PySem.F.args_tuple_lt_2 _ _) (Zho l b items items2 n n2 dd dd2 sl sl2 e lt) ⟨ho,ho2,he,hlt,?_⟩ hu
 exact ⟨(fun x=>nomatch x),h⟩
theorem LtAt.lists (hl:s.heap.IsList l items) (hb:s.heap.IsList b items2) (hu:A.units < cLine) (he:∀ j (h1:j < items.size) (h2:j < items2.size),EqAt A.in1 s items[j] items2[j] (e j))
  (hlt:∀ j (h1:j < items.size) (h2:j < items2.size),(∀ i,i < j->e i=true)->e j=false->LtAt A.in1 s items[j] items2[j] (lt j)):LtAt A s (.ref l) (.ref b) (lexN e lt (decide (items.size < items2.size)) 0 (min items.size items2.size)):=fun prog w E Q h=>by
 obtain ⟨⟨cls,dd,data,sl⟩,ho,hc,n,hd⟩:=id hl
 obtain ⟨⟨cls2,dd2,data2,sl2⟩,ho2,hc2,n2,hd2⟩:=id hb
 simp only at hc hd hc2 hd2
 subst hc hd hc2 hd2
 refine Ycb (op:=.Lt) ⟨_,ho,rfl⟩ ⟨_,ho2,rfl⟩ PySem.F.slot_list_lt PySem.F.entry_list_lt (PySem.F.args_list_lt_2 _ _) (ZjG l b items items2 n n2 dd dd2 sl sl2 e lt) ⟨ho,ho2,he,hlt,?_⟩ hu
 exact ⟨(fun x=>nomatch x),h⟩
end
mutual
noncomputable def ltv:PyData->PyData->Bool
 | .int i,.int j=>decide (i < j)
 | .str x,.str y=>decide (x.cps.toList < y.cps.toList)
 | .tuple xs,.tuple ys=>ltvA xs ys
 | .list xs,.list ys=>ltvA xs ys
 | _,_=>false
noncomputable def ltvA:List PyData->List PyData->Bool
 | [],[]=>false
 | [],_::_=>true
 | _::_,[]=>false
 | x::xs,y::ys=>if PyData.eqv x y=true then ltvA xs ys else ltv x y
end
mutual
noncomputable def okLt:PyData->PyData->Bool
 | .int _,.int _=>true
 | .str _,.str _=>true
 | .tuple xs,.tuple ys=>Za1 xs ys
 | .list xs,.list ys=>Za1 xs ys
 | _,_=>false
noncomputable def Za1:List PyData->List PyData->Bool
 | [],_=>true
 | _::_,[]=>true
 | x::xs,y::ys=>if PyData.eqv x y=true then Za1 xs ys else okLt x y
end
noncomputable def ZcJ (xs ys:List PyData) (j:Nat):Bool:=match xs[j]?,ys[j]? with
 | some x,some y=>ltv x y
 | _,_=>false
noncomputable def Zcc (xs ys:List PyData) (j:Nat):Bool:=match xs[j]?,ys[j]? with
 | some x,some y=>PyData.eqv x y
 | _,_=>false
theorem ZdX (e l e' l':Nat->Bool) (d:Bool) (c:Nat) (he:∀ j,e (j + c)=e' j) (hl:∀ j,l (j + c)=l' j):∀ k i,lexN e l d (i + c) k=lexN e' l' d i k
 | 0,i=>rfl
 | k + 1,i=>by
  simp only [lexN,he,hl]
  rw [show i + c + 1=(i + 1) + c from by lia,ZdX e l e' l' d c he hl k (i + 1)]
theorem Zer:∀ (xs ys:List PyData),lexN (Zcc xs ys) (ZcJ xs ys) (decide (xs.length < ys.length)) 0 (min xs.length ys.length)=ltvA xs ys
 | [],[]=>by simp [lexN,ltvA]
 | [],y::ys=>by simp [lexN,ltvA]
 | x::xs,[]=>by simp [lexN,ltvA]
 | x :: xs,y::ys=>by
  have ih:=Zer xs ys
  simp only [List.length_cons,Nat.add_min_add_right,lexN,ltvA]
  have e0:Zcc (x::xs) (y::ys) 0=PyData.eqv x y:=rfl
  have l0:ZcJ (x::xs) (y::ys) 0=ltv x y:=rfl
  rw [e0,l0]
  split
  ·rw [<- ih]
   have:=ZdX (Zcc (x::xs) (y::ys)) (ZcJ (x::xs) (y::ys)) (Zcc xs ys) (ZcJ xs ys) (decide (xs.length < ys.length)) 1 (fun j=>by simp [Zcc]) (fun j=>by simp [ZcJ]) (min xs.length ys.length) 0
   rw [<- this]
   have e:decide (xs.length + 1 < ys.length + 1)=decide (xs.length < ys.length):=by simp
   rw [e]
  ·rfl
theorem Za7 {h:Heap}:∀ {vs:List Value} {xs:List PyData} {as:List Addr},ReadsAll h vs xs as->∀ (j:Nat) (h1:j < vs.length),∃ x bs,xs[j]? = some x/\Reads h vs[j] x bs
 | _,_,_,.nil,j,h1=>absurd h1 (Yb7 _)
 | _,_,_,.cons r rs,0,_=>⟨_,_,rfl,r⟩
 | _,_,_,.cons r rs,j + 1,h1=>Za7 rs j (Nat.lt_of_succ_lt_succ h1)
theorem ZaZ {h:Heap}:∀ {vs:List Value} {xs:List PyData} {as:List Addr},ReadsAll h vs xs as->vs.length=xs.length
 | _,_,_,.nil=>rfl
 | _,_,_,.cons _ rs=>by rw [List.length_cons,List.length_cons,ZaZ rs]
theorem ZbR:∀ {xs:List PyData} {j:Nat} {x:PyData},PyData.canLayAll0 xs=true->xs[j]? = some x->x.canLay0=true
 | y :: ys,0,x,h,e=>by
  simp only [PyData.canLayAll0,Yc] at h
  simp at e;subst e;exact h.1
 | y :: ys,j + 1,x,h,e=>by
  simp only [PyData.canLayAll0,Yc] at h
  exact ZbR h.2 (by simpa using e)
theorem ZbE:∀ {xs:List PyData} {j:Nat} {x:PyData},xs[j]? = some x->x.depth<=PyData.depthAll xs
 | y::ys,0,x,e=>by simp at e;subst e;simp only [PyData.depthAll];lia
 | y :: ys,j + 1,x,e=>by
  have:=ZbE (xs:=ys) (j:=j) (x:=x) (by simpa using e)
  simp only [PyData.depthAll];lia
theorem ZgF:∀ {xs ys:List PyData} {j:Nat} {x y:PyData},Za1 xs ys=true->xs[j]? = some x->ys[j]? = some y->(∀ i,i < j->Zcc xs ys i=true)->PyData.eqv x y=false->okLt x y=true
 | a :: xs,b::ys,0,x,y,h,e1,e2,_,q=>by
  simp at e1 e2;subst e1 e2
  simp only [Za1] at h
  rw [q,if_neg (by decide)] at h
  exact h
 | a :: xs,b::ys,j + 1,x,y,h,e1,e2,hp,q=>by
  simp only [Za1] at h
  have:PyData.eqv a b=true:=hp 0 (by lia)
  rw [this,if_pos rfl] at h
  exact ZgF h (by simpa using e1) (by simpa using e2) (fun i hi=>by have:=hp (i + 1) (by lia);simpa [Zcc] using this) q
theorem Zct:∀ (m:Nat) (da db:PyData) (A:Around) (s:Shared) (a b:Value) (as bs:List Addr),da.depth<=m->Reads s.heap a da as->Reads s.heap b db bs->da.canLay0=true->db.canLay0=true->okLt da db=true ->
  A.units + max da.depth db.depth < cLine->LtAt A s a b (ltv da db):=by
 intro m
 induction m with
 | zero =>
  intro da db A s a b as bs hm ra rb ca cb ok hu
  cases ra with
  | int x t =>
   cases rb with
   | int y u=>intro prog w E Q h;exact (YbB (by simpa [ltv] using h):wpAny (model prog w) A (compareOp .Lt (.int x t) (.int y u)) Q E s)
   | _=>simp [okLt] at ok
  | str x t =>
   cases rb with
   | str y u=>intro prog w E Q h;exact (Ycs (by simpa [ltv] using h):wpAny (model prog w) A (compareOp .Lt (.str x t) (.str y u)) Q E s)
   | _=>simp [okLt] at ok
  | list _ _ _ _=>simp [PyData.depth] at hm
  | tuple _ _ _ _=>simp [PyData.depth] at hm
  | none=>simp [okLt] at ok
  | bool _=>simp [okLt] at ok
  | dict=>cases ca
 | succ m ih =>
  intro da db A s a b as bs hm ra rb ca cb ok hu
  have seq:∀ (vs ws:Array Value) (xs ys:List PyData) (as bs:List Addr),ReadsAll s.heap vs.toList xs as->ReadsAll s.heap ws.toList ys bs->PyData.canLayAll0 xs=true->PyData.canLayAll0 ys=true->Za1 xs ys=true->PyData.depthAll xs<=m->A.units + (max (PyData.depthAll xs) (PyData.depthAll ys) + 1) < cLine ->
    (∀ j (h1:j < vs.size) (h2:j < ws.size),SeqAt.EqAt A.in1 s vs[j] ws[j] (Zcc xs ys j))/\(∀ j (h1:j < vs.size) (h2:j < ws.size),(∀ i,i < j->Zcc xs ys i=true)->Zcc xs ys j=false->LtAt A.in1 s vs[j] ws[j] (ZcJ xs ys j))/\vs.size=xs.length/\ws.size=ys.length:=by
   intro vs ws xs ys as bs r1 r2 c1 c2 ok hd hu
   have l1:=ZaZ r1
   have l2:=ZaZ r2
   refine ⟨fun j h1 h2=>?_,fun j h1 h2 hp q=>?_,by simpa using l1,by simpa using l2⟩
   ·obtain ⟨x,as1,ex,rx⟩:=Za7 r1 j (by simpa using h1)
    obtain ⟨y,bs1,ey,ry⟩:=Za7 r2 j (by simpa using h2)
    have d1:=ZbE ex
    have:=YbV x y A.in1 s _ _ _ _ rx ry (ZbR c1 ex) (ZbR c2 ey) (by rw [show A.in1.units=A.units + 1 from rfl];lia)
    have e:Zcc xs ys j=PyData.eqv x y:=by simp [Zcc,ex,ey]
    rw [e]
    simpa using this
   ·obtain ⟨x,as1,ex,rx⟩:=Za7 r1 j (by simpa using h1)
    obtain ⟨y,bs1,ey,ry⟩:=Za7 r2 j (by simpa using h2)
    have e:Zcc xs ys j=PyData.eqv x y:=by simp [Zcc,ex,ey]
    have e2:ZcJ xs ys j=ltv x y:=by simp [ZcJ,ex,ey]
    rw [e] at q
    rw [e2]
    have d1:=ZbE ex
    have d2:=ZbE ey
    have:=ih x y A.in1 s _ _ _ _ (by lia) rx ry (ZbR c1 ex) (ZbR c2 ey) (ZgF ok ex ey hp q) (by rw [show A.in1.units=A.units + 1 from rfl];lia)
    simpa using this
  cases ra with
  | int x t =>
   cases rb with
   | int y u=>intro prog w E Q h;exact (YbB (by simpa [ltv] using h):wpAny (model prog w) A (compareOp .Lt (.int x t) (.int y u)) Q E s)
   | _=>simp [okLt] at ok
  | str x t =>
   cases rb with
   | str y u=>intro prog w E Q h;exact (Ycs (by simpa [ltv] using h):wpAny (model prog w) A (compareOp .Lt (.str x t) (.str y u)) Q E s)
   | _=>simp [okLt] at ok
  | list k1 k2 k3 k4 =>
   cases rb with
   | list j1 j2 j3 j4 =>
    simp only [PyData.depth] at hm hu
    simp only [PyData.canLay0] at ca cb
    simp only [okLt] at ok
    obtain ⟨h1,h2,h3,h4⟩:=seq _ _ _ _ _ _ k4 j4 ca cb ok (by lia) (by lia)
    have:=LtAt.lists ⟨_,k1,k2,_,k3⟩ ⟨_,j1,j2,_,j3⟩ (by lia) h1 h2
    rw [h3,h4,Zer] at this
    simpa [ltv] using this
   | _=>simp [okLt] at ok
  | tuple k1 k2 k3 k4 =>
   cases rb with
   | tuple j1 j2 j3 j4 =>
    simp only [PyData.depth] at hm hu
    simp only [PyData.canLay0] at ca cb
    simp only [okLt] at ok
    obtain ⟨h1,h2,h3,h4⟩:=seq _ _ _ _ _ _ k4 j4 ca cb ok (by lia) (by lia)
    have:=LtAt.tuples ⟨_,k1,k2,_,k3⟩ ⟨_,j1,j2,_,j3⟩ (by lia) h1 h2
    rw [h3,h4,Zer] at this
    simpa [ltv] using this
   | _=>simp [okLt] at ok
  | none=>simp [okLt] at ok
  | bool _=>simp [okLt] at ok
  | dict=>cases ca
noncomputable def rLtD (K:YFr):R2:=fun x y H Q=>∃ d e,Rep K H d x/\Rep K H e y/\d.canLay0=true/\e.canLay0=true/\okLt d e=true/\d.depth<=190/\e.depth<=190/\Q (.bl (ltv d e)) H
noncomputable def uLtD (K:YFr):R2:=fun x y H Q=>match x,y with
 | .ref a,y=>rLtD K (.ref a) y H Q
 | x,y=>uLt x y H Q
section
variable {X:Cx}
theorem op_ltD (hu:X.A.units + 200 < cLine):OpR X (compareOp .Lt) (rLtD X.K):=by
 intro pins s σ H x y v u Q I rx ry h
 obtain ⟨d,e,h1,h2,c1,c2,ok,d1,d2,q⟩:=h
 obtain ⟨as,ra⟩:=Rep.reads I h1 rx
 obtain ⟨bs,rb⟩:=Rep.reads I h2 ry
 exact Zct _ d e X.A s v u as bs (Yg _) ra rb c1 c2 ok (by lia) X.prog X.w X.xe _ ⟨.bl _,H,I,rfl,q⟩
theorem o_ltD {k:Nat} (hr:Room k X.A):OpR X (compareOp .Lt) (uLtD X.K):=((op_ltD (by have:=hr.un;lia)).or o_lt).imp fun x y H Q q=>by
 unfold uLtD at q
 split at q
 ·exact .inl q
 ·exact .inr q
end
noncomputable def xLtD:AR2:=fun u w A Q=>match u,w with
 | .int i,.int j=>Q (.bl (decide (i < j))) A
 | .str i,.str j=>Q (.bl (decide (i.cps.toList < j.cps.toList))) A
 | .tup us,.tup ws=>∃ d e,DU A (.tup us) d/\DU A (.tup ws) e/\d.canLay0=true/\e.canLay0=true/\okLt d e=true/\d.depth<=190/\e.depth<=190/\Q (.bl (ltv d e)) A
 | .ref a,.ref b=>∃ d e,DU A (.ref a) d/\DU A (.ref b) e/\d.canLay0=true/\e.canLay0=true/\okLt d e=true/\d.depth<=190/\e.depth<=190/\Q (.bl (ltv d e)) A
 | _,_=>False
theorem ab_ltD {K:YFr}:AbR K (uLtD K) xLtD:=fun x y u w A H Q' Q hu hw g h k=>by
 unfold xLtD at h
 split at h
 ·cases hu;cases hw;exact k _ _ _ _ (.refl H) g (.bl _) h
 ·cases hu;cases hw;exact k _ _ _ _ (.refl H) g (.bl _) h
 ·obtain ⟨d,e,h1,h2,c1,c2,ok,d1,d2,q⟩:=h
  have q1:=h1.rep g hu
  have q2:=h2.rep g hw
  cases hu
  exact ⟨d,e,q1,q2,c1,c2,ok,d1,d2,k _ _ _ _ (.refl H) g (.bl _) q⟩
 ·obtain ⟨d,e,h1,h2,c1,c2,ok,d1,d2,q⟩:=h
  have q1:=h1.rep g hu
  have q2:=h2.rep g hw
  cases hu
  exact ⟨d,e,q1,q2,c1,c2,ok,d1,d2,k _ _ _ _ (.refl H) g (.bl _) q⟩
 ·exact h.elim
section
variable {A:AHp} {Q:AVK} {i j:Int} {x y:Str} {us ws:List U} {p q:Addr}
theorem q_ltDi:(xLtD (.int i) (.int j) A Q)=(Q (.bl (decide (i < j))) A):=rfl
theorem q_ltDs:(xLtD (.str x) (.str y) A Q)=(Q (.bl (decide (x.cps.toList < y.cps.toList))) A):=rfl
theorem q_ltDt:(xLtD (.tup us) (.tup ws) A Q)=(∃ d e,DU A (.tup us) d/\DU A (.tup ws) e/\d.canLay0=true/\e.canLay0=true/\okLt d e=true/\d.depth<=190/\e.depth<=190/\Q (.bl (ltv d e)) A):=rfl
theorem q_ltDr:(xLtD (.ref p) (.ref q) A Q)=(∃ d e,DU A (.ref p) d/\DU A (.ref q) e/\d.canLay0=true/\e.canLay0=true/\okLt d e=true/\d.depth<=190/\e.depth<=190/\Q (.bl (ltv d e)) A):=rfl
end
end L2
set_option maxHeartbeats 4000000
namespace SortA
open PySem PySem.W PyProof.Rows
noncomputable def runT {α:Type} (lt:Nat->Nat->Bool):KasT α->α
 | .ret a=>a
 | .ask i j k=>runT lt (k (lt i j))
theorem Zbv {α β:Type} (lt:Nat->Nat->Bool) (f:α->KasT β):∀ t:KasT α,runT lt (t.bind f)=runT lt (f (runT lt t))
 | .ret _=>rfl
 | .ask i j k=>by
  show runT lt ((k (lt i j)).bind f)=_
  exact Zbv lt f _
noncomputable def AllP (n:Nat) {α:Type} (P:α->Prop):KasT α->Prop
 | .ret a=>P a
 | .ask i j k=>i < n/\j < n/\∀ b,AllP n P (k b)
theorem AllP.bind {n:Nat} {α β:Type} {P:α->Prop} {R:β->Prop} {f:α->KasT β} (hf:∀ a,P a->AllP n R (f a)):∀ t:KasT α,AllP n P t->AllP n R (t.bind f)
 | .ret a,h=>hf a h
 | .ask _ _ k,h=>⟨h.1,h.2.1,fun b=>AllP.bind hf (k b) (h.2.2 b)⟩
theorem wpT {α:Type} {cmp:Nat->Nat->(Bool->Shared->Prop)->Shared->Prop} {I:Shared->Prop} {lt:Nat->Nat->Bool} {n:Nat}
  (hc:∀ i j (C:Bool->Shared->Prop) (s:Shared),i < n->j < n->I s->(∀ s',I s'->C (lt i j) s')->cmp i j C s)
  {Q:α->Shared->Prop} {P:α->Prop}:∀ (t:KasT α) (s:Shared),AllP n P t->I s->(∀ s',I s'->Q (runT lt t) s')->t.kasWp cmp Q s
 | .ret _,s,_,hs,hq=>hq s hs
 | .ask i j k,s,hn,hs,hq=>hc i j _ s hn.1 hn.2.1 hs fun s' hs'=>wpT hc (k (lt i j)) s' (hn.2.2 _) hs' hq
noncomputable def PB (n:Nat) (p:Array Nat):Prop:=1<=n/\p.size=n/\∀ x∈p.toList,x < n
theorem PB.at {n:Nat} {p:Array Nat} (h:PB n p) (k:Nat):p.getD k 0 < n:=by
 by_cases hk:k < p.size
 ·have e:p.getD k 0=p[k]'hk:=by simp [Array.getD,hk]
  rw [e]
  exact h.2.2 _ (by simp)
 ·have e:p.getD k 0=0:=by simp [Array.getD,hk]
  rw [e];exact h.1
theorem PB.rev {n:Nat} {p:Array Nat} (h:PB n p) (i j:Nat):PB n (kas_rev p i j) :=
 ⟨h.1,(kas_rev_size i j).trans h.2.1,fun x hx=>h.2.2 x ((YaJ.mp (mirror_perm p i j ((j - i) / 2))).mem_iff.mp hx)⟩
theorem PB.bub {n:Nat} {p:Array Nat} (h:PB n p) (i j:Nat):PB n (bubble p i j) :=
 ⟨h.1,(bubble_size p i j).trans h.2.1,fun x hx=>h.2.2 x ((YaJ.mp (bubble_perm p i j)).mem_iff.mp hx)⟩
theorem Zfz {n:Nat} {p:Array Nat} (h:PB n p):∀ f m,AllP n (fun _=>True) (kas_asc p f m)
 | 0,_=>trivial
 | f + 1,m=>⟨h.at _,h.at _,fun b=>by cases b with
  | true=>exact trivial
  | false=>exact Zfz h f (m + 1)⟩
theorem ZcO {n:Nat}:∀ (f:Nat) (p:Array Nat) (m q:Nat),PB n p->AllP n (fun r=>PB n r.1) (kas_desc f p m q)
 | 0,_,_,_,h=>h
 | f + 1, p,m,q,h=>⟨h.at _,h.at _,fun b=>by
   cases b with
   | true =>
    show AllP n _ (if true=true then (if q > 0 then kas_desc f (kas_rev p (m - (q + 1)) m) (m + 1) 0 else kas_desc f p (m + 1) 0) else _)
    rw [if_pos rfl]
    by_cases hq:q > 0
    ·rw [if_pos hq];exact ZcO f _ _ _ (h.rev _ _)
    ·rw [if_neg hq];exact ZcO f _ _ _ h
   | false=>exact ⟨h.at _,h.at _,fun d=>by
     cases d with
     | true=>exact h
     | false=>exact ZcO f _ _ _ h⟩⟩
theorem Zfn {n m:Nat} {p:Array Nat} (h:PB n p):AllP n (fun r=>PB n r.2) (kas_tail3 m n p):=by
 refine AllP.bind (fun x _=>?_) _ (Zfz (h.rev 0 m) _ _)
 exact h.rev 0 m
theorem ZcI {n m:Nat} {p:Array Nat} (h:PB n p):AllP n (fun r=>PB n r.2) (kas_descPart m n p):=by
 refine AllP.bind (fun r hr=>?_) _ (ZcO _ _ _ _ h)
 split
 ·exact Zfn (hr.rev _ _)
 ·exact Zfn hr
theorem ZiS {n:Nat} {p:Array Nat} (h:PB n p):AllP n (fun r=>PB n r.2) (kas_count n p):=by
 refine AllP.bind (fun r _=>?_) _ (Zfz h _ _)
 split
 ·exact h
 ·split
  ·exact ⟨h.at _,h.at _,fun b=>by
    cases b with
    | true=>exact h
    | false=>exact ZcI (h.rev _ _)⟩
  ·exact ZcI h
theorem Zdh {n:Nat} {p:Array Nat} (h:PB n p) (k:Nat):∀ f l r,AllP n (fun _=>True) (kas_place p k f l r)
 | 0,_,_=>trivial
 | f + 1, l,r=>by
  unfold kas_place
  split
  ·exact trivial
  ·exact ⟨h.at _,h.at _,fun b=>by
    cases b with
    | true=>exact Zdh h k f _ _
    | false=>exact Zdh h k f _ _⟩
theorem Zia {n:Nat}:∀ (f:Nat) (p:Array Nat) (k:Nat),PB n p->AllP n (fun r=>PB n r) (kas_bin f p k)
 | 0,_,_,h=>h
 | f + 1,_,k,h=>AllP.bind (fun _ _=>Zia f _ (k + 1) (h.bub _ _)) _ (Zdh h k _ _ _)
theorem all_sort {n:Nat} (hn:1<=n):AllP n (fun r=>PB n r) (kas_sort n):=by
 refine AllP.bind (fun r hr=>?_) _ (ZiS ⟨hn,by simp,fun x hx=>by simpa using hx⟩)
 split
 ·exact Zia _ _ _ hr
 ·exact hr
structure Ord (n:Nat) (lt:Nat->Nat->Bool):Prop where
 tot:∀ i j,i < n->j < n->lt i j=true->lt j i=false
 tr:∀ i j k,i < n->j < n->k < n->lt j i=false->lt k j=false->lt k i=false
section
variable {n:Nat} {lt:Nat->Nat->Bool}
noncomputable def Pm (n:Nat) (p:Array Nat):Prop:=p.toList.Perm (List.range n)
theorem Pm.size {p:Array Nat} (h:Pm n p):p.size=n:=by
 have:=h.length_eq;simpa using this
theorem Pm.inb {p:Array Nat} (h:Pm n p) (i:Nat) (hi:i < n):p.getD i 0 < n:=by
 have hs:=h.size
 have e:p.getD i 0=p[i]'(by lia):=by simp [Array.getD,hs,hi]
 rw [e]
 have hm:p[i]'(by lia)∈p.toList:=by simp
 have:=h.mem_iff.mp hm
 simpa using this
theorem Pm.start:Pm n (List.toArray (List.range n)):=by unfold Pm;simp
theorem Pm.rev {p:Array Nat} (h:Pm n p) (i j:Nat):Pm n (kas_rev p i j):=by
 unfold Pm kas_rev
 have e:=mirror_perm p i j ((j - i) / 2)
 exact (YaJ.mp e).trans h
theorem Pm.bub {p:Array Nat} (h:Pm n p) (i j:Nat):Pm n (bubble p i j):=by
 unfold Pm
 have e:=bubble_perm p i j
 exact (YaJ.mp e).trans h
theorem Zb8 {p:Array Nat} {k:Nat}:p.getD k 0=(p[k]?).getD 0:=by simp
theorem Zgx {p:Array Nat} {i j:Nat} (hj:j<=p.size) (k:Nat):(kas_rev p i j).getD k 0=if i<=k/\k < j then p.getD (i + j - 1 - k) 0 else p.getD k 0:=by
 rw [Zb8,Zb8,Zb8]
 unfold kas_rev
 rw [getElem?_mirror_all hj]
 split <;> rfl
theorem bub_at {p:Array Nat} {src:Nat} (hs:src < p.size) (d:Nat) (hd:d<=src) (k:Nat) :
  (bubble p src d).getD k 0=if k=src - d then p.getD src 0 else if src - d < k/\k<=src then p.getD (k - 1) 0 else p.getD k 0:=by
 rw [Zb8,Zb8,Zb8,Zb8,getElem?_bubble hs d hd]
 repeat' split
 all_goals rfl
noncomputable def Le (lt:Nat->Nat->Bool) (p:Array Nat) (i j:Nat):Prop:=lt (p.getD j 0) (p.getD i 0)=false
noncomputable def Up (lt:Nat->Nat->Bool) (p:Array Nat) (m:Nat):Prop:=∀ i j,i < j->j < m->Le lt p i j
noncomputable def Dn (lt:Nat->Nat->Bool) (p:Array Nat) (m:Nat):Prop:=∀ i j,i < j->j < m->Le lt p j i
theorem Le.trans (O:Ord n lt) {p:Array Nat} (hp:Pm n p) {i j k:Nat} (hi:i < n) (hj:j < n) (hk:k < n) (a:Le lt p i j) (b:Le lt p j k):Le lt p i k :=
 O.tr _ _ _ (hp.inb i hi) (hp.inb j hj) (hp.inb k hk) a b
theorem Le.self (O:Ord n lt) {p:Array Nat} (hp:Pm n p) {i:Nat} (hi:i < n):Le lt p i i:=by
 unfold Le
 cases h:lt (p.getD i 0) (p.getD i 0) with
 | false=>rfl
 | true=>have e:=O.tot _ _ (hp.inb i hi) (hp.inb i hi) h;rw [h] at e;exact e
theorem Le.of (O:Ord n lt) {p:Array Nat} (hp:Pm n p) {i j:Nat} (hi:i < n) (hj:j < n) (h:lt (p.getD i 0) (p.getD j 0)=true):Le lt p i j :=
 O.tot _ _ (hp.inb i hi) (hp.inb j hj) h
theorem Up.snoc (O:Ord n lt) {p:Array Nat} (hp:Pm n p) {m:Nat} (h1:1<=m) (hm:m < n) (h:Up lt p m) (hl:Le lt p (m - 1) m):Up lt p (m + 1):=by
 intro i j hij hj
 by_cases hjm:j < m
 ·exact h i j hij hjm
 ·obtain rfl:j=m:=by lia
  by_cases hi:i=j - 1
  ·rw [hi];exact hl
  ·exact Le.trans O hp (by lia) (by lia) (by lia) (h i (j - 1) (by lia) (by lia)) hl
theorem Dn.snoc (O:Ord n lt) {p:Array Nat} (hp:Pm n p) {m:Nat} (h1:1<=m) (hm:m < n) (h:Dn lt p m) (hl:Le lt p m (m - 1)):Dn lt p (m + 1):=by
 intro i j hij hj
 by_cases hjm:j < m
 ·exact h i j hij hjm
 ·obtain rfl:j=m:=by lia
  by_cases hi:i=j - 1
  ·rw [hi];exact hl
  ·exact Le.trans O hp (by lia) (by lia) (by lia) hl (h i (j - 1) (by lia) (by lia))
theorem ZjF (O:Ord n lt) {p:Array Nat} (hp:Pm n p):∀ (f m:Nat),1<=m->m + f<=n->Up lt p m ->
  m <= runT lt (kas_asc p f m)/\runT lt (kas_asc p f m)<=m + f/\Up lt p (runT lt (kas_asc p f m)) /\
   (runT lt (kas_asc p f m) < m + f->lt (p.getD (runT lt (kas_asc p f m)) 0) (p.getD (runT lt (kas_asc p f m) - 1) 0)=true)
 | 0,m,_,_,hu=>⟨Yg _,Yg _,hu,fun h=>absurd h (YaO _)⟩
 | f + 1, m,h1,hf,hu=>by
  cases hc:lt (p.getD m 0) (p.getD (m - 1) 0) with
  | true =>
   have e:runT lt (kas_asc p (f + 1) m)=m:=by
    show runT lt (if lt (p.getD m 0) (p.getD (m - 1) 0)=true then KasT.ret m else kas_asc p f (m + 1))=m
    rw [if_pos hc];rfl
   rw [e]
   exact ⟨Yg _,by lia,hu,fun _=>hc⟩
  | false =>
   have e:runT lt (kas_asc p (f + 1) m)=runT lt (kas_asc p f (m + 1)):=by
    show runT lt (if lt (p.getD m 0) (p.getD (m - 1) 0)=true then KasT.ret m else kas_asc p f (m + 1))=_
    rw [if_neg (by rw [hc];simp)]
   rw [e]
   obtain ⟨a,b,c,d⟩:=ZjF O hp f (m + 1) (by lia) (by lia) (hu.snoc O hp h1 (by lia) hc)
   exact ⟨by lia,by lia,c,fun h=>d (by lia)⟩
noncomputable def Lk (lt:Nat->Nat->Bool) (p:Array Nat) (a b:Nat):Prop:=∀ i j,a<=i->i < b->a<=j->j < b->Le lt p i j
theorem Dn.rev {p:Array Nat} (hp:Pm n p) {a b m:Nat} (hb:b<=m) (hm:m<=n) (h:Dn lt p m) (hk:Lk lt p a b):Dn lt (kas_rev p a b) m:=by
 have hs:=hp.size
 intro i j hij hj
 unfold Le
 rw [Zgx (by lia),Zgx (by lia)]
 by_cases hi:a<=i/\i < b
 ·rw [if_pos hi]
  by_cases hj':a<=j/\j < b
  ·rw [if_pos hj'];exact hk _ _ (by lia) (by lia) (by lia) (by lia)
  ·rw [if_neg hj'];exact h _ _ (by lia) (by lia)
 ·rw [if_neg hi]
  by_cases hj':a<=j/\j < b
  ·rw [if_pos hj'];exact h _ _ (by lia) (by lia)
  ·rw [if_neg hj'];exact h _ _ hij hj
theorem Dn.up {p:Array Nat} {m:Nat} (hm:m<=p.size) (h:Dn lt p m):Up lt (kas_rev p 0 m) m:=by
 intro i j hij hj
 unfold Le
 rw [Zgx hm,Zgx hm,if_pos ⟨by lia,by lia⟩,if_pos ⟨by lia,by lia⟩]
 exact h _ _ (by lia) (by lia)
theorem ZdZ (O:Ord n lt):∀ (f:Nat) (p:Array Nat) (m q:Nat),Pm n p->q + 1<=m->m + f<=n->Dn lt p m->Lk lt p (m - (q + 1)) m ->
  ∃ p' m' q',runT lt (kas_desc f p m q)=(p',m',q')/\Pm n p'/\q' + 1<=m'/\m'<=m + f/\Dn lt p' m'/\Lk lt p' (m' - (q' + 1)) m'
 | 0,p,m,q,hp,hq,hf,hd,hl=>⟨p,m,q,rfl,hp,hq,by lia,hd,hl⟩
 | f + 1, p, m,q,hp,hq,hf,hd,hl=>by
  have hs:=hp.size
  have one:∀ p':Array Nat,Pm n p'->Lk lt p' (m + 1 - (0 + 1)) (m + 1):=by
   intro p' hp' i j h1 h2 h3 h4
   obtain rfl:i=m:=by lia
   obtain rfl:j=i:=by lia
   exact Le.self O hp' (by lia)
  cases hc:lt (p.getD m 0) (p.getD (m - 1) 0) with
  | true =>
   have hle:Le lt p m (m - 1):=Le.of O hp (by lia) (by lia) hc
   by_cases hq0:q > 0
   ·have e:runT lt (kas_desc (f + 1) p m q)=runT lt (kas_desc f (kas_rev p (m - (q + 1)) m) (m + 1) 0):=by
     show runT lt (if lt (p.getD m 0) (p.getD (m - 1) 0)=true then (if q > 0 then kas_desc f (kas_rev p (m - (q + 1)) m) (m + 1) 0 else kas_desc f p (m + 1) 0) else _)=_
     rw [if_pos hc,if_pos hq0]
    have hd':Dn lt (kas_rev p (m - (q + 1)) m) (m + 1):=Dn.rev hp (by lia) (by lia) (hd.snoc O hp (by lia) (by lia) hle) hl
    obtain ⟨p',m',q',e',a,b,c,d,g⟩:=ZdZ O f _ (m + 1) 0 (hp.rev (m - (q + 1)) m) (by lia) (by lia) hd' (one _ (hp.rev _ _))
    exact ⟨p',m',q',e.trans e',a,b,by lia,d,g⟩
   ·have e:runT lt (kas_desc (f + 1) p m q)=runT lt (kas_desc f p (m + 1) 0):=by
     show runT lt (if lt (p.getD m 0) (p.getD (m - 1) 0)=true then (if q > 0 then kas_desc f (kas_rev p (m - (q + 1)) m) (m + 1) 0 else kas_desc f p (m + 1) 0) else _)=_
     rw [if_pos hc,if_neg hq0]
    obtain ⟨p',m',q',e',a,b,c,d,g⟩:=ZdZ O f _ (m + 1) 0 hp (by lia) (by lia) (hd.snoc O hp (by lia) (by lia) hle) (one _ hp)
    exact ⟨p',m',q',e.trans e',a,b,by lia,d,g⟩
  | false =>
   cases hc2:lt (p.getD (m - 1) 0) (p.getD m 0) with
   | true =>
    have e:runT lt (kas_desc (f + 1) p m q)=(p,m,q):=by
     show runT lt (if lt (p.getD m 0) (p.getD (m - 1) 0)=true then _ else KasT.ask (p.getD (m - 1) 0) (p.getD m 0) fun d=>if d=true then .ret (p,m,q) else kas_desc f p (m + 1) (q + 1))=_
     rw [if_neg (by rw [hc];simp)]
     show runT lt (if lt (p.getD (m - 1) 0) (p.getD m 0)=true then _ else _)=_
     rw [if_pos hc2];rfl
    exact ⟨p,m,q,e,hp,hq,by lia,hd,hl⟩
   | false =>
    have e:runT lt (kas_desc (f + 1) p m q)=runT lt (kas_desc f p (m + 1) (q + 1)):=by
     show runT lt (if lt (p.getD m 0) (p.getD (m - 1) 0)=true then _ else KasT.ask (p.getD (m - 1) 0) (p.getD m 0) fun d=>if d=true then .ret (p,m,q) else kas_desc f p (m + 1) (q + 1))=_
     rw [if_neg (by rw [hc];simp)]
     show runT lt (if lt (p.getD (m - 1) 0) (p.getD m 0)=true then _ else _)=_
     rw [if_neg (by rw [hc2];simp)]
    have h1:Le lt p (m - 1) m:=hc
    have h2:Le lt p m (m - 1):=hc2
    have hl':Lk lt p (m + 1 - (q + 1 + 1)) (m + 1):=by
     intro i j a1 a2 a3 a4
     have hi:Le lt p i (m - 1)/\Le lt p (m - 1) i:=by
      by_cases x:i=m
      ·rw [x];exact ⟨h2,h1⟩
      ·exact ⟨hl _ _ (by lia) (by lia) (by lia) (by lia),hl _ _ (by lia) (by lia) (by lia) (by lia)⟩
     have hj:Le lt p j (m - 1)/\Le lt p (m - 1) j:=by
      by_cases x:j=m
      ·rw [x];exact ⟨h2,h1⟩
      ·exact ⟨hl _ _ (by lia) (by lia) (by lia) (by lia),hl _ _ (by lia) (by lia) (by lia) (by lia)⟩
     exact Le.trans O hp (by lia) (by lia:m - 1 < n) (by lia) hi.1 hj.2
    obtain ⟨p',m',q',e',a,b,c,d,g⟩:=ZdZ O f _ (m + 1) (q + 1) hp (by lia) (by lia) (hd.snoc O hp (by lia) (by lia) h2) hl'
    exact ⟨p',m',q',e.trans e',a,b,by lia,d,g⟩
noncomputable def Good (n:Nat) (lt:Nat->Nat->Bool) (r:Nat × Array Nat):Prop:=1<=r.1/\r.1<=n/\Pm n r.2/\Up lt r.2 r.1
theorem ZgU (O:Ord n lt) {p:Array Nat} {m:Nat} (hp:Pm n p) (h1:1<=m) (hm:m<=n) (hd:Dn lt p m):Good n lt (runT lt (kas_tail3 m n p)):=by
 unfold kas_tail3
 rw [Zbv]
 have hs:=hp.size
 obtain ⟨a,b,c,_⟩:=ZjF O (hp.rev 0 m) (n - m) m h1 (by lia) (hd.up (by lia))
 exact ⟨YE h1 a,by show runT lt (kas_asc (kas_rev p 0 m) (n - m) m)<=n;lia,hp.rev 0 m,c⟩
theorem Zdn (O:Ord n lt) {p:Array Nat} {m:Nat} (hp:Pm n p) (h1:1<=m) (hm:m < n) (hd:Dn lt p (m + 1)):Good n lt (runT lt (kas_descPart m n p)):=by
 unfold kas_descPart
 rw [Zbv]
 have one:Lk lt p (m + 1 - (0 + 1)) (m + 1):=by
  intro i j h1 h2 h3 h4
  obtain rfl:i=m:=by lia
  obtain rfl:j=i:=by lia
  exact Le.self O hp (by lia)
 obtain ⟨p',m',q',e,a,b,c,d,g⟩:=ZdZ O (n - (m + 1)) p (m + 1) 0 hp (by lia) (by lia) hd one
 rw [e]
 dsimp only
 split
 ·exact ZgU O (a.rev _ _) (by lia) (by lia) (Dn.rev a (Yg _) (by lia) d g)
 ·exact ZgU O a (by lia) (by lia) d
theorem count_ok (O:Ord n lt) {p:Array Nat} (hp:Pm n p) (hn:1<=n):Good n lt (runT lt (kas_count n p)):=by
 unfold kas_count
 rw [Zbv]
 have hs:=hp.size
 have u1:Up lt p 1:=by intro i j a b;lia
 obtain ⟨a,b,c,d⟩:=ZjF O hp (n - 1) 1 (Yg _) (by lia) u1
 generalize runT lt (kas_asc p (n - 1) 1)=m at a b c d
 by_cases hm:m=n
 ·rw [if_pos (by simp [hm])]
  exact ⟨a,by show m<=n;lia,hp,c⟩
 ·rw [if_neg (by simp [hm])]
  have hlt:=d (by lia)
  by_cases h1:m > 1
  ·rw [if_pos h1]
   show Good n lt (runT lt (if lt (p.getD 0 0) (p.getD (m - 1) 0)=true then _ else _))
   by_cases hc:lt (p.getD 0 0) (p.getD (m - 1) 0)=true
   ·rw [if_pos hc];exact ⟨a,by show m<=n;lia,hp,c⟩
   ·rw [if_neg hc]
    have hb:Le lt p (m - 1) 0:=by unfold Le;simpa using hc
    have hk : Lk lt p 0 m:=by
     intro i j _ hi _ hj
     have h0i:Le lt p 0 i/\Le lt p i 0:=by
      constructor
      ·by_cases x:i=0
       ·rw [x];exact Le.self O hp (by lia)
       ·exact c 0 i (by lia) hi
      ·by_cases x:i=m - 1
       ·rw [x];exact hb
       ·exact Le.trans O hp (by lia) (by lia:m - 1 < n) (by lia) (c i (m - 1) (by lia) (by lia)) hb
     have h0j:Le lt p 0 j:=by
      by_cases x:j=0
      ·rw [x];exact Le.self O hp (by lia)
      ·exact c 0 j (by lia) hj
     exact Le.trans O hp (by lia) (by lia:0 < n) (by lia) h0i.2 h0j
    have hd:Dn lt p m:=fun i j hij hj=>hk _ _ (by lia) (by lia) (by lia) (by lia)
    have hd1:Dn lt p (m + 1):=hd.snoc O hp a (by lia) (Le.of O hp (by lia) (by lia) hlt)
    exact Zdn O (hp.rev 0 m) a (by lia) (Dn.rev hp (by lia) (by lia) hd1 hk)
  ·rw [if_neg h1]
   obtain rfl:m=1:=by lia
   refine Zdn O hp (Yg _) (by lia) ?_
   refine Dn.snoc O hp (Yg _) (by lia) (fun i j a b=>by lia) ?_
   exact Le.of O hp (by lia) (by lia) hlt
theorem Zen (O:Ord n lt) {p:Array Nat} {k:Nat} (hp:Pm n p) (hk:k < n) (hu:Up lt p k):∀ (f l r:Nat),r<=k->r<=l + f->l<=r ->
  (∀ i,i < l->Le lt p i k)->(∀ i,r<=i->i < k->Le lt p k i) ->
  runT lt (kas_place p k f l r)<=k/\(∀ i,i < runT lt (kas_place p k f l r)->Le lt p i k)/\(∀ i,runT lt (kas_place p k f l r)<=i->i < k->Le lt p k i)
 | 0, l,r,hr,hf,hlr,h1,h2=>by
  obtain rfl:l=r:=by lia
  exact ⟨hr,h1,h2⟩
 | f + 1, l,r,hr,hf,hlr,h1,h2=>by
  unfold kas_place
  by_cases hge:l ≥ r
  ·rw [if_pos hge]
   obtain rfl:l=r:=by lia
   exact ⟨hr,h1,h2⟩
  ·rw [if_neg hge]
   show runT lt (if lt (p.getD k 0) (p.getD ((l + r) / 2) 0)=true then kas_place p k f l ((l + r) / 2) else kas_place p k f ((l + r) / 2 + 1) r)<=k/\(∀ i,i < runT lt (if lt (p.getD k 0) (p.getD ((l + r) / 2) 0)=true then kas_place p k f l ((l + r) / 2) else kas_place p k f ((l + r) / 2 + 1) r)->Le lt p i k)/\(∀ i,runT lt (if lt (p.getD k 0) (p.getD ((l + r) / 2) 0)=true then kas_place p k f l ((l + r) / 2) else kas_place p k f ((l + r) / 2 + 1) r)<=i->i < k->Le lt p k i)
   by_cases hc:lt (p.getD k 0) (p.getD ((l + r) / 2) 0)=true
   ·rw [if_pos hc]
    have hle:Le lt p k ((l + r) / 2):=Le.of O hp hk (by lia) hc
    refine Zen O hp hk hu f l ((l + r) / 2) (by lia) (by lia) (by lia) h1 fun i a b=>?_
    by_cases x:i=(l + r) / 2
    ·rw [x];exact hle
    ·exact Le.trans O hp hk (by lia:(l + r) / 2 < n) (by lia) hle (hu _ _ (by lia) b)
   ·rw [if_neg hc]
    have hle:Le lt p ((l + r) / 2) k:=by unfold Le;simpa using hc
    refine Zen O hp hk hu f ((l + r) / 2 + 1) r hr (by lia) (by lia) (fun i a=>?_) h2
    by_cases x:i=(l + r) / 2
    ·rw [x];exact hle
    ·exact Le.trans O hp (by lia) (by lia:(l + r) / 2 < n) hk (hu _ _ (by lia) (by lia)) hle
theorem bin_ok (O:Ord n lt):∀ (f:Nat) (p:Array Nat) (k:Nat),Pm n p->1<=k->k + f=n->Up lt p k->Pm n (runT lt (kas_bin f p k))/\Up lt (runT lt (kas_bin f p k)) n
 | 0,p,k,hp,_,hk,hu=>⟨hp,by have e:k=n:=(by lia);rw [<- e];exact hu⟩
 | f + 1, p, k,hp,h1,hk,hu=>by
  have hs:=hp.size
  show Pm n (runT lt ((kas_place p k k 0 k).bind fun l=>kas_bin f (bubble p k (k - l)) (k + 1)))/\Up lt (runT lt ((kas_place p k k 0 k).bind fun l=>kas_bin f (bubble p k (k - l)) (k + 1))) n
  rw [Zbv]
  obtain ⟨a,b,c⟩:=Zen O hp (by lia) hu k 0 k (Yg _) (by lia) (by lia) (fun i h=>by lia) (fun i h h'=>by lia)
  generalize runT lt (kas_place p k k 0 k)=l at a b c
  refine bin_ok O f _ (k + 1) (hp.bub _ _) (by lia) (by lia) ?_
  intro i j hij hj
  unfold Le
  rw [bub_at (by lia) _ (by lia),bub_at (by lia) _ (by lia)]
  have e:k - (k - l)=l:=by lia
  rw [e]
  by_cases i1:i=l
  ·rw [if_pos i1]
   rw [if_neg (by lia),if_pos (by lia)]
   exact c _ (by lia) (by lia)
  ·rw [if_neg i1]
   by_cases j1:j=l
   ·rw [if_pos j1,if_neg (by lia)]
    exact b i (by lia)
   ·rw [if_neg j1]
    by_cases i2:l < i/\i<=k
    ·rw [if_pos i2,if_pos (by lia)]
     exact hu _ _ (by lia) (by lia)
    ·rw [if_neg i2]
     by_cases j2:l < j/\j<=k
     ·rw [if_pos j2]
      by_cases x:i=j - 1
      ·lia
      ·exact hu _ _ (by lia) (by lia)
     ·rw [if_neg j2]
      exact hu _ _ hij (by lia)
theorem sort_ok (O:Ord n lt) (hn:1<=n):Pm n (runT lt (kas_sort n))/\Up lt (runT lt (kas_sort n)) n:=by
 unfold kas_sort
 rw [Zbv]
 obtain ⟨a,b,c,d⟩:=count_ok O (Pm.start (n:=n)) hn
 generalize runT lt (kas_count n (List.toArray (List.range n)))=r at a b c d
 split
 ·have e:max r.1 1=r.1:=by lia
  rw [e]
  exact bin_ok O _ _ _ c a (by lia) d
 ·have e:r.1=n:=by lia
  refine ⟨c,?_⟩
  show Up lt r.2 n
  rw [<- e];exact d
end
end SortA
namespace N2
open PySem PyProof.Rows
end N2
namespace N2
open PySem PyProof.Rows PySem.F
end N2
namespace L2
open PySem PySem.Spec PyProof.Rows N2
theorem Zgd:∀ {xs:List V} {us:List Value} {i:Nat} {u:Value},Vals xs us->us[i]? = some u->∃ x,xs[i]? = some x/\RelV x u
 | _,_,_,_,.nil,e=>by simp at e
 | _,_,0,_,.cons h _,e=>by simp at e;subst e;exact ⟨_,rfl,h⟩
 | _,_,i + 1,_,.cons _ r,e=>by simp at e;simpa using Zgd r e
theorem Reps.at {K:YFr} {H:Hp}:∀ {ds:List PyData} {vs:List V} {i:Nat} {v:V},Reps K H ds vs->vs[i]? = some v->∃ d,ds[i]? = some d/\Rep K H d v
 | _,_,_,_,.nil,e=>by simp at e
 | _,_,0,_,.cons h _,e=>by simp at e;subst e;exact ⟨_,rfl,h⟩
 | _,_,i + 1,_,.cons _ r,e=>by simp at e;simpa using Reps.at r e
theorem Reps.len {K:YFr} {H:Hp}:∀ {ds:List PyData} {vs:List V},Reps K H ds vs->ds.length=vs.length
 | _,_,.nil=>rfl
 | _,_,.cons _ r=>by rw [List.length_cons,List.length_cons,r.len]
noncomputable def ltD (ds:List PyData) (i j:Nat):Bool:=ltv (ds.getD i .none) (ds.getD j .none)
noncomputable def OkD (ds:List PyData):Prop:=(∀ d∈ds,d.canLay0=true/\d.depth<=190)/\∀ d∈ds,∀ e∈ds,okLt d e=true
theorem big {X:Cx} {pins:List (Addr × Obj)} {σ:St} {H:Hp} {s:Shared} (I:Inv X pins σ H s):sysModules < s.heap.objs.size :=
 Nat.lt_trans (by decide) (show mainGlobals < s.heap.objs.size from (I.mod.glob.keeps I.bk).lt)
open PySem PySem.Spec PySem.W PyProof.Rows
section
variable {prog:Program} {w:World} {A:Around} {E:Value->Shared->Prop} {s:Shared} {Q:Bool->Shared->Prop}
noncomputable def ZaA:PyData->Bool
 | .tuple (.int _::_)=>true
 | _=>false
theorem lexU1 {u a b c d L:Nat} (h:u + (max (max a b) (max c d) + 1) < L):u + min a c < L:=by
 have h1:min a c<=a:=Yb5 a c
 have h2:a<=max (max a b) (max c d):=YE (YaT a b) (YaT _ _)
 lia
theorem lexU2 {u a b c d L:Nat} (h:u + (max (max a b) (max c d) + 1) < L):u + (max b d + 1) < L:=by
 have h2:max b d<=max (max a b) (max c d):=Nat.max_le.mpr ⟨YE (Ybs a b) (YaT _ _),YE (Ybs c d) (Ybs _ _)⟩
 lia
theorem lexU3 {u a b c d L:Nat} (h:u + (max (max a b) (max c d) + 1) < L):u + max a c < L:=by
 have h2:max a c<=max (max a b) (max c d):=Nat.max_le.mpr ⟨YE (YaT a b) (YaT _ _),YE (YaT c d) (Ybs _ _)⟩
 lia
theorem ZiU : ∀ (xs ys:List PyData) (vs ws:List Value) (as bs:List Addr) (i:Nat),ReadsAll s.heap vs xs as->ReadsAll s.heap ws ys bs->PyData.canLayAll0 xs=true->PyData.canLayAll0 ys=true->Za1 xs ys=true ->
  A.units + (max (PyData.depthAll xs) (PyData.depthAll ys) + 1) < cLine->(i=0->ZaA (.tuple xs)=true/\ZaA (.tuple ys)=true)->Q (ltvA xs ys) s->KatLex prog w A true (decide (xs.length < ys.length)) Q (vs.zip ws) i s:=by
 intro xs
 induction xs with
 | nil =>
  intro ys vs ws as bs i rx ry cx cy ok hu hi q
  cases rx
  cases ry with
  | nil=>exact q
  | cons r1 r2 =>
   rename_i d ds _ _
   have e:decide (([]:List PyData).length < (d::ds).length)=true:=by simp
   rw [e];exact q
 | cons x xs ih =>
  intro ys vs ws as bs i rx ry cx cy ok hu hi q
  cases rx with
  | cons rx rxs =>
   cases ry with
   | nil=>exact q
   | cons ry rys =>
    rename_i y ys _ _
    simp only [PyData.canLayAll0,Yc] at cx cy
    simp only [PyData.depthAll] at hu
    refine kat_cons (YbV x y A s _ _ _ _ rx ry cx.1 cy.1 (lexU1 hu) prog w _ _ ?_)
    refine kat_go (fun e=>kat_yes ?_) fun e=>kat_no ?_
    ·have e1:decide ((x::xs).length < (y::ys).length)=decide (xs.length < ys.length):=by simp
     rw [e1]
     simp only [ltvA,e,if_true] at q
     simp only [Za1,e,if_true] at ok
     exact ih ys _ _ _ _ (i + 1) rxs rys cx.2 cy.2 ok (lexU2 hu) (fun z=>absurd z (Nat.succ_ne_zero i)) q
    ·simp only [ltvA,e,Yah,YaH] at q
     simp only [Za1,e,Yah,YaH] at ok
     by_cases h0:i=0
     ·obtain ⟨f1,f2⟩:=hi h0
      subst h0
      cases x <;> simp [ZaA] at f1
      cases y <;> simp [ZaA] at f2
      cases rx;cases ry
      exact oneLt_int q
     ·have e2:(true && i == 0)=false:=by simp [h0]
      rw [e2]
      exact kat_one _ _ (Zct _ x y A s _ _ _ _ (Yg _) rx ry cx.1 cy.1 ok (lexU3 hu) prog w (fun _ _=>False) _ q)
theorem Zdo {x y:Value} {dx dy:PyData} {as bs:List Addr} (rx:Reads s.heap x dx as) (ry:Reads s.heap y dy bs) (cx:dx.canLay0=true) (cy:dy.canLay0=true) (ok:okLt dx dy=true) (fx:ZaA dx=true) (fy:ZaA dy=true)
  (hu:A.units + (max dx.depth dy.depth + 1) < cLine) (q:Q (ltv dx dy) s):wpAny (model prog w) A (keyLt' (tuples' true) x y) Q E s:=by
 cases rx with
 | tuple k1 k2 k3 k4 =>
  cases ry with
  | tuple j1 j2 j3 j4 =>
   simp only [PyData.canLay0] at cx cy
   simp only [PyData.depth] at hu
   simp only [okLt] at ok
   have l1:=ZaZ k4
   have l2:=ZaZ j4
   refine kat_lt k1 k3 j1 j3 ?_
   have:=ZiU (prog:=prog) (w:=w) (A:=A) _ _ _ _ _ _ 0 k4 j4 cx cy ok (by lia) (fun _=>⟨fx,fy⟩) q
   rw [<- l1,<- l2,Array.length_toList,Array.length_toList] at this
   exact this
  | _=>simp [ZaA] at fy
 | _=>simp [ZaA] at fx
end
section
variable {X:Cx} {pins:List (Addr × Obj)} {σ:St}
theorem Inv.adopt {H:Hp} {s:Shared} {a:Addr} {xs:List V} {its:List Value} {n:Nat} (I:Inv X pins σ H s) (f:FpOk X pins H a) (h0:X.s₀.heap.objs.size<=a) (r:Vals xs its) (hz:xs.length<=sizeLine)
  (e:s.heap.get? a=some { cls:=.type "list",data:=.seq its.toArray n }):Inv X pins σ (upd H a (.lst xs)) s:=by
 obtain ⟨f0,f1,f2,f3,f4,f5⟩:=f
 have ne:∀ b u,H b=some u->b≠a:=fun b u q z=>by rw [z,f0] at q;cases q
 have old:∀ b o,X.s₀.heap.get? b=some o->b≠a:=fun b o q=>YD (YL (Yo q) h0)
 refine ⟨I.ok,I.os,I.bare,⟨I.base.keep,I.base.slot,fun b o q n hx=>?_,I.base.there,fun b xs q=>?_,fun b o u q=>?_,fun b ps q=>?_⟩,I.loc,I.cell,?_,fun x c q=>?_,fun p hp=>?_,fun b u q=>?_,I.len⟩
 ·rw [Zy (old b o q)];exact I.base.free b o q n hx
 ·have:=I.base.tups b xs q;rw [Zy (ne _ _ this)];exact this
 ·have:=I.base.frzs b o u q;rw [Zy (ne _ _ this)];exact this
 ·obtain ⟨m,q'⟩:=I.base.tbls b ps q;exact ⟨m,by rw [Zy (ne _ _ q')];exact q'⟩
 ·rw [Zy (Ne.symm f1)];exact I.free
 ·rw [Zy (f4 x c q)];exact I.freeC x c q
 ·obtain ⟨p1,p2,p3⟩:=I.pin p hp;exact ⟨p1,by rw [Zy (f5 p hp)];exact p2,p3⟩
 ·by_cases hb:b=a
  ·subst hb;rw [Zae] at q;cases q;exact ⟨hz,its,n,r,e⟩
  ·rw [Zy hb] at q
   exact (I.hok b u q).stay (fun _ _ _ z=>z) (fun c z=>by rw [Zy (ne _ _ z)];exact z) (fun c ys z=>by rw [Zy (ne _ _ z)];exact z)
theorem Inv.mine {H:Hp} {s:Shared} {a:Addr} {h':Heap} {t':Nat} (I:Inv X pins σ H s) (f:FpOk X pins H a) (k:∀ b o,b≠a->s.heap.get? b=some o->h'.get? b=some o):Inv X pins σ H { s with heap:=h',toks:=t' } :=
 I.turned k f.1 f.2.1 f.2.2.2.1 f.2.2.2.2.1 f.2.2.2.2.2
theorem RUs.getD {K:YFr} {H:Hp} {us:List U} {vs:List V} {its:List Value} (r:RUs K H us vs) (rv:Vals vs its) (i:Nat) (hi:i < us.length):∃ v,vs[i]? = some v/\RU K H (us.getD i .non) v/\RelV v (its.getD i .none):=by
 obtain ⟨v,hv,hr⟩:=r.get' (i:=i) (u:=us[i]) (Ye hi)
 obtain ⟨x,hx,rel⟩:=rv.get hv
 exact ⟨v,hv,by rw [Yq,Ye hi];exact hr,by rw [Yq,hx];exact rel⟩
theorem RUs.picked {K:YFr} {H:Hp} {us:List U} {vs:List V} {its:List Value} (r:RUs K H us vs) (rv:Vals vs its):∀ (ps:List Nat),(∀ p∈ps,p < us.length) ->
  ∃ ys,RUs K H (ps.map fun i=>us.getD i .non) ys/\Vals ys (ps.map fun i=>its.getD i .none)
 | [],_=>⟨[],.nil,.nil⟩
 | p :: ps,h=>by
  obtain ⟨v,_,h1,h2⟩:=RUs.getD r rv p (h p (.head _))
  obtain ⟨ys,h3,h4⟩:=RUs.picked r rv ps fun q hq=>h q (.tail _ hq)
  exact ⟨v::ys,.cons h1 h3,.cons h2 h4⟩
theorem RUs.katRev {K:YFr} {H:Hp} {us:List U} {vs:List V} (b:Bool) (r:RUs K H us vs):RUs K H (katRev b us) (katRev b vs):=by
 unfold PySem.W.katRev;split
 ·exact r.rev
 ·exact r
theorem vals_rev {vs:List V} {its:List Value} (r:Vals vs its):Vals vs.reverse its.reverse:=by
 induction vs generalizing its with
 | nil=>cases r;exact .nil
 | cons v vs ih =>
  cases r with
  | cons h t=>rw [Yam,Yam];exact Vals.append (ih t) (.cons h .nil)
theorem Zb6 {vs:List V} {its:List Value} (b:Bool) (r:Vals vs its):Vals (katRev b vs) (katRev b its):=by
 unfold PySem.W.katRev;split
 ·exact vals_rev r
 ·exact r
noncomputable def srt (b:Bool) (us:List U) (ds:List PyData):List U:=if us.length < 2 then us else katRev b ((SortA.runT (ltD (katRev b ds)) (kas_sort us.length)).toList.map fun i=>(katRev b us).getD i .non)
section
variable {B:Around} {E:Value->Shared->Prop} {f:Value} {b:Bool} {A:AHp} {us:List U} {H:Hp} {s:Shared} {a kS:Addr} {e e1:Nat} {P:PySem.Fin->Shared->Prop}
theorem Zjm {Y:Cx} {H H':Hp} {p:Addr} (f:FpOk Y pins H p) (h:H' p=none):FpOk Y pins H' p:=⟨h,f.2⟩
theorem ZeZ {st:SortSt} {out ks:List Value} (I:Inv X pins σ H s) (fa:FpOk X pins H a) (fk:FpOk X pins H kS) (hak:a≠kS) (oa:s.heap.get? a=some (seqObj "list" #[] e1)) (ok:s.heap.get? kS=some (seqObj "list" ks.toArray e))
  (hout:(arrOf st).map (·.2)=List.toArray out) (hz:out.length < 64) (hkz:ks.length < 64) (hf:failedOf st=none)
  (h:∀ s' c,Inv X pins σ H s'->s'.heap.get? a=some (seqObj "list" (katRev b out).toArray c)->P (.done (.ret .none)) s') :
  wpAny (model X.prog X.w) B (ksk_tail a b e1 (.ref kS) st) P E s:=by
 have s1:=Y3 s.heap kS (Obj.mapSeq fun _=>(#[]:Array Value))
 have na:(s.heap.update kS (Obj.mapSeq fun _=>(#[]:Array Value))).get? a=some (seqObj "list" #[] e1):=(s1.2 a hak).trans oa
 have s2:=Y3 (s.heap.update kS (Obj.mapSeq fun _=>(#[]:Array Value))) a (Obj.mapSeq fun _=>List.toArray (katRev b out))
 have hsz:(List.toArray (katRev b out)).size=out.length:=by rw [Yj,kat_len]
 unfold ksk_tail
 try dsimp only
 rw [hout,kat_outs]
 refine Yd (Ya3 ok rfl (show _ from ?_) (by rw [Yj,Yaa];lia) (YX _))
 refine Yd (Ya4 (show _ from ?_))
 refine Yd (seqEpoch_at na rfl (show _ from ?_))
 refine Yd (Ya3 na rfl (show _ from ?_) (YX _) (YE (YcE hsz) (by rw [Yaa];lia)))
 rw [hf]
 simp only [bne_self_eq_false,Yah,YaH]
 have I1:=I.mine (t':=s.toks) fk fun p o hp q=>(s1.2 p hp).trans q
 have I2:=I1.mine (t':=s.toks) (s:={ s with heap:=s.heap.update kS (Obj.mapSeq fun _=>(#[]:Array Value)),toks:=s.toks }) fa fun p o hp q=>(s2.2 p hp).trans q
 exact Yl (h _ _ I2 (YaF na fun _=>List.toArray (katRev b out)))
variable {kf:U->U} {dk:U->PyData} {Z:Hp->Prop}
theorem Zd2 (I:Inv X pins σ H s) (g:HR X.K H A) {kus:List U} {kvs:List V} {ks:List Value} {ds:List PyData} (rk:RUs X.K H kus kvs) (rv:Vals kvs ks) (hd:DUs A kus ds) (i:Nat) (hi:i < ks.length) :
  ∃ as,Reads s.heap (ks.getD i .none) (ds.getD i .none) as:=by
 have rep:=DUs.reps g hd rk
 obtain ⟨x,hx,rel⟩:=Zgd rv (Ye hi)
 obtain ⟨d,h1,h2⟩:=rep.at hx
 obtain ⟨as,ra⟩:=Rep.reads I h2 rel
 refine ⟨as,?_⟩
 rw [Yq,Yq,Ye hi,h1]
 exact ra
theorem dus_rev {A:AHp}:∀ {us:List U} {ds:List PyData},DUs A us ds->DUs A us.reverse ds.reverse:=by
 have app:∀ {us ws:List U} {ds es:List PyData},DUs A us ds->DUs A ws es->DUs A (us++ws) (ds++es):=by
  intro us
  induction us with
  | nil=>intro ws ds es h k;cases h;exact k
  | cons u us ih=>intro ws ds es h k;cases h with | cons p q=>exact .cons p (ih q k)
 intro us
 induction us with
 | nil=>intro ds h;cases h;exact .nil
 | cons u us ih =>
  intro ds h
  cases h with
  | cons p q=>rw [Yam,Yam];exact app (ih q) (.cons p .nil)
theorem Zhj {us:List U} {ds:List PyData} (b:Bool) (h:DUs A us ds):DUs A (katRev b us) (katRev b ds):=by
 unfold PySem.W.katRev;split
 ·exact dus_rev h
 ·exact h
theorem ZaB {α:Type} {b:Bool} {l:List α} {x:α} (h:x∈katRev b l):x∈l:=by
 unfold PySem.W.katRev at h;split at h
 ·exact YcV.mp h
 ·exact h
theorem ZhT {ds:List PyData} (b:Bool) (h:OkD ds):OkD (katRev b ds):=⟨fun d hd=>h.1 d (ZaB hd),fun d hd e he=>h.2 d (ZaB hd) e (ZaB he)⟩
theorem Zcz (hs:Heap):∀ {ks:List Value} {ds:List PyData} {n:Nat},ks.length=n->ds.length=n->(∀ i,i < n->∃ as,Reads hs (ks.getD i .none) (ds.getD i .none) as)->(∀ d∈ds,ZaA d=true) ->
  ∃ fs:List Value,KatTups hs ks fs/\fs.length=n/\∀ v∈fs,∃ i t,v=.int i t
 | [],[],_,h1,_,_,_=>⟨[],trivial,h1,fun v hv=>nomatch hv⟩
 | k :: ks, d::ds,n,h1,h2,hr,hi=>by
  obtain ⟨m,rfl⟩:∃ m,n=m + 1:=⟨ks.length,by rw [<- h1];rfl⟩
  obtain ⟨fs,t,l,all⟩:=Zcz hs (n:=m) (by simpa using h1) (by simpa using h2) (fun i hlt=>by simpa using hr (i + 1) (by lia)) fun d hd=>hi d (.tail _ hd)
  obtain ⟨as,ra⟩:=hr 0 (by lia)
  have ra:Reads hs k d as:=by simpa using ra
  have fi:=hi d (.head _)
  cases ra with
  | @tuple a0 o its n0 xs as1 k1 k2 k3 k4 =>
   have hl:=ZaZ k4
   cases xs with
   | nil=>simp [ZaA] at fi
   | cons x xs =>
    cases x <;> simp [ZaA] at fi
    rename_i i
    obtain ⟨x',bs,e,rx⟩:=Za7 k4 0 (by rw [hl];simp)
    simp at e
    subst e
    have h0:0 < its.toList.length:=by rw [hl];simp
    obtain ⟨v0,hv0⟩:∃ v0,v0=its.toList[0]'h0:=⟨_,rfl⟩
    rw [<- hv0] at rx
    cases rx
    rename_i t
    refine ⟨.int i t::fs,⟨⟨_,_,_,_,rfl,k1,k2,k3,?_⟩,‹KatTups _ _ _›⟩,by simp [l],?_⟩
    ·rw [<- Yav,Ye h0,hv0]
    ·intro v hv
     rcases Yt.mp hv with rfl | hv
     ·exact ⟨_,_,rfl⟩
     ·exact all v hv
  | _=>simp [ZaA] at fi
theorem Zec {n:Nat} (hn:1<=n) (lt:Nat->Nat->Bool):(SortA.runT lt (kas_sort n)).size=n/\∀ p∈(SortA.runT lt (kas_sort n)).toList,p < n:=by
 have go:∀ {α:Type} {R:α->Prop} (t:KasT α),SortA.AllP n R t->R (SortA.runT lt t):=by
  intro α R t
  induction t with
  | ret a=>intro h;exact h
  | ask i j k ih=>intro h;exact ih _ (h.2.2 _)
 exact (go _ (SortA.all_sort hn)).2
theorem ZfT (b:Bool) (us:List U) (ds:List PyData):(srt b us ds).length=us.length:=by
 unfold srt
 split
 ·rfl
 ·rw [kat_len,Yb,Array.length_toList,(Zec (by lia) _).1]
theorem sort_end {ks its:List Value} {vs kvs:List V} (I:Inv X pins σ H s) (g:HR X.K H A) (r:RUs X.K H us vs) (rv:Vals vs its) (rk:RUs X.K H (us.map kf) kvs) (rkv:Vals kvs ks) (h64:us.length < 64)
  (fa:FpOk X pins H a) (fk:FpOk X pins H kS) (hak:a≠kS) (oa:s.heap.get? a=some (seqObj "list" #[] e1)) (ok:s.heap.get? kS=some (seqObj "list" ks.toArray e))
  (hdu:DUs A (us.map kf) (us.map dk)) (hok:OkD (us.map dk)) (hin:∀ u∈us,ZaA (dk u)=true) (hun:B.units + 200 < cLine)
  (h:∀ s' ys its' c,Inv X pins σ H s'->s'.heap.get? a=some (seqObj "list" its'.toArray c)->RUs X.K H (srt b us (us.map dk)) ys->Vals ys its'->P (.done (.ret .none)) s') :
  wpAny (model X.prog X.w) B (ksk_end a b its.toArray e1 (.ref kS) (List.toArray ks)) P E s:=by
 have l1:its.length=us.length:=by rw [<- rv.length,r.length]
 have l2:ks.length=us.length:=by rw [<- rkv.length,<- rk.length,Yb]
 have hl:ks.length=its.length:=by rw [l1,l2]
 have step:∀ t:Sem PySem.Fin,wpAny (model X.prog X.w) B t P E s->wpAny (model X.prog X.w) B (if b=true then (do let _ <- rule "list.sort.reverse";t) else t) P E s:=by
  intro t ht
  split
  ·exact Yd (Ycl ht)
  ·exact ht
 unfold ksk_end
 try dsimp only
 refine step _ ?_
 rw [kat_pairs b hl]
 by_cases hn:us.length < 2
 ·have hn2:its.toArray.size < 2:=by rw [Yj];lia
  rw [if_pos hn2,if_pos hn2]
  refine Yd (Yl ?_)
  refine Yd (Yl ?_)
  have hrev:katRev b its=its:=by
   unfold PySem.W.katRev
   split
   ·match its,l1 with
    | [],_=>rfl
    | [x],_=>rfl
    | x::y::z,q=>simp at q;lia
   ·rfl
  have hz:((List.toArray (katRev b ks)).zip (List.toArray (katRev b its))).map (·.2)=List.toArray its:=by
   apply YaC.mp
   rw [Array.toList_map,ksk_zip,hrev]
   simp only [List.toList_toArray]
   rw [List.map_snd_zip (by rw [kat_len];lia)]
  refine ZeZ (out:=its) I fa fk hak oa ok hz (by rw [l1];exact h64) (by rw [l2];exact h64) rfl fun s' c I' o'=>?_
  rw [hrev] at o'
  exact h s' vs its c I' o' (by unfold srt;rw [if_pos hn];exact r) rv
 ·have hn2:¬ its.toArray.size < 2:=by rw [Yj];lia
  rw [if_neg hn2,if_neg hn2]
  have hd':=Zhj (A:=A) b hdu
  have hok':=ZhT b hok
  have rk':=rk.katRev b
  have rkv':=Zb6 b rkv
  have hld:(katRev b (us.map dk)).length=us.length:=by rw [kat_len,Yb]
  have hlk:(katRev b ks).length=us.length:=by rw [kat_len,l2]
  have rds:∀ i,i < us.length->∃ as,Reads s.heap ((katRev b ks).getD i .none) ((katRev b (us.map dk)).getD i .none) as:=fun i hi=>Zd2 I g rk' rkv' hd' i (by lia)
  have mem:∀ i,i < us.length->(katRev b (us.map dk)).getD i .none∈katRev b (us.map dk):=fun i hi=>by
   rw [Yq,Ye (by lia)];exact Ybr _
  have int':∀ d∈us.map dk,ZaA d=true:=fun d hd=>by
   obtain ⟨u,hu,rfl⟩:=Yk.mp hd;exact hin u hu
  obtain ⟨fs,kt,lf,all⟩:=Zcz s.heap (ks:=ks) (ds:=us.map dk) (n:=us.length) l2 (by rw [Yb]) (fun i hi=>Zd2 I g rk rkv hdu i (by lia)) int'
  refine Yd (kat_kind (T:=.type "int") kt (by lia) (fun v hv=>by obtain ⟨i,t,rfl⟩:=all v hv;exact Looks.of_pure rfl) rfl ?_)
  have hT:(Value.type "int" != Value.type "tuple")=true:=by decide
  rw [hT]
  have hlr:(katRev b ks).length=(katRev b its).length:=by rw [kat_len,kat_len,hl]
  refine Yd (YV (kat_run (Q:=fun st' s'=>s'=s/\arrOf st'=(SortA.runT (ltD (katRev b (us.map dk))) (kas_sort us.length)).map (kas_item ((List.toArray (katRev b ks)).zip (List.toArray (katRev b its))))/\failedOf st'=none/\(SortA.runT (ltD (katRev b (us.map dk))) (kas_sort us.length)).size=(katRev b its).length)
   (G:=fun p s'=>s'=s/\p=SortA.runT (ltD (katRev b (us.map dk))) (kas_sort us.length)) hlr (by rw [kat_len];lia) (by rw [kat_len];lia) (fun p' st' s' a1 a2 a3 a4=>⟨a4.1,by rw [a2,a4.2],a3,by rw [<- a4.2];exact a1⟩) ?_) ?_ fun _ _ x=>x)
  ·rw [kat_len,l1]
   refine SortA.wpT (I:=fun s'=>s'=s) (lt:=ltD (katRev b (us.map dk))) (n:=us.length) (fun i j C s0 hi hj hs hC=>?_) _ s (SortA.all_sort (by lia)) rfl fun s' hs=>⟨hs,rfl⟩
   subst hs
   obtain ⟨as,ra⟩:=rds i hi
   obtain ⟨bs,rb⟩:=rds j hj
   have m1:=mem i hi
   have m2:=mem j hj
   have d1:=(hok'.1 _ m1).2
   have d2:=(hok'.1 _ m2).2
   exact Zdo ra rb (hok'.1 _ m1).1 (hok'.1 _ m2).1 (hok'.2 _ m1 _ m2) (int' _ (ZaB m1)) (int' _ (ZaB m2)) (by lia) (hC _ rfl)
  ·rintro ⟨⟨⟩,st'⟩ s' ⟨e0,har,hf,hsz⟩
   subst e0
   have hps:=(Zec (n:=us.length) (by lia) (ltD (katRev b (us.map dk)))).2
   have hpl:(SortA.runT (ltD (katRev b (us.map dk))) (kas_sort us.length)).toList.length<=us.length:=by
    rw [Array.length_toList,hsz,kat_len,l1];exact Yg _
   obtain ⟨ys,r1,r2⟩:=RUs.picked (r.katRev b) (Zb6 b rv) (SortA.runT (ltD (katRev b (us.map dk))) (kas_sort us.length)).toList (fun p hp=>by rw [kat_len];exact hps p hp)
   refine ZeZ (out:=(SortA.runT (ltD (katRev b (us.map dk))) (kas_sort us.length)).toList.map fun i=>(katRev b its).getD i .none) I fa fk hak oa ok (kat_snds hlr har) (by rw [Yb];lia) (by lia) hf fun s'' c I' o'=>?_
   exact h s'' (katRev b ys) _ c I' o' (by unfold srt;rw [if_neg hn];exact r1.katRev b) (Zb6 b r2)
noncomputable def Zc5 (X:Cx) (pins:List (Addr × Obj)) (σ:St) (B:Around) (f:Value) (A:AHp) (us:List U) (kf:U->U) (Z:Hp->Prop):Prop :=
 ∀ (pl:List (Addr × Obj)) (s:Shared) (H:Hp) (u:U) (v:V) (x:Value),Inv X (pins++pl) σ H s->HR X.K H A->Z H->u∈us->RU X.K H u v->RelV v x ->
  wpAny (model X.prog X.w) B (call f [x]) (fun y s'=>∃ H' z,Inv X (pins++pl) σ H' s'/\Kp X.K H H'/\HR X.K H' A/\RU X.K H' (kf u) z/\RelV z y) (fun _ _=>False) s
theorem ZiZ {its:List Value} {vs:List V} (I:Inv X pins σ H s) (g:HR X.K H A) (r:RUs X.K H us vs) (rv:Vals vs its) (h64:us.length < 64)
  (fa:FpOk X pins H a) (fk:FpOk X pins H kS) (hak:a≠kS) (oa:s.heap.get? a=some (seqObj "list" #[] e1)) (ok:s.heap.get? kS=some (seqObj "list" #[] 0))
  (hdu:DUs A (us.map kf) (us.map dk)) (hok:OkD (us.map dk)) (hin:∀ u∈us,ZaA (dk u)=true) (hun:B.units + 200 < cLine) (hcall:Zc5 X pins σ B f A us kf Z) (z0:Z H) (hZ:∀ H H',Z H->Kp X.K H H'->Z H')
  (h:∀ H' s' ys its' c,Inv X pins σ H' s'->Kp X.K H H'->HR X.K H' A->FpOk X pins H' a->s'.heap.get? a=some (seqObj "list" its'.toArray c)->RUs X.K H' (srt b us (us.map dk)) ys->Vals ys its'->P (.done (.ret .none)) s') :
  wpAny (model X.prog X.w) B (ksk_rest a f b its.toArray e1 (.ref kS)) P E s:=by
 have l1:its.length=us.length:=by rw [<- rv.length,r.length]
 unfold ksk_rest
 refine Yd (Ycl ?_)
 first
  | rw [List.forIn_toArray]
  | (rw [<- Array.forIn_toList];simp only [List.toList_toArray])
 refine Yd (ksk_fold (fun j s'=>∃ H' kvs ks e,Inv X pins σ H' s'/\Kp X.K H H'/\HR X.K H' A/\FpOk X pins H' a/\FpOk X pins H' kS/\s'.heap.get? a=some (seqObj "list" #[] e1)/\s'.heap.get? kS=some (seqObj "list" (List.toArray ks) e)/\RUs X.K H' ((us.take j).map kf) kvs/\Vals kvs ks) its 0 s
  ⟨H,[],[],0,I,.refl H,g,fa,fk,oa,ok,by simpa using RUs.nil,.nil⟩ ?step ?done)
 case step =>
  rintro j x s' hx ⟨H1,kvs,ks,e,I1,k1,g1,fa1,fk1,oa1,ok1,rk1,rv1⟩
  simp only [Nat.zero_add] at rk1 ⊢
  have hj:j < us.length:=by rw [<- l1];exact (Yp.mp hx).1
  have hkl:ks.length=j:=by rw [<- rv1.length,<- rk1.length,Yb,YJ];lia
  obtain ⟨v,hv,rel⟩:=Zgd rv hx
  obtain ⟨u,hu,ru⟩:=r.get hv
  have hmem:=Yn hu
  have J:=I1.pinned (fp:=[kS,a]) (fun p hp=>by
   rcases Yt.mp hp with rfl | hp
   ·exact fk1
   ·rw [Yv.mp hp];exact fa1) (fun p hp=>by
   rcases Yt.mp hp with rfl | hp
   ·exact ⟨_,ok1,fun v z=>nomatch z⟩
   ·rw [Yv.mp hp];exact ⟨_,oa1,fun v z=>nomatch z⟩)
  refine Yd (wpAny_attempt (YV (hcall _ s' H1 u v x J g1 (hZ _ _ z0 k1) hmem (ru.same k1) rel) (fun y s2 hy=>?_) fun _ _ hF=>hF.elim))
  obtain ⟨H2,z,J2,k2,g2,rz,relz⟩:=hy
  have pk:=J2.pin (kS,seqObj "list" (List.toArray ks) e) (Yw _ (Yw _ (Za0 (.head _) ok1)))
  have pa:=J2.pin (a,seqObj "list" #[] e1) (Yw _ (Yw _ (Za0 (.tail _ (.head _)) oa1)))
  have I2:=J2.unpinned
  have s1:=Y3 s2.heap kS (Obj.mapSeq (·.push y))
  have ea:(List.toArray ks).push y=List.toArray (ks++[y]):=by simp
  obtain ⟨c2,hc2⟩:∃ c2,(s2.heap.update kS (Obj.mapSeq (·.push y))).get? kS=some (seqObj "list" (List.toArray (ks++[y])) c2):=⟨_,by rw [<- ea];exact YaF pk.1 (·.push y)⟩
  try dsimp only
  refine Yd (Ya3 pk.1 rfl (show _ from ?_) (by rw [Yj,Yaa];lia) (YE (YcE (Array.size_push ..)) (by rw [Yj,Yaa];lia)))
  have I3:=I2.mine (t':=s2.toks) (Zjm fk1 pk.2.1) fun p o hp q=>(s1.2 p hp).trans q
  refine Yl ⟨rfl,H2,kvs++[z],ks++[y],c2,I3,k1.trans k2,g2,Zjm fa1 pa.2.1,Zjm fk1 pk.2.1,(s1.2 a hak).trans pa.1,hc2,?_,Vals.append rv1 (.cons relz .nil)⟩
  rw [YaK,hu,Ym]
  exact (rk1.same k2).app (.one rz)
 case done =>
  rintro s' ⟨H1,kvs,ks,e,I1,k1,g1,fa1,fk1,oa1,ok1,rk1,rv1⟩
  rw [Nat.zero_add,l1,Yat] at rk1
  try dsimp only
  refine Yd (listItems_at ok1 rfl (show _ from ?_))
  exact sort_end I1 g1 (r.same k1) rv rk1 rv1 h64 fa1 fk1 hak oa1 ok1 hdu hok hin hun fun s2 ys its' c I2 o2 r2 v2=>h H1 s2 ys its' c I2 k1 g1 fa1 o2 r2 v2
theorem Zjw {its:List Value} {vs:List V} {n:Nat} (I:Inv X pins σ H s) (g:HR X.K H A) (r:RUs X.K H us vs) (rv:Vals vs its) (h64:us.length < 64)
  (fa:FpOk X pins H a) (oa:s.heap.get? a=some (seqObj "list" its.toArray n))
  (hdu:DUs A (us.map kf) (us.map dk)) (hok:OkD (us.map dk)) (hin:∀ u∈us,ZaA (dk u)=true) (hun:B.units + 200 < cLine) (hcall:Zc5 X pins σ B f A us kf Z) (z0:Z H) (hZ:∀ H H',Z H->Kp X.K H H'->Z H')
  (h:∀ H' s' ys its' c,Inv X pins σ H' s'->Kp X.K H H'->HR X.K H' A->FpOk X pins H' a->s'.heap.get? a=some (seqObj "list" its'.toArray c)->RUs X.K H' (srt b us (us.map dk)) ys->Vals ys its'->P (.done (.ret .none)) s') :
  wpAny (model X.prog X.w) B (ksk_tree a f b) P E s:=by
 have l1:its.length=us.length:=by rw [<- rv.length,r.length]
 have ha:a < s.heap.objs.size:=Yo oa
 have s1:=Y3 s.heap a (Obj.mapSeq fun _=>(#[]:Array Value))
 obtain ⟨e1,ho1⟩:∃ e1,(s.heap.update a (Obj.mapSeq fun _=>(#[]:Array Value))).get? a=some (seqObj "list" #[] e1):=⟨_,YaF oa fun _=>#[]⟩
 unfold ksk_tree
 refine Yd (listItems_at oa rfl (show _ from ?_))
 refine Yd (Ya3 oa rfl (show _ from ?_) (by rw [Yj,Yaa];lia) (YX _))
 refine Yd (seqEpoch_at ho1 rfl (show _ from ?_))
 refine Yd (wpAny_newTuple (show _ from ?_) (by show its.length<=_;rw [Yaa];lia))
 refine Yd (Ybp (show _ from ?_) (YX _))
 refine YU (show _ from ?_)
 have I1:=I.mine (t':=s.toks) fa fun p o hp q=>(s1.2 p hp).trans q
 have I2:=I1.kept (t':=s.toks) (h':=(s.heap.update a (Obj.mapSeq fun _=>(#[]:Array Value))).push { cls:=.type "tuple",data:=.seq its.toArray }) fun p o q=>Yi _ q
 have fk:FpOk X pins H ((s.heap.update a (Obj.mapSeq fun _=>(#[]:Array Value))).push { cls:=.type "tuple",data:=.seq its.toArray }).objs.size:=I2.fpOk (Yg _) (I2.hok.fresh (Yg _))
 have I3:=I2.kept (t':=s.toks) (h':=((s.heap.update a (Obj.mapSeq fun _=>(#[]:Array Value))).push { cls:=.type "tuple",data:=.seq its.toArray }).push { cls:=.type "list",data:=.seq #[] }) fun p o q=>Yi _ q
 have oa2:=Yi ({ cls:=.type "tuple",data:=.seq its.toArray }:Obj) ho1
 exact ZiZ I3 g r rv h64 fa fk (YD (Yo oa2)) (Yi _ oa2) (YI _ rfl) hdu hok hin hun hcall z0 hZ h
theorem ZdK {l:Addr} {kw:List (Str × Value)} {Q:Value->Shared->Prop} (I:Inv X pins σ H s) (g:HR X.K H A) (hl:A l=some (.lst us)) (h64:us.length < 64)
  (ha1:argsOk "sorted" ⟨[.ref l],kw⟩) (ha2:∀ x,argsOk "list.sort" ⟨[.ref x],kw⟩) (ht:∀ x,Builtin.«list.sort» ⟨[.ref x],kw⟩=ksk_tree x f b)
  (hdu:DUs A (us.map kf) (us.map dk)) (hok:OkD (us.map dk)) (hin:∀ u∈us,ZaA (dk u)=true) (hun:B.in1.in1.units + 200 < cLine) (hcall:Zc5 X pins σ B.in1.in1 f A us kf Z) (z0:Z H) (hZ:∀ H H',Z H->Kp X.K H H'->Z H')
  (h:∀ D H' s',A D=none->Inv X pins σ H' s'->Kp X.K H H'->HR X.K H' (updA A D (.lst (srt b us (us.map dk))))->Q (.ref D) s') :
  wpAny (model X.prog X.w) B (call (.builtin "sorted") [.ref l] kw) Q E s:=by
 obtain ⟨vs,h1,r⟩:=g.list hl
 obtain ⟨its,rv,pl,hz⟩:=I.list (SqL.of h1)
 have l1:its.length=us.length:=by rw [<- rv.length,r.length]
 refine call_function_entry_kw kind_sorted plain_sorted entry_sorted ha1 (show _ from ?_)
 unfold Builtin.«sorted»
 refine Yd (m:=checkCount "sorted" 1 1 _) (Yl (show _ from ?_))
 refine Yd (collect_list pl.isList (show _ from ?_) (by rw [Yaa];lia))
 refine Yd (Ybp (show _ from ?_) (by rw [Yaa];lia))
 have s0:=Y3 (s.heap.push (seqObj "list" #[] 0)) s.heap.objs.size (Obj.mapSeq (·++its.toArray))
 have hk1:∀ p o,s.heap.get? p=some o->((s.heap.push (seqObj "list" #[] 0)).update s.heap.objs.size (Obj.mapSeq (·++its.toArray))).get? p=some o:=fun p o q =>
  (s0.2 p (YD (Yo q))).trans (Yi _ q)
 have I1:=I.kept (t':=s.toks) hk1
 have f1:=I1.fpOk (Yg _) (I1.hok.fresh (Yg _))
 have hs0:X.s₀.heap.objs.size<=((s.heap.push (seqObj "list" #[] 0)).update s.heap.objs.size (Obj.mapSeq (·++its.toArray))).objs.size:=I1.sz
 have I2:=I1.kept (t':=s.toks) (h':=((s.heap.push (seqObj "list" #[] 0)).update s.heap.objs.size (Obj.mapSeq (·++its.toArray))).push { cls:=.type "list",data:=.seq its.toArray }) fun p o q=>Yi _ q
 have oD:(((s.heap.push (seqObj "list" #[] 0)).update s.heap.objs.size (Obj.mapSeq (·++its.toArray))).push { cls:=.type "list",data:=.seq its.toArray }).get? ((s.heap.push (seqObj "list" #[] 0)).update s.heap.objs.size (Obj.mapSeq (·++its.toArray))).objs.size=some (seqObj "list" its.toArray 0):=YI _ rfl
 refine Yd (YU (wpAny_call_entry_kw slot_list_sort ⟨_,oD,rfl⟩ entry_list_sort ?body (ha2 _)))
 case body =>
  generalize ((s.heap.push (seqObj "list" #[] 0)).update s.heap.objs.size (Obj.mapSeq (·++its.toArray))).objs.size=D at *
  have ht':=ht D
  show wpAny (model X.prog X.w) B.in1.in1 (Builtin.«list.sort» ⟨[.ref D],kw⟩) _ _ _
  rw [ht']
  refine Zjw I2 g r rv h64 f1 oD hdu hok hin hun hcall z0 hZ fun H' s' ys its' c I3 k3 g3 f3 o3 r3 v3=>⟨_,rfl,Yl ⟨_,rfl,?_⟩⟩
  have hsl:(srt b us (us.map dk)).length<=sizeLine:=by rw [ZfT,Yaa];lia
  have I4:=I3.adopt f3 hs0 v3 (by rw [<- r3.length];exact hsl) o3
  exact h D (upd H' D (.lst ys)) s' (g3.none f3.1) I4 (k3.trans (Same.upd_new f3.1).kp) (g3.newL f3.1 r3)
theorem Zhs {k:Nat} {fa:Addr} {fd:FuncData} {x:Str} {asp:ASp} (F:FnOk X.prog X.w X.K X.mg X.base CX0 k fa fd [x] (spOf X.K asp)) (hr:Room k B) (hfr:B.frames=X.A.frames) (hb:Zao X.K fd [x] [])
  (hkey:∀ u∈us,asp [u] A (fun y A'=>y=kf u/\Ext A A')):Zc5 X pins σ B (.ref fa) A us kf (fun _=>True):=by
 intro pl s H u v x I g _ hu r rel
 have e0:=I.env0
 have e1:Env0 X.prog X.w X.K X.mg X.base B X.stack s H:=⟨hfr.trans e0.frames,e0.mod,e0.bs,e0.bsz,e0.funs,e0.frf,e0.hok,e0.bare⟩
 refine Ycj (Ya7 (F.run B X.stack s H ⟨[x],[]⟩ [x] [v] (fun z H'=>Kp X.K H H'/\HR X.K H' A/\RU X.K H' (kf u) z) E0 hr e1 (hb s [x] I.kIn rfl) (.cons rel .nil) ⟨[u],A,_,.cons r .nil,g,hkey u hu,fun y A' z H' kp g' r' q=>?_⟩) fun res s' hq=>?_)
 ·obtain ⟨rfl,e⟩:=q
  exact ⟨kp,HR.ext e g',r'⟩
 ·cases res with
  | error e=>exact hq.elim
  | ok fl =>
   cases fl with
   | ret y =>
    obtain ⟨z,H',I',rz,k1,g1,r1⟩:=I.after hq
    exact ⟨H',z,I',k1,g1,r1,rz⟩
   | next=>exact False.elim hq
   | brk=>exact False.elim hq
   | cont=>exact False.elim hq
end
end
noncomputable def Zio (K:YFr) (asp:ASp) (b:Bool):V->Hp->VK->Prop:=fun x H Q=>∃ l A Q' us kf dk,x=.ref l/\HR K H A/\A l=some (.lst us)/\us.length < 64/\DUs A (us.map kf) (us.map dk)/\OkD (us.map dk)/\(∀ u∈us,ZaA (dk u)=true) /\
 (∀ u∈us,asp [u] A (fun y A'=>y=kf u/\Ext A A'))/\(∀ D,A D=none->Q' (.ref D) (updA A D (.lst (srt b us (us.map dk)))))/\Aft K H Q' Q
noncomputable def tSortF (K:YFr) (asp:ASp) (b:Bool) (te:TE):TE:=fun σ H Q=>te σ H fun x H1=>Zio K asp b x H1 Q
noncomputable def xSortF (asp:ASp) (b:Bool):U->AHp->AVK->Prop:=fun x A Q=>∃ l us kf dk,x=.ref l/\A l=some (.lst us)/\us.length < 64/\DUs A (us.map kf) (us.map dk)/\OkD (us.map dk)/\(∀ u∈us,ZaA (dk u)=true) /\
 (∀ u∈us,asp [u] A (fun y A'=>y=kf u/\Ext A A'))/\∀ D,A D=none->Q (.ref D) (updA A D (.lst (srt b us (us.map dk))))
noncomputable def aSortF (asp:ASp) (b:Bool) (ae:AE):AE:=fun ρ A Q=>ae ρ A fun x A1=>xSortF asp b x A1 Q
theorem ab_sortF {K:YFr} {asp:ASp} {b:Bool} {te:TE} {ae:AE} (h:AbE K te ae):AbE K (tSortF K asp b te) (aSortF asp b ae):=fun ρ A σ H Q' Q hs g w k =>
 h ρ A σ H _ _ hs g w fun x A1 v H1 k1 g1 r1 hq0=>by
  obtain ⟨l,us,kf,dk,e,h1,h2,h3,h4,h5,h6,q⟩:=hq0
  subst e
  cases r1
  exact ⟨l,A1,Q',us,kf,dk,rfl,g1,h1,h2,h3,h4,h5,h6,q,fun u A2 v2 H2 k2 g2 r2 q2=>k _ _ _ _ (k1.trans k2) g2 r2 q2⟩
section
variable {X:Cx} {k:Nat} {fa:Addr} {fd:FuncData} {x y:Str} {asp:ASp} {e:Expr} {te:TE} {p p2 p3 p4 p5 pos:Pos} {j:Nat} {b:Bool}
theorem pe_sortF (F:FnOk X.prog X.w X.K X.mg X.base CX0 k fa fd [x] (spOf X.K asp)) (hr:Room (k + 2) X.A) (hg:Gl X "sorted") (hm:X.mg "sorted"=none) (hgy:Gl X y) (hmy:X.mg y=some (.ref fa)) (hb:Zao X.K fd [x] []) (he:PE X e te)
  (hdy:(y == ("__debug__":Str))=false:=by decide) (hst:starEach [e] X.env=[(false,eval e X.env)]:=by rfl) :
  PE X (.Call (.Name "sorted" p) [e] [⟨some "key",.Name y p2,p3⟩,⟨some "reverse",.Constant (.bool b) j p4,p5⟩] pos) (tSortF X.K asp b te):=by
 intro pins s σ H Q I h
 refine Yaj (ZbF I hg hm boot_sorted (show _ from ?_) (by decide) (by decide))
 have hpa:PA X [e] (Zcy te tNil):=Za he Ze hst
 have hpk:PK X [⟨some "key",.Name y p2,p3⟩,⟨some "reverse",.Constant (.bool b) j p4,p5⟩] (Zcy (tC (.ref fa)) (Zcy (tC (.bl b)) tNil)):=ZiR (Zc8 (v:=.ref fa) hgy hmy rfl hdy) (ZiR pe_bl pk_nil)
 have h':Zcy te tNil σ H (fun vs H1=>match vs with | [x]=>Zio X.K asp b x H1 Q | _=>False):=h
 refine YcO (thn (hpa pos pins s σ H _ I h') fun us s1 ⟨vs,H1,I1,r1,q1⟩=>?_) (by rw [hst];rfl) (by rw [hst];rfl) rfl rfl
 dsimp only at q1
 split at q1
 ·obtain ⟨u,rfl,ru⟩:=r1.one
  have q2:Zcy (tC (.ref fa)) (Zcy (tC (.bl b)) tNil) σ H1 (fun zs H2=>zs=[.ref fa,.bl b]/\Zio X.K asp b _ H2 Q):=⟨rfl,q1⟩
  refine thn (hpk pos pins s1 σ H1 _ I1 q2) fun ws s2 h_q=>?_
  obtain ⟨zs,H2,I2,rz,ez,q3⟩:=h_q
  subst ez
  obtain ⟨w1,w2,rfl,rw1,rw2⟩:=rz.two
  cases rw1;cases rw2
  obtain ⟨l,A,Q',us,kf,dk,rfl,g,hl,h64,hdu,hok,hin,hkey,q,aft⟩:=q3
  cases ru
  have hun:=hr.un
  show wpAny _ _ (call (.builtin "sorted") [.ref l] [(Str.ofString "key",.ref fa),(Str.ofString "reverse",.bool b)]) _ _ _
  exact ZdK I2 g hl h64 (ksk_s2 _ _ _) (fun x=>ksk_l2 _ _ _) (fun x=>ksk_t2 _ _ _) hdu hok hin (by show X.A.units + 1 + 1 + 200 < cLine;lia) (Zhs F hr.in1.in1 rfl hb hkey) trivial (fun _ _ _ _=>trivial) fun D H' s' hD I' kp g'=>⟨.ref D,H',I',rfl,aft _ _ _ _ kp g' (.ref D) (q D hD)⟩
 ·exact q1.elim
end
section
variable {X:Cx} {pins:List (Addr × Obj)} {σ:St} {B:Around} {A:AHp} {us:List U} {kf:U->U}
theorem ZfF {fl c:Addr} {name qual:Str} {params:Arguments} {body:Expr} {scope:Scope} {pm ctv:Value} {oc:Obj} {vs:Array Value} {tq:Tok} {p:Str} {N:List Str} {ae:AE} {k:Nat}
  (S:ZA N [p] scope) (hbind:∀ x,bindArgs (kla_fn name qual params body scope [] pm (.ref c) ctv) ⟨[x],[]⟩=pure [(p,x)])
  (m1:(fl,kla_obj name qual params body scope [] pm c ctv)∈pins) (hoc:oc.data=.fields vs) (hq:vs[1]? = some (.str qual tq))
  (hr:Room (k + 1) B) (hfr:B.frames=X.A.frames)
  (hbody:∀ (s:Shared) (H:Hp),Room k (B.deeper (envOfC qual scope s.heap.objs.size fl (.ref c)))->∃ te,PE (cxOf CX0 X.prog X.w X.K X.mg X.base N qual scope fl (.ref c) B X.stack s H E0).nox body te/\AbE X.K te ae)
  (hkey:∀ u∈us,ae (aStart N [u]) A (fun y A'=>y=kf u/\Ext A A')):Zc5 X pins σ B (.ref fl) A us kf (fun H=>H c=some (.frz oc (.own c))):=by
 intro pl s H u v x I g hz hu r rel
 have p1:=(I.pin _ (Yw _ (Yau pl m1))).1
 have p2:s.heap.get? c=some oc:=(I.hok c _ hz).1
 have e0:=I.env0
 have e1:Env0 X.prog X.w X.K X.mg X.base B X.stack s H:=⟨hfr.trans e0.frames,e0.mod,e0.bs,e0.bsz,e0.funs,e0.frf,e0.hok,e0.bare⟩
 have rv:Vals [v] [x]:=.cons rel .nil
 have hkind:∀ y∈[(p,x)],scope.names.lookup y.1=some .local\/(scope.names.lookup y.1=some .cell/\((cellsFrom (s.heap.objs.size + 1) scope.names []).lookup y.1).isSome=true):=fun y hy=>by
  rw [Yv.mp hy]
  rcases S.par p (.head _) with q | q
  ·exact .inl q
  ·exact .inr ⟨q,YaV _ _ _ (.inl q)⟩
 have lim:s.heap.NoLimit:=e1.mod.nolimit.keeps fun b o e=>(e1.bs b o e).1
 obtain ⟨te,hpe,hab⟩:=hbody s H (hr.deeper _)
 refine Ycj (Ya7 (R:=CR CX0 X.stack X.prog X.w H s (fun z H'=>Kp X.K H H'/\HR X.K H' A/\RU X.K H' (kf u) z) E0) ?_ fun res s' hq=>?_)
 ·refine kla_callFunE hr.depth p1 rfl S.co S.gen rfl ⟨c,oc,vs,tq,rfl,p2,hoc,hq⟩ ?_
  rw [hbind]
  refine Yl ?_
  refine Ya2 S.kind hkind fun env he s1 xx=>?_
  subst he
  refine ⟨lim.keeps xx.toInCall.keep,kla_codeExpr ?_⟩
  have J:Inv (cxOf CX0 X.prog X.w X.K X.mg X.base N qual scope fl (.ref c) B X.stack s H E0) [] (start N [v]) H s1:=Zdv S hr.hd e1 rfl rv xx
  refine YV (hpe.nox [] s1 (start N [v]) H (fun z H'=>Kp X.K H H'/\HR X.K H' A/\RU X.K H' (kf u) z) J (hab (aStart N [u]) A _ _ _ _ (RSt.start N (.cons r .nil)) g (hkey u hu) fun y A' z H' kp g' r' q=>?_)) (fun y s2 hs=>?_) fun e s2 hs=>hs
  ·obtain ⟨rfl,e⟩:=q
   exact ⟨kp,HR.ext e g',r'⟩
  ·obtain ⟨z,H',J',rz,q⟩:=hs
   exact ⟨z,H',J'.os,J'.bare,J'.base,J'.hok,rz,q⟩
 ·cases res with
  | error e=>exact hq.elim
  | ok fl =>
   cases fl with
   | ret y =>
    obtain ⟨z,H',I',rz,k1,g1,r1⟩:=I.after hq
    exact ⟨H',z,I',k1,g1,r1,rz⟩
   | next=>exact False.elim hq
   | brk=>exact False.elim hq
   | cont=>exact False.elim hq
noncomputable def tblO (pos:Pos) (qual:Str):AO:=.oth fun _ H P=>∃ ps:Array Value,H P=some (.tbl ps)/\TriplesOk ps.toList /\
 (codeAmong pos ps.toList=none\/∃ c oc vs t,codeAmong pos ps.toList=some (.ref c)/\H c=some (.frz oc (.own c))/\oc.data=.fields vs/\vs[1]? = some (.str qual t))
theorem ZiF {K:YFr} {H:Hp} {P:Addr} {pos:Pos} {qual:Str} {ps:Array Value} (h1:H P=some (.tbl ps)) (h2:TriplesOk ps.toList)
  (h3:codeAmong pos ps.toList=none\/∃ c oc vs t,codeAmong pos ps.toList=some (.ref c)/\H c=some (.frz oc (.own c))/\oc.data=.fields vs/\vs[1]? = some (.str qual t)):RO K H P (tblO pos qual) :=
 ⟨⟨_,h1⟩,⟨ps,h1,h2,h3⟩,fun H1 H2 ⟨qs,q1,q2,q3⟩ kp e=>⟨qs,by rw [e];exact q1,q2,q3.imp id fun ⟨c,oc,vs,t,w1,w2,w3,w4⟩=>⟨c,oc,vs,t,w1,kp.f _ _ _ w2,w3,w4⟩⟩⟩
theorem Kp.tbl {K:YFr} {H:Hp} {P c:Addr} {ps qs:Array Value} {o:HO} (h:H P=some (.tbl ps)) (hc:H c=none):Kp K H (upd (upd H P (.tbl qs)) c o):=by
 have ne:∀ a u,H a=some u->a≠c:=fun a u q z=>by rw [z,hc] at q;cases q
 refine ⟨fun a xs q=>?_,fun a xs q=>?_,fun a ob u q=>by rw [Zy (ne _ _ q),Zy (ZcL q h (by intro z;cases z))];exact q⟩
 ·rcases q with (q | ⟨ob,q⟩) | q
  ·exact .inl (.inl (by rw [Zy (ne _ _ q),Zy (ZcL q h (by intro z;cases z))];exact q))
  ·exact .inl (.inr ⟨ob,by rw [Zy (ne _ _ q),Zy (ZcL q h (by intro z;cases z))];exact q⟩)
  ·exact .inr q
 ·rcases q with ⟨ob,q⟩ | q
  ·exact .inl ⟨ob,by rw [Zy (ne _ _ q),Zy (ZcL q h (by intro z;cases z))];exact q⟩
  ·exact .inr q
theorem Inv.coded {H:Hp} {s:Shared} {P c:Addr} {ps qs:Array Value} {oc:Obj} {h':Heap} {t':Nat} (I:Inv X pins σ H s) (hP:H P=some (.tbl ps)) (hx:Heap.ExtBut P s.heap h') (hc:s.heap.objs.size<=c) (oP:h'.get? P=some { cls:=.none,data:=.fields (ps++qs) }) (occ:h'.get? c=some oc) :
  Inv X pins σ (upd (upd H P (.tbl (ps++qs))) c (.frz oc (.own c))) { s with heap:=h',toks:=t' }:=by
 have hcn:H c=none:=I.hok.fresh hc
 have ne:∀ a u,H a=some u->a≠c:=fun a u q z=>by rw [z,hcn] at q;cases q
 have old:∀ b o,s.heap.get? b=some o->b≠c:=fun b o q=>YD (YL (Yo q) hc)
 have nP:∀ b,H b=none->b≠P:=fun b q z=>by rw [z,hP] at q;cases q
 have hPc:P≠c:=ne _ _ hP
 refine I.un ⟨fun b o q n _ _=>hx b o (nP b n) q,fun b o q n _ _=>⟨o.slots,hx b o (nP b n) q⟩,fun b o q n _=>by rw [Zy (old b o q),Zy (nP b n)];exact n,fun b o q _=>?_,fun b xs q=>?_,fun b ob u q=>?_,fun b rs q=>?_⟩ fun b u q=>?_
 ·by_cases hb:b=P
  ·rw [hb];exact ⟨_,oP⟩
  ·exact ⟨o,hx b o hb q⟩
 ·rw [Zy (ne _ _ q),Zy (ZcL q hP (by intro z;cases z))];exact q
 ·rw [Zy (ne _ _ q),Zy (ZcL q hP (by intro z;cases z))];exact q
 ·by_cases hb:b=P
  ·subst hb
   rw [hP] at q;cases q
   exact ⟨qs,by rw [Zy hPc,Zae]⟩
  ·exact ⟨#[],by rw [Zy (ne _ _ q),Zy hb,q];simp⟩
 ·by_cases hb:b=c
  ·subst hb
   rw [Zae] at q;cases q
   exact ⟨occ,oc,occ⟩
  ·rw [Zy hb] at q
   by_cases hb2:b=P
   ·subst hb2
    rw [Zae] at q;cases q
    exact oP
   ·rw [Zy hb2] at q
    refine (I.hok b u q).stay (fun d w hd z=>hx d w ?_ z) (fun d z=>?_) fun d xs z=>?_
    ·rcases hd with z2 | z2
     ·rw [z2];exact hb2
     ·exact fun z3=>by rw [z3,hP] at z2;cases z2
    ·rw [Zy (ne _ _ z),Zy (ZcL z hP (by intro z;cases z))];exact z
    ·rw [Zy (ne _ _ z),Zy (ZcL z hP (by intro z;cases z))];exact z
theorem Zgf {name qual:Str} {params:Arguments} {body:Expr} {scope:Scope} {pos:Pos} {firstLine:Nat} {H:Hp} {s:Shared} {P c0:Addr} {E:Value->Shared->Prop} {Q:Value->Shared->Prop}
  (I:Inv X pins σ H s) (g:HR X.K H A) (hA:A P=some (tblO pos qual)) (hcode:X.env.code=.ref c0) (hcd:codeHdIn X.K c0 P=true) (hcl:closureFor scope X.env=pure []) (hBA:X.base.BuiltinsAt X.mg P) (hgP:mainGlobals≠P)
  (h:∀ fl c ctv oc vs t H' s',Inv X (pins++[(fl,kla_obj name qual params body scope [] ((X.mg "__name__").getD .none) c ctv)]) σ H' s'->Kp X.K H H'->HR X.K H' A->H' c=some (.frz oc (.own c))->oc.data=.fields vs->vs[1]? = some (.str qual t)->Q (.ref fl) s') :
  wpAny (model X.prog X.w) X.A (makeFunction name qual params (.expr body) scope X.env [] [] [] pos firstLine) Q E s:=by
 obtain ⟨ps,h1,h2,h3⟩:=(g P _ hA).2.1
 have oP:s.heap.get? P=some (tabObj ps):=I.hok P _ h1
 have gl:=I.mod.glob.keeps I.bk
 have C:=codeHd_of_K I.kIn hcd
 have pinned:∀ {H':Hp} {s':Shared} {o:Obj} (I':Inv X pins σ H' s') (t:Nat),(∀ v,o.data≠.cell v)->o.isFreed=false->Inv X (pins++[(s'.heap.objs.size,o)]) σ H' { s' with heap:=s'.heap.push o,toks:=t }:=by
  intro H' s' o I' t hd hfr
  have f:=I'.fpOk (Yg _) (I'.hok.fresh (Yg _))
  have I2:=I'.kept (t':=t) (h':=s'.heap.push o) fun b u q=>Yi _ q
  refine I2.pins_of fun p hp=>?_
  rcases YK.mp hp with hp | hp
  ·exact I2.pin p (Yw _ hp)
  ·rw [Yv.mp hp]
   exact ⟨YI _ hfr,f.1,f.2.1,f.2.2.1,hd⟩
 rcases h3 with h3 | ⟨c,oc,vs,t,h3,h4,h5,h6⟩
 ·refine kla_makeFunction hcl I.ok.glob gl hcode C oP h2 h3 hgP (hBA.keeps I.bk) fun c' ctv h' tk hx hge hlt hrec htab=>?_
  obtain ⟨c,oc,vs,t,e,ho,hd,hq⟩:=hrec
  cases e
  have I1:=I.coded (t':=tk) h1 hx hge htab ho
  have hcn:H c'=none:=I.hok.fresh hge
  have kp:Kp X.K H (upd (upd H P (.tbl (ps++#[rawInt pos.line,rawInt pos.col,.ref c']))) c' (.frz oc (.own c'))):=Kp.tbl h1 hcn
  have hPc:P≠c':=fun z=>by rw [z,hcn] at h1;cases h1
  refine h _ c' ctv oc vs t _ _ (pinned I1 tk (fun v z=>nomatch z) rfl) kp (fun b o q=>?_) Zae hd hq
  by_cases hb:b=P
  ·subst hb
   rw [hA] at q;cases q
   refine ZiF (by rw [Zy hPc,Zae]) ?_ (.inr ⟨c',oc,vs,t,?_,Zae,hd,hq⟩)
   ·rw [Yct];exact TriplesOk_snoc _ _ _ _ h2
   ·rw [Yct];exact codeAmong_snoc _ h2 h3
  ·have hbc:b≠c':=fun z=>by rw [z,g.none hcn] at q;cases q
   exact (g b o q).keep kp (by rw [Zy hbc,Zy hb])
 ·refine kla_makeFunctionHit hcl I.ok.glob gl hcode C oP h2 h3 (hBA.keeps I.bk) fun ctv h' tk hk hsz=>?_
  have I1:=I.kept (t':=tk) hk
  exact h _ c ctv oc vs t H _ (pinned I1 tk (fun v z=>nomatch z) rfl) (.refl H) g h4 h5 h6
end
theorem ZgI {M:Model} {A:Around} {E:Value->Shared->Prop} {s:Shared} {env:Env} {params:Arguments} {body:Expr} {scope:Scope} {pos:Pos} {Q:Value->Shared->Prop} (hd:params.defaults=[]) (hk:params.kw_defaults=[])
  (h:wpAny M A (makeFunction "<lambda>" (env.qual++"<lambda>") params (.expr body) scope env [] [] [] pos pos.line) Q E s):wpAny M A (eval (.Lambda params body scope pos) env) Q E s:=by
 rw [arm_eval_Lambda,defaultsOf_eq,hk,hd]
 exact Yd (Ybk (Yd (YU (Yl h))))
noncomputable def rSortL (K:YFr) (P:Addr) (lpos:Pos) (qual:Str) (N:List Str) (ae:AE) (b:Bool):V->Hp->VK->Prop:=fun x H Q=>∃ l A Q' us kf dk,x=.ref l/\HR K H A/\A P=some (tblO lpos qual)/\A l=some (.lst us)/\us.length < 64/\DUs A (us.map kf) (us.map dk)/\OkD (us.map dk)/\(∀ u∈us,ZaA (dk u)=true) /\
 (∀ u∈us,ae (aStart N [u]) A (fun y A'=>y=kf u/\Ext A A'))/\(∀ D,A D=none->Q' (.ref D) (updA A D (.lst (srt b us (us.map dk)))))/\Aft K H Q' Q
noncomputable def tSortL (K:YFr) (P:Addr) (lpos:Pos) (qual:Str) (N:List Str) (ae:AE) (b:Bool) (te:TE):TE:=fun σ H Q=>te σ H fun x H1=>rSortL K P lpos qual N ae b x H1 Q
noncomputable def xSortL (P:Addr) (lpos:Pos) (qual:Str) (N:List Str) (ae:AE) (b:Bool):U->AHp->AVK->Prop:=fun x A Q=>∃ l us kf dk,x=.ref l/\A P=some (tblO lpos qual)/\A l=some (.lst us)/\us.length < 64/\DUs A (us.map kf) (us.map dk)/\OkD (us.map dk)/\(∀ u∈us,ZaA (dk u)=true) /\
 (∀ u∈us,ae (aStart N [u]) A (fun y A'=>y=kf u/\Ext A A'))/\∀ D,A D=none->Q (.ref D) (updA A D (.lst (srt b us (us.map dk))))
noncomputable def aSortL (P:Addr) (lpos:Pos) (qual:Str) (N:List Str) (ae:AE) (b:Bool) (aa:AE):AE:=fun ρ A Q=>aa ρ A fun x A1=>xSortL P lpos qual N ae b x A1 Q
theorem ab_sortL {K:YFr} {P:Addr} {lpos:Pos} {qual:Str} {N:List Str} {ae:AE} {b:Bool} {te:TE} {aa:AE} (h:AbE K te aa):AbE K (tSortL K P lpos qual N ae b te) (aSortL P lpos qual N ae b aa):=fun ρ A σ H Q' Q hs g w k =>
 h ρ A σ H _ _ hs g w fun x A1 v H1 k1 g1 r1 hq0=>by
  obtain ⟨l,us,kf,dk,e,h0,h1,h2,h3,h4,h5,h6,q⟩:=hq0
  subst e
  cases r1
  exact ⟨l,A1,Q',us,kf,dk,rfl,g1,h0,h1,h2,h3,h4,h5,h6,q,fun u A2 v2 H2 k2 g2 r2 q2=>k _ _ _ _ (k1.trans k2) g2 r2 q2⟩
section
variable {X:Cx} {k:Nat} {P c0:Addr} {x y:Str} {e body:Expr} {te:TE} {p lpos p3 p4 p5 pos:Pos} {j:Nat} {b:Bool} {params:Arguments} {scope:Scope} {qual:Str} {N:List Str} {ae:AE}
theorem pe_sortL (hr:Room (k + 3) X.A) (hg:Gl X "sorted") (hm:X.mg "sorted"=none) (he:PE X e te) (hcode:X.env.code=.ref c0) (hcd:codeHdIn X.K c0 P=true) (hcl:closureFor scope X.env=pure []) (hBA:X.base.BuiltinsAt X.mg P) (hgP:mainGlobals≠P) (hqu:X.env.qual++"<lambda>"=qual)
  (S:ZA N [y] scope) (hd0:params.defaults=[]) (hk0:params.kw_defaults=[]) (hbind:∀ pm c ctv x,bindArgs (kla_fn "<lambda>" qual params body scope [] pm (.ref c) ctv) ⟨[x],[]⟩=pure [(y,x)])
  (hbody:∀ (fl c:Addr) (s:Shared) (H:Hp),Room k (X.A.in1.in1.deeper (envOfC qual scope s.heap.objs.size fl (.ref c)))->∃ te,PE (cxOf CX0 X.prog X.w X.K X.mg X.base N qual scope fl (.ref c) X.A.in1.in1 X.stack s H E0).nox body te/\AbE X.K te ae)
  (hst:starEach [e] X.env=[(false,eval e X.env)]:=by rfl) :
  PE X (.Call (.Name "sorted" p) [e] [⟨some "key",.Lambda params body scope lpos,p3⟩,⟨some "reverse",.Constant (.bool b) j p4,p5⟩] pos) (tSortL X.K P lpos qual N ae b te):=by
 intro pins s σ H Q I h
 refine Yaj (ZbF I hg hm boot_sorted (show _ from ?_) (by decide) (by decide))
 have hpa:PA X [e] (Zcy te tNil):=Za he Ze hst
 have h':Zcy te tNil σ H (fun vs H1=>match vs with | [x]=>rSortL X.K P lpos qual N ae b x H1 Q | _=>False):=h
 refine YcO (thn (hpa pos pins s σ H _ I h') fun us s1 ⟨vs,H1,I1,r1,q1⟩=>?_) (by rw [hst];rfl) (by rw [hst];rfl) rfl rfl
 dsimp only at q1
 split at q1
 ·obtain ⟨u,rfl,ru⟩:=r1.one
  obtain ⟨l,A,Q',us,kf,dk,rfl,g,hA,hl,h64,hdu,hok,hin,hkey,q,aft⟩:=q1
  cases ru
  have hun:=hr.un
  show wpAny _ _ (evalAll [(do let v <- eval (.Lambda params body scope lpos) X.env;standAt pos;pure v),(do let v <- eval (.Constant (.bool b) j p4) X.env;standAt pos;pure v)]) _ _ s1
  refine Ya8 (Yd ?_)
  refine ZgI hd0 hk0 ?_
  rw [hqu]
  refine Zgf I1 g hA hcode hcd hcl hBA hgP fun fl c ctv oc vs t H2 s2 I2 k2 g2 hz hoc hq=>?_
  refine Yd (YaG (Yl ?_))
  refine Ya8 (Yd (Constant_bool ?_))
  refine Yd (YaG (Yl ?_))
  refine Ybk ?_
  show wpAny _ _ (call (.builtin "sorted") [.ref l] [(Str.ofString "key",.ref fl),(Str.ofString "reverse",.bool b)]) _ _ _
  exact ZdK I2 g2 hl h64 (ksk_s2 _ _ _) (fun x=>ksk_l2 _ _ _) (fun x=>ksk_t2 _ _ _) hdu hok hin (by show X.A.units + 1 + 1 + 200 < cLine;lia)
   (ZfF S (hbind _ _ _) (Yw _ (.head _)) hoc hq hr.in1.in1 rfl (hbody fl c) hkey) hz (fun _ _ z kp=>kp.f _ _ _ z) fun D H' s' hD I' kp g'=>⟨.ref D,H',I'.unpinned,rfl,aft _ _ _ _ (k2.trans kp) g' (.ref D) (q D hD)⟩
 ·exact q1.elim
end
noncomputable abbrev Tabs:=List (Addr × Pos × Str)
noncomputable def OnlyT (ts:Tabs) (H:Hp):Prop:=∀ b,H b=none\/(∃ o xs,H b=some (.frz o (.lst xs)))\/(b∈ts.map (·.1)/\H b=some (.tbl #[]))
theorem Zh7 {P:Program} {w:World} {K:YFr} {mg mb:Str->Option Value} {k:Nat} {fa a:Addr} {fd:FuncData} {x:Str} {sp:Sp} {s₁:Shared} {vs:List Value} {ns:List Int} {ts:Tabs}
  (KX:K.In s₁.heap) (hns:s₁.heap.Ns mainGlobals mg) (hb:s₁.heap.Ns builtinsNs mb) (hbb:∀ x:Str,x≠"__name__"->mb x=bootBuiltins x) (hlim:s₁.heap.NoLimit) (hg:s₁.gens=#[])
  (hbm:∃ bm ob,mg "__builtins__"=some (.ref bm)/\bm≠builtinsNs/\s₁.heap.get? bm=some ob/\ob.cls=.type "module"/\ob.dict=some builtinsNs/\ob.data=.plain)
  (hts:∀ t∈ts,s₁.heap.get? t.1=some (tabObj #[])/\K.lookup t.1=none/\isCodeTable s₁.heap t.1)
  (ha:s₁.heap.get? a=some { cls:=.type "list",data:=.seq vs.toArray }) (hi:IntsAre vs ns) (hl:ns.length<=sizeLine) (hr:Room k callerA)
  (F:∀ base:Heap,K.In base->base.Ns mainGlobals mg->(∀ t∈ts,base.BuiltinsAt mg t.1)->FnOk P w K mg base CX0 k fa fd [x] sp) (hbind:∀ (s:Shared) (u:Value),BindsTo s fd ⟨[u],[]⟩ [(x,u)])
  (hsp:∀ H:Hp,OnlyT ts H->(∀ t∈ts,H t.1=some (.tbl #[]))->SqL K H a (ns.map V.int)->sp [.ref a] H (fun v _=>v=.bl true) E0) :
  codeAny (model P w) callerA (.call (.ref fa) ⟨[.ref a],[]⟩) (fun r s'=>r=.ok (.ret (.bool true))/\OldK s₁.heap s'.heap/\s'.os=s₁.os/\AllBare s'.gens) s₁:=by
 have rv:=ZeD hi
 have lenV:=hi.length
 have na:∀ t∈ts,t.1≠a:=fun t ht z=>by
  have e:=(hts t ht).1
  rw [z,ha] at e;cases e
 have core : ∀ H:Hp,OnlyT ts H->(∀ t∈ts,H t.1=some (.tbl #[]))->SqL K H a (ns.map V.int)->HOk P w H s₁.heap->(∀ b,H b≠none->b=a\/b∈ts.map (·.1))->(H a≠none->K.lookup a=none) ->
   codeAny (model P w) callerA (.call (.ref fa) ⟨[.ref a],[]⟩) (fun r s'=>r=.ok (.ret (.bool true))/\OldK s₁.heap s'.heap/\s'.os=s₁.os/\AllBare s'.gens) s₁:=by
  intro H hO hT hS hok hA hK
  have trkd:∀ {b:Addr} {o:Obj},s₁.heap.get? b=some o->H b≠none->o={ cls:=.type "list",data:=.seq vs.toArray }\/o=tabObj #[]:=fun {b o} e n=>by
   rcases hA b n with z | z
   ·rw [z,ha] at e;cases e;exact .inl rfl
   ·obtain ⟨t,ht,rfl⟩:=Yk.mp z
    rw [(hts t ht).1] at e;cases e;exact .inr rfl
  have base_of:∀ {b:Addr} {o:Obj},s₁.heap.get? b=some o->H b=none->(hidT s₁.heap H).get? b=some o:=fun e n=>hidT_get e n
  have noA:∀ {b:Addr} {o:Obj} {es:Array DictEntry} {ep:Nat},s₁.heap.get? b=some o->o.data=.dict es ep->H b=none:=fun {b o es ep} e d=>by
   cases q:H b with
   | none=>rfl
   | some u =>
    rcases trkd e (by rw [q];simp) with z | z
    ·rw [z] at d;cases d
    ·rw [z] at d;cases d
  have nsK:∀ {b:Addr} {m:Str->Option Value},s₁.heap.Ns b m->(hidT s₁.heap H).Ns b m:=fun {b m} ⟨o,es,ep,e,d,r⟩=>⟨o,es,ep,base_of e (noA e d),d,r⟩
  have hKb:K.In (hidT s₁.heap H):=fun b o e=>base_of (KX b o e) (by
   cases q:H b with
   | none=>rfl
   | some u =>
    rcases hA b (by rw [q];simp) with z | z
    ·subst z
     rw [hK (by rw [q];simp)] at e;cases e
    ·obtain ⟨t,ht,rfl⟩:=Yk.mp z
     rw [(hts t ht).2.1] at e;cases e)
  have hM:Mod K mg (hidT s₁.heap H):=⟨hKb,nsK hns,⟨mb,nsK hb,hbb⟩,let ⟨mc,h1,h2⟩:=hlim;⟨mc,nsK h1,h2⟩⟩
  have hBA:∀ t∈ts,(hidT s₁.heap H).BuiltinsAt mg t.1:=fun t ht=>by
   obtain ⟨bm,ob,b1,b2,b3,b4,b5,b6⟩:=hbm
   have hn:H bm=none:=by
    cases q:H bm with
    | none=>rfl
    | some u =>
     rcases trkd b3 (by rw [q];simp) with z | z
     ·rw [z] at b6;cases b6
     ·rw [z] at b6;cases b6
   refine ⟨bm,ob,b1,b2,fun z=>?_,fun z=>?_,base_of b3 hn,b4,b5,b6⟩
   ·obtain ⟨o,es,ep,e,d,_⟩:=hns
    rw [z,e] at b3;cases b3
    rw [b6] at d;cases d
   ·rw [z,(hts t ht).1] at b3;cases b3;cases b6
  have e0:Env0 P w K mg (hidT s₁.heap H) callerA [] s₁ H:=⟨rfl,hM,fun b o e=>of_hidT e,YcE (Ziy _ _),trivial,fun b hb=>absurd (show b∈([]:List Addr) from hb) (by simp),hok,.of_eq hg⟩
  refine Ya7 ((F _ hKb (nsK hns) hBA).run callerA [] s₁ H ⟨[.ref a],[]⟩ [.ref a] [.ref a] _ _ hr e0 (hbind s₁ (.ref a)) (.cons rfl .nil) (hsp H hO hT hS)) fun r s' h=>?_
  cases r with
  | error e=>exact h.elim
  | ok fl =>
   cases fl with
   | next=>exact False.elim h
   | brk=>exact False.elim h
   | cont=>exact False.elim h
   | ret u =>
    obtain ⟨v,H',os,bare,un,hok',r',q⟩:=h
    have q':v=.bl true:=q
    subst q'
    obtain rfl:u=Value.bool true:=r'
    have cases3:∀ b o,s₁.heap.get? b=some o->s'.heap.get? b=some o\/(b∈ts.map (·.1)/\∃ more,s'.heap.get? b=some (tabObj more)):=fun b o e=>by
     rcases hO b with z | ⟨ob,xs,z⟩ | ⟨z1,z2⟩
     ·exact .inl (un.keep b o e z (by intro y;exact absurd (show b∈([]:List Addr) from y) (by simp)) (by simp))
     ·have y2:=un.frzs b ob _ z
      obtain ⟨e1,_⟩:=hok b _ z
      obtain ⟨e2,_⟩:=hok' b _ y2
      rw [e] at e1;cases e1
      exact .inl e2
     ·obtain ⟨more,y2⟩:=un.tbls b _ z2
      exact .inr ⟨z1,_,hok' b _ y2⟩
    refine ⟨rfl,⟨fun b o e=>?_,fun b o e=>?_⟩,os,bare⟩
    ·rcases cases3 b o e with y | ⟨y1,more,y2⟩
     ·exact .inl y
     ·obtain ⟨t,ht,rfl⟩:=Yk.mp y1
      have e':=(hts t ht).1
      rw [e] at e';cases e'
      exact .inr (.inl ⟨(hts t ht).2.2,rfl,#[],more,rfl,by rw [y2];simp⟩)
    ·rcases cases3 b o e with y | ⟨_,more,y⟩
     ·exact ⟨_,y⟩
     ·exact ⟨_,y⟩
 have tin:∀ t∈ts,t.1∈ts.map (·.1):=fun t ht=>Yk.mpr ⟨t,ht,rfl⟩
 cases hk:K.lookup a with
 | some o =>
  have e:=KX a o hk
  rw [ha] at e
  cases e
  refine core (fun b=>if b∈ts.map (·.1) then some (.tbl #[]) else none) (fun b=>?_) (fun t ht=>if_pos (tin t ht)) (.inr ⟨_,vs.toArray,_,hk,rfl,rfl,rfl,by rw [Yj,lenV];exact hl,by simpa using rv⟩) (fun b u z=>?_) (fun b z=>?_) fun z=>?_
  ·by_cases h:b∈ts.map (·.1)
   ·exact .inr (.inr ⟨h,if_pos h⟩)
   ·exact .inl (if_neg h)
  ·by_cases h:b∈ts.map (·.1)
   ·have z':=(if_pos h).symm.trans z
    cases z'
    obtain ⟨t,ht,rfl⟩:=Yk.mp h
    exact (hts t ht).1
   ·have z':=(if_neg h).symm.trans z
    cases z'
  ·by_cases h:b∈ts.map (·.1)
   ·exact .inr h
   ·exact absurd (if_neg h) z
  ·have h:a ∉ ts.map (·.1):=fun h=>by
    obtain ⟨t,ht,e⟩:=Yk.mp h
    exact na t ht e
   exact absurd (if_neg h) z
 | none =>
  refine core (fun b=>if b=a then some (.frz { cls:=.type "list",data:=.seq vs.toArray } (.lst (ns.map V.int))) else if b∈ts.map (·.1) then some (.tbl #[]) else none) (fun b=>?_) (fun t ht=>(if_neg (na t ht)).trans (if_pos (tin t ht))) (.inl (.inr ⟨{ cls:=.type "list",data:=.seq vs.toArray },if_pos rfl⟩)) (fun b u z=>?_) (fun b z=>?_) fun _=>hk
  ·by_cases hb:b=a
   ·exact .inr (.inl ⟨_,_,if_pos hb⟩)
   ·by_cases h:b∈ts.map (·.1)
    ·exact .inr (.inr ⟨h,(if_neg hb).trans (if_pos h)⟩)
    ·exact .inl ((if_neg hb).trans (if_neg h))
  ·by_cases hb:b=a
   ·have z':=(if_pos hb).symm.trans z
    cases z'
    subst hb
    exact ⟨ha,by rw [Yb];exact hl,vs,_,rv,ha⟩
   ·have z':=(if_neg hb).symm.trans z
    by_cases h:b∈ts.map (·.1)
    ·have z2:=(if_pos h).symm.trans z'
     cases z2
     obtain ⟨t,ht,rfl⟩:=Yk.mp h
     exact (hts t ht).1
    ·have z2:=(if_neg h).symm.trans z'
     cases z2
  ·by_cases hb:b=a
   ·exact .inl hb
   ·by_cases h:b∈ts.map (·.1)
    ·exact .inr h
    ·exact absurd ((if_neg hb).trans (if_neg h)) z
theorem walk_ofT {l:PySem.W.OpenLaw} {n k:Nat} {q:Program} {loose:List Str} {XP:(Str->Option Value)->Heap->Prop} {YP:World->Heap->Prop} {d:DefRec} {K:Params->YFr} {sp:World->Sp} {x:Str} {ts:Tabs}
  (hn:l.most=some n) (hn2:n<=sizeLine) (hdf:d.params.defaults=[]) (hr:Room k callerA)
  (hY:∀ (w:World) (h:Heap),YP w h->(K w.params).In h/\∀ t∈ts,h.get? t.1=some (tabObj #[]))
  (hK:∀ (w:World) (t:Addr × Pos × Str),t∈ts->(K w.params).lookup t.1=none/\∃ c,codeHdIn (K w.params) c t.1=true)
  (F : ∀ (w:World) (mg:Str->Option Value) (fa:Addr) (h:Heap),(K w.params).In h->h.Ns mainGlobals mg->mg d.name=some (.ref fa) ->
   ∃ fd:FuncData,(∀ (s:Shared) (u:Value),BindsTo s fd ⟨[u],[]⟩ [(x,u)]) /\
    ∀ base:Heap,(K w.params).In base->base.Ns mainGlobals mg->(∀ t∈ts,base.BuiltinsAt mg t.1)->FnOk l.prog w (K w.params) mg base CX0 k fa fd [x] (sp w))
  (hsp:∀ (w:World) (H:Hp) (a:Addr) (ns:List Int),ns.length<=n->OnlyT ts H->(∀ t∈ts,H t.1=some (.tbl #[]))->SqL (K w.params) H a (ns.map V.int)->sp w [.ref a] H (fun v _=>v=.bl true) E0) :
  PySem.W.WalkO q loose XP YP l.row.toRowW d [] (fun f vs=>PySem.call f vs):=by
 refine Att.attach_call hn hdf fun w s₀ s₁ mg mb fa o pm cd doc a vs ns G Y ho hd hcd hmg hobj hints hlen hg=>?_
 obtain ⟨KX,hT⟩:=hY w _ Y
 obtain ⟨fd,hb,hF⟩:=F w mg fa _ KX G.T.g hmg
 exact Zh7 (ts:=ts) KX G.T.g G.T.b G.T.builtins G.T.nolimit hg G.T.bmain (fun t ht=>⟨hT t ht,(hK w t ht).1,let ⟨c,hc⟩:=(hK w t ht).2;((codeHd_of_K KX hc).tab (hT t ht)).isCodeTable⟩) hobj hints (YE hlen hn2) hr hF hb (fun H hO h1 hS=>hsp w H a ns hlen hO h1 hS)
noncomputable def Zc2 (ts:Tabs):ASp:=fun us A Q=>∃ ns:List Int,us=[.rol (ns.map U.int)]/\ns.length<=63/\(∀ t∈ts,A t.1=some (tblO t.2.1 t.2.2))/\∀ A',Q (.bl true) A'
theorem law_inT {K:YFr} {H:Hp} {a:Addr} {ns:List Int} {E:XK} {ts:Tabs} (hd:(ts.map (·.1)).Nodup) (hl:ns.length<=63) (hO:OnlyT ts H) (hT:∀ t∈ts,H t.1=some (.tbl #[])) (hS:SqL K H a (ns.map V.int)):spOf K (Zc2 ts) [.ref a] H (fun v _=>v=.bl true) E:=by
 have hR:SqR K H a (ns.map V.int):=by
  rcases hS with (h | h) | h
  ·rcases hO a with e | ⟨o,xs,e⟩ | ⟨_,e⟩ <;> rw [e] at h <;> cases h
  ·exact .inl h
  ·exact .inr h
 refine ⟨[.rol (ns.map U.int)],fun b=>(ts.find? fun t=>decide (t.1=b)).map fun t=>tblO t.2.1 t.2.2,fun u _=>u=.bl true,.one (.rol hR RUs.of_ints),(fun b o e=>?_),⟨ns,rfl,hl,fun t ht=>?_,fun _=>rfl⟩,fun u A v H' _ _ r e=>by subst e;cases r;rfl⟩
 ·obtain ⟨t,ht,rfl⟩:=Yak.mp e
  have h1:=List.mem_of_find?_eq_some ht
  have h2:t.1=b:=YaZ (List.find?_some (p:=fun t:Addr × Pos × Str=>decide (t.1=b)) ht)
  subst h2
  exact ZiF (hT t h1) trivial (.inl rfl)
 ·have : ts.find? (fun t'=>decide (t'.1=t.1))=some t:=by
   clear hO hT
   induction ts with
   | nil=>cases ht
   | cons y ys ih =>
    rw [Yu,YQ] at hd
    rcases Yt.mp ht with z | z
    ·subst z;simp
    ·have:y.1≠t.1:=fun e=>hd.1 (by rw [e];exact Yk.mpr ⟨t,z,rfl⟩)
     rw [List.find?_cons_of_neg (by simpa using this)]
     exact ih hd.2 z
  show (ts.find? fun t'=>decide (t'.1=t.1)).map _=_
  rw [this];rfl
section
variable {X:Cx} {pins:List (Addr × Obj)} {σ:St} {B:Around} {A:AHp} {us:List U} {kl:U->List U} {dl:U->List PyData} {Z:Hp->Prop} {f:Value} {l I S:Addr} {R:Result->Shared->Prop} {H0:Hp}
noncomputable def ZcN (X:Cx) (pins:List (Addr × Obj)) (σ:St) (B:Around) (f:Value) (A0:AHp) (us:List U) (kl:U->List U) (Z:Hp->Prop):Prop :=
 ∀ (pl:List (Addr × Obj)) (s:Shared) (H:Hp) (A:AHp) (u:U) (v:V) (x:Value),Inv X (pins++pl) σ H s->Ext A0 A->HR X.K H A->Z H->u∈us->RU X.K H u v->RelV v x ->
  wpAny (model X.prog X.w) B (call f [x]) (fun y s'=>∃ H' z,y=.ref z/\Inv X (pins++pl) σ H' s'/\Kp X.K H H'/\A z=none/\HR X.K H' (updA A z (.lst (kl u)))) (fun _ _=>False) s
noncomputable def ltL (dl:U->List PyData) (us:List U):Nat->Nat->Bool:=ltD (us.map fun u=>.list (dl u))
theorem ltL_at {i j:Nat} {u w:U} (hi:us[i]? = some u) (hj:us[j]? = some w):ltL dl us i j=ltv (.list (dl u)) (.list (dl w)):=by
 unfold ltL ltD
 rw [Yq,Yq,Yr,Yr,hi,hj];rfl
theorem ZiI {H:Hp} {s:Shared} {i:Nat} {u:U} (J:Inv X pins σ H s) (g:HR X.K H A) (hl:A l=some (.lst us)) (hu:us[i]? = some u):∃ (its:List Value) (x:Value) (v:V),s.heap.IsList l its.toArray/\its.toArray[i]? = some x/\RU X.K H u v/\RelV v x/\its.length=us.length:=by
 obtain ⟨vs,h1,r⟩:=g.list hl
 obtain ⟨its,rv,pl,hz⟩:=J.list (SqL.of h1)
 obtain ⟨v,hv,ru⟩:=r.get' hu
 obtain ⟨x,hx,rel⟩:=rv.get hv
 exact ⟨its,x,v,pl.isList,by rw [List.getElem?_toArray];exact hx,ru,rel,by rw [<- rv.length,r.length]⟩
theorem listed {H:Hp} {s:Shared} (J:Inv X pins σ H s) (g:HR X.K H A) (hl:A l=some (.lst us)):∃ its:List Value,s.heap.IsList l its.toArray/\its.length=us.length:=by
 obtain ⟨vs,h1,r⟩:=g.list hl
 obtain ⟨its,rv,pl,hz⟩:=J.list (SqL.of h1)
 exact ⟨its,pl.isList,by rw [<- rv.length,r.length]⟩
theorem called {H:Hp} {s:Shared} {oI oS:Obj} {u:U} {v:V} {x:Value} {A1:AHp} {Q:Value->Shared->Prop} (hcall:ZcN X pins σ B f A us kl Z) (J:Inv X pins σ H s) (fI:FpOk X pins H I) (fS:FpOk X pins H S) (eI:s.heap.get? I=some oI) (eS:s.heap.get? S=some oS) (dI:∀ v,oI.data≠.cell v) (dS:∀ v,oS.data≠.cell v)
  (hE:Ext A A1) (g:HR X.K H A1) (z:Z H) (hu:u∈us) (ru:RU X.K H u v) (rel:RelV v x)
  (h:∀ H' z s',Inv X pins σ H' s'->Kp X.K H H'->A1 z=none->HR X.K H' (updA A1 z (.lst (kl u)))->FpOk X pins H' I->FpOk X pins H' S->s'.heap.get? I=some oI->s'.heap.get? S=some oS->Q (.ref z) s') :
  wpAny (model X.prog X.w) B (call f [x]) Q (fun _ _=>False) s:=by
 have J1:=J.pinned (fp:=[I,S]) (fun p hp=>by
  rcases Yt.mp hp with rfl | hp
  ·exact fI
  ·rw [Yv.mp hp];exact fS) (fun p hp=>by
  rcases Yt.mp hp with rfl | hp
  ·exact ⟨_,eI,dI⟩
  ·rw [Yv.mp hp];exact ⟨_,eS,dS⟩)
 refine YV (hcall _ s H A1 u v x J1 hE g z hu ru rel) (fun y s' hy=>?_) fun _ _ hF=>hF
 obtain ⟨H',z',rfl,J2,kp,hz,g2⟩:=hy
 have pI:=J2.pin (I,oI) (Yw _ (Yw _ (Za0 (.head _) eI)))
 have pS:=J2.pin (S,oS) (Yw _ (Yw _ (Za0 (.tail _ (.head _)) eS)))
 exact h H' z' s' J2.unpinned kp hz g2 (Zjm fI pI.2.1) (Zjm fS pS.2.1) pI.1 pS.1
theorem ZdS {H:Hp} {s:Shared} {A1:AHp} {zz:Addr} {ks:List U} {ds:List PyData} (J:Inv X pins σ H s) (g:HR X.K H A1) (h:A1 zz=some (.lst ks)) (hd:DUs A1 ks ds):∃ as,Reads s.heap (.ref zz) (.list ds) as :=
 Rep.reads J (DU.rep g (.lst h hd) (.ref zz)) rfl
theorem minK_go (hh:B.in1.handled=none) (hl:A l=some (.lst us)) (hcall:ZcN X pins σ B.in1 f A us kl Z) (hZ:∀ H H',Z H->Kp X.K H H'->Z H') (hdu:∀ u∈us,∀ A',DUs A' (kl u) (dl u)) (hok:OkD (us.map fun u=>.list (dl u))) (hun:B.in1.units + 200 < cLine) (hIS:I≠S) (hfn:f≠.none)
  (hloop : ∀ (s:Shared) (vb kb:Value) (c:Nat) (R:Result->Shared->Prop),s.heap.get? S=some (seqObj "list" #[vb,kb] c) ->
   wpAny (model X.prog X.w) B.in1 (pyNext (.ref I)) (fun o s1=>match o with
    | none=>∃ c1,s1.heap.get? S=some (seqObj "list" #[vb,kb] c1)/\R (.ok (.ret vb)) { s1 with heap:=s1.heap.update S (Obj.mapSeq fun _=>#[]) }
    | some v=>wpAny (model X.prog X.w) B.in1 (call f [v]) (fun k s2=>wpAny (model X.prog X.w) B.in1 (richCompare .Lt k kb) (fun q s3=>∃ b,q=.bool b /\
      if b=true then ∃ c3,s3.heap.get? S=some (seqObj "list" #[vb,kb] c3)/\codeAny (model X.prog X.w) B (.builtin "min.loop" ⟨[.ref I,f,.ref S],[]⟩) R { s3 with heap:=s3.heap.update S (Obj.mapSeq fun _=>#[v,k]) }
      else codeAny (model X.prog X.w) B (.builtin "min.loop" ⟨[.ref I,f,.ref S],[]⟩) R s3) (fun _ _=>False) s2) (fun _ _=>False) s1) (fun _ _=>False) s ->
   codeAny (model X.prog X.w) B (.builtin "min.loop" ⟨[.ref I,f,.ref S],[]⟩) R s)
  (hR:∀ H' s' u v x,Inv X pins σ H' s'->Kp X.K H0 H'->HR X.K H' A->us[argBest (ltL dl us) (us.length - 1)]? = some u->RU X.K H' u v->RelV v x->R (.ok (.ret x)) s') :
  ∀ (r j:Nat) (s:Shared) (H:Hp) (ub:U) (wb:V) (vb:Value) (zb:Addr) (c:Nat),us.length - (j + 1)=r->j + 1<=us.length->Inv X pins σ H s->Kp X.K H0 H->Z H->FpOk X pins H I->FpOk X pins H S->s.heap.IsListIter I l (j + 1)->s.heap.get? S=some (seqObj "list" #[vb,.ref zb] c) ->
   A zb=none->HR X.K H (updA A zb (.lst (kl ub)))->us[argBest (ltL dl us) j]? = some ub->RU X.K H ub wb->RelV wb vb->codeAny (model X.prog X.w) B (.builtin "min.loop" ⟨[.ref I,f,.ref S],[]⟩) R s:=by
 intro r
 induction r with
 | zero =>
  intro j s H ub wb vb zb c hr hj J k0 z0 fI fS hit eS hzb g hub rub relb
  have hin:j + 1=us.length:=by lia
  have hl1:updA A zb (.lst (kl ub)) l=some (.lst us):=by rw [Zm (neA hl hzb)];exact hl
  obtain ⟨its,il,hlen⟩:=listed J g hl1
  refine hloop s vb (.ref zb) c R eS (Ycc hh hit il (by simp;lia) fun h' he'=>?_)
  have J1:=J.mine (t':=s.toks) fI fun b o hb q=>he' b o hb q
  have eS1:=he' S _ (Ne.symm hIS) eS
  refine ⟨c,eS1,?_⟩
  have s1:=Y3 h' S (Obj.mapSeq fun _=>(#[]:Array Value))
  have J2:=J1.mine (t':=s.toks) (s:={ s with heap:=h',toks:=s.toks }) fS fun b o hb q=>(s1.2 b hb).trans q
  refine hR H _ ub wb vb J2 k0 (HR.ext (Ext.new hzb) g) ?_ rub relb
  rw [<- hin];exact hub
 | succ r ih =>
  intro j s H ub wb vb zb c hr hj J k0 z0 fI fS hit eS hzb g hub rub relb
  have hlt:j + 1 < us.length:=by lia
  have hl1:updA A zb (.lst (kl ub)) l=some (.lst us):=by rw [Zm (neA hl hzb)];exact hl
  have hu:us[j + 1]? = some us[j + 1]:=Ye hlt
  obtain ⟨its,x,v,il,hx,rv,rel,hlen⟩:=ZiI J g hl1 hu
  have hmem:=Yn hu
  have hmb:=Yn hub
  refine hloop s vb (.ref zb) c R eS (Ybl hit il hx fun h' hit' hs'=>?_)
  have J1:=J.mine (t':=s.toks) fI fun b o hb q=>(hs'.2 b hb).trans q
  have eS1:h'.get? S=some (seqObj "list" #[vb,.ref zb] c):=(hs'.2 S (Ne.symm hIS)).trans eS
  obtain ⟨oI,eI,hoc,hod⟩:=id hit'
  refine called (s:={ s with heap:=h',toks:=s.toks }) hcall J1 fI fS eI eS1 (fun v z=>by rw [hod] at z;cases z) (fun v z=>nomatch z) (Ext.new hzb) g z0 hmem rv rel fun H2 z s2 J2 k2 hz g2 fI2 fS2 eI2 eS2=>?_
  have zne:z≠zb:=fun e=>by rw [e,Zd] at hz;cases hz
  have hzA:A z=none:=by rw [Zm zne] at hz;exact hz
  have a1:updA (updA A zb (.lst (kl ub))) z (.lst (kl us[j + 1])) z=some (.lst (kl us[j + 1])):=Zd
  have a2:updA (updA A zb (.lst (kl ub))) z (.lst (kl us[j + 1])) zb=some (.lst (kl ub)):=by rw [Zm (Ne.symm zne),Zd]
  obtain ⟨as,ra⟩:=ZdS J2 g2 a1 (hdu _ hmem _)
  obtain ⟨bs,rb⟩:=ZdS J2 g2 a2 (hdu _ hmb _)
  have m1:PyData.list (dl us[j + 1])∈us.map fun u=>PyData.list (dl u):=Yk.mpr ⟨_,hmem,rfl⟩
  have m2:PyData.list (dl ub)∈us.map fun u=>PyData.list (dl u):=Yk.mpr ⟨_,hmb,rfl⟩
  have d1:=(hok.1 _ m1).2
  have d2:=(hok.1 _ m2).2
  have elt:=ltL_at (dl:=dl) hu hub
  refine Zct _ _ _ B.in1 s2 _ _ as bs (Yg _) ra rb (hok.1 _ m1).1 (hok.1 _ m2).1 (hok.2 _ m1 _ m2) (by lia) X.prog X.w _ _ ⟨_,rfl,?_⟩
  by_cases hb:ltL dl us (j + 1) (argBest (ltL dl us) j)=true
  ·rw [if_pos (by rw [<- elt];exact hb)]
   refine ⟨c,eS2,?_⟩
   have s1:=Y3 s2.heap S (Obj.mapSeq fun _=>#[x,.ref z])
   have J3:=J2.mine (t':=s2.toks) fS2 fun b o hb q=>(s1.2 b hb).trans q
   have hit3:(s2.heap.update S (Obj.mapSeq fun _=>#[x,.ref z])).IsListIter I l (j + 1 + 1):=⟨oI,(s1.2 I hIS).trans eI2,hoc,hod⟩
   refine ih (j + 1) _ H2 us[j + 1] v x z _ (by lia) hlt J3 (k0.trans k2) (hZ _ _ z0 k2) fI2 fS2 hit3 (YaF eS2 fun _=>#[x,.ref z]) hzA ?_ ?_ (rv.same k2) rel
   ·refine HR.ext (fun b o q=>?_) g2
    by_cases e:b=z
    ·subst e;rw [Zd] at q ⊢;exact q
    ·rw [Zm e] at q ⊢
     exact Ext.new hzb b o q
   ·show us[if ltL dl us (j + 1) (argBest (ltL dl us) j)=true then j + 1 else argBest (ltL dl us) j]? = _
    rw [if_pos hb];exact hu
  ·rw [if_neg (by rw [<- elt];exact hb)]
   have hit3:s2.heap.IsListIter I l (j + 1 + 1):=⟨oI,eI2,hoc,hod⟩
   refine ih (j + 1) s2 H2 ub wb vb zb c (by lia) hlt J2 (k0.trans k2) (hZ _ _ z0 k2) fI2 fS2 hit3 eS2 hzb (HR.ext (Ext.new hz) g2) ?_ (rub.same k2) relb
   show us[if ltL dl us (j + 1) (argBest (ltL dl us) j)=true then j + 1 else argBest (ltL dl us) j]? = _
   rw [if_neg hb];exact hub
open PySem.F in
theorem min_step {f:Addr} (s:Shared) (vb kb:Value) (c:Nat) (R:Result->Shared->Prop) (eS:s.heap.get? S=some (seqObj "list" #[vb,kb] c))
  (h : wpAny (model X.prog X.w) B.in1 (pyNext (.ref I)) (fun o s1=>match o with
    | none=>∃ c1,s1.heap.get? S=some (seqObj "list" #[vb,kb] c1)/\R (.ok (.ret vb)) { s1 with heap:=s1.heap.update S (Obj.mapSeq fun _=>#[]) }
    | some v=>wpAny (model X.prog X.w) B.in1 (call (.ref f) [v]) (fun k s2=>wpAny (model X.prog X.w) B.in1 (richCompare .Lt k kb) (fun q s3=>∃ b,q=.bool b /\
      if b=true then ∃ c3,s3.heap.get? S=some (seqObj "list" #[vb,kb] c3)/\codeAny (model X.prog X.w) B (.builtin "min.loop" ⟨[.ref I,.ref f,.ref S],[]⟩) R { s3 with heap:=s3.heap.update S (Obj.mapSeq fun _=>#[v,k]) }
      else codeAny (model X.prog X.w) B (.builtin "min.loop" ⟨[.ref I,.ref f,.ref S],[]⟩) R s3) (fun _ _=>False) s2) (fun _ _=>False) s1) (fun _ _=>False) s) :
  codeAny (model X.prog X.w) B (.builtin "min.loop" ⟨[.ref I,.ref f,.ref S],[]⟩) R s:=by
 have nm:(toString "min"++toString ".loop":String)="min.loop":=by decide
 refine YbA entry_min_loop ?_
 rw [Ya1 plain_min_loop _]
 show wpAny _ B.in1 (seqItems? (Value.ref S) >>= _) _ _ s
 refine Yd (Ybe eS rfl (show _ from ?_))
 show wpAny _ B.in1 (tryCatch (pyNext (Value.ref I)) _ >>= _) _ _ s
 refine Yd (Ybf (YV h (fun o s1 ho=>?_) fun _ _ hF=>hF.elim))
 cases o with
 | none =>
  obtain ⟨c1,e1,q⟩:=ho
  show wpAny _ B.in1 (updateSeq S (fun (_:Array Value)=>#[]) >>= _) _ _ _
  refine Yd ?_
  exact YaS e1 rfl (Yd (Ya4 (Yl q)))
 | some v =>
  show wpAny _ B.in1 (tryCatch (holding [v] (call (.ref f) [v])) _ >>= _) _ _ _
  refine Yd (Ybf (YU (YV ho (fun k s2 hk=>?_) fun _ _ hF=>hF.elim)))
  show wpAny _ B.in1 (tryCatch (holding [v,k] (richCompare .Lt k kb >>= _)) _ >>= _) _ _ _
  refine Yd (Ybf (YU (Yd (YV hk (fun q s3 hq=>?_) fun _ _ hF=>hF.elim))))
  obtain ⟨b,rfl,hb⟩:=hq
  refine Yd (YU (Yaz (show _ from ?_)))
  refine Yd (Ya4 (Yl (show _ from ?_)))
  cases b with
  | true =>
   rw [if_pos rfl] at hb
   obtain ⟨c3,e3,q⟩:=hb
   simp only [if_true]
   refine Yd ?_
   refine YaS e3 rfl (Yd (Ya4 (show _ from ?_)))
   rw [nm]
   exact Yl ⟨YaP plain_min_loop _,q⟩
  | false =>
   rw [if_neg (by simp)] at hb
   simp only [Yah,YaH]
   refine Yd (Ya4 (show _ from ?_))
   rw [nm]
   exact Yl ⟨YaP plain_min_loop _,hb⟩
open PySem.F in
theorem min_run {fl:Addr} {H:Hp} {s:Shared} {E:Value->Shared->Prop} {Q:Value->Shared->Prop} (J:Inv X pins σ H s) (g:HR X.K H A) (z0:Z H) (hh:B.in1.handled=none) (hl:A l=some (.lst us)) (hne:0 < us.length) (hcall:ZcN X pins σ B.in1 (.ref fl) A us kl Z) (hZ:∀ H H',Z H->Kp X.K H H'->Z H')
  (hdu:∀ u∈us,∀ A',DUs A' (kl u) (dl u)) (hok:OkD (us.map fun u=>.list (dl u))) (hun:B.in1.units + 200 < cLine)
  (hQ:∀ H' s' u v x,Inv X pins σ H' s'->Kp X.K H H'->HR X.K H' A->us[argBest (ltL dl us) (us.length - 1)]? = some u->RU X.K H' u v->RelV v x->Q x s') :
  wpAny (model X.prog X.w) B (call (.builtin "min") [.ref l] [(Str.ofString "key",.ref fl)]) Q E s:=by
 have nm:(toString "min"++toString ".loop":String)="min.loop":=by decide
 obtain ⟨its0,il0,hlen0⟩:=listed J g hl
 have hll:l < s.heap.objs.size:=by obtain ⟨o,e,_⟩:=il0;exact Yo e
 refine kmk_tree kind_min plain_min entry_min (kmk_min_key _ _) (show _ from ?_)
 show wpAny _ B.in1 (Builtin.Builtins.bindParams "min" ["key","default"] 0 ⟨[],[(Str.ofString "key",.ref fl)]⟩ >>= _) _ E s
 refine Yd (wpAny_of_eq (show Builtin.Builtins.bindParams "min" ["key","default"] 0 ⟨[],[(Str.ofString "key",.ref fl)]⟩=pure [some (.ref fl),none] from rfl) (show _ from ?_))
 refine Yd (Yl (show _ from ?_))
 refine Yd (YaX il0 (show _ from ?_))
 refine Yd (Ybp (show _ from ?_) (YX _))
 rw [nm]
 refine Yl ⟨YaP plain_min_loop _,?_⟩
 obtain ⟨h1,e1⟩:∃ h1,h1=s.heap.push { cls:=.type "list_iterator",data:=.fields #[.ref l,.int 0 0] }:=⟨_,rfl⟩
 have fI:FpOk X pins H s.heap.objs.size:=J.fpOk (Yg _) (J.hok.fresh (Yg _))
 have J1:=J.kept (t':=s.toks) (h':=h1) fun b o q=>by rw [e1];exact Yi _ q
 have fS:FpOk X pins H h1.objs.size:=J1.fpOk (Yg _) (J1.hok.fresh (Yg _))
 have J2:=J1.kept (t':=s.toks) (h':=h1.push { cls:=.type "list",data:=.seq #[] }) fun b o q=>Yi _ q
 have gI0:h1.get? s.heap.objs.size=some { cls:=.type "list_iterator",data:=.fields #[.ref l,.int 0 0] }:=by rw [e1];exact YI _ rfl
 have gI:(h1.push { cls:=.type "list",data:=.seq #[] }).get? s.heap.objs.size=some { cls:=.type "list_iterator",data:=.fields #[.ref l,.int 0 0] }:=Yi _ gI0
 have gS:(h1.push { cls:=.type "list",data:=.seq #[] }).get? h1.objs.size=some (seqObj "list" #[] 0):=YI _ rfl
 have hIS:s.heap.objs.size≠h1.objs.size:=YD (Yo gI0)
 rw [<- e1]
 refine YbA entry_min_loop ?_
 rw [Ya1 plain_min_loop _]
 show wpAny _ B.in1 (seqItems? (Value.ref _) >>= _) _ _ _
 refine Yd (Ybe gS rfl (show _ from ?_))
 show wpAny _ B.in1 (tryCatch (pyNext (Value.ref s.heap.objs.size)) _ >>= _) _ _ _
 have hu:us[0]? = some us[0]:=Ye hne
 obtain ⟨its,x,v,il,hx,rv,rel,hlen⟩:=ZiI J2 g hl hu
 have hmem:=Yn hu
 refine Yd (Ybf (Ybl ⟨_,gI,rfl,rfl⟩ il hx fun h' hit' hs'=>?_))
 have J3:=J2.mine (t':=s.toks) (s:={ s with heap:=h1.push { cls:=.type "list",data:=.seq #[] },toks:=s.toks }) fI fun b o hb q=>(hs'.2 b hb).trans q
 have eS1:h'.get? h1.objs.size=some (seqObj "list" #[] 0):=(hs'.2 _ (Ne.symm hIS)).trans gS
 obtain ⟨oI,eI,hoc,hod⟩:=id hit'
 show wpAny _ B.in1 (tryCatch (holding [x] (call (.ref fl) [x])) _ >>= _) _ _ _
 refine Yd (Ybf (YU (YV (called (s:={ s with heap:=h',toks:=s.toks }) (Q:=fun y s2=>∃ H2 z,y=.ref z/\Inv X pins σ H2 s2/\Kp X.K H H2/\A z=none/\HR X.K H2 (updA A z (.lst (kl us[0])))/\FpOk X pins H2 s.heap.objs.size/\FpOk X pins H2 h1.objs.size/\s2.heap.get? s.heap.objs.size=some oI/\s2.heap.get? h1.objs.size=some (seqObj "list" #[] 0))
  hcall J3 fI fS eI eS1 (fun v z=>by rw [hod] at z;cases z) (fun v z=>nomatch z) (Ext.refl A) g z0 hmem rv rel fun H2 z s2 J4 k2 hz g2 fI2 fS2 eI2 eS2=>⟨H2,z,rfl,J4,k2,hz,g2,fI2,fS2,eI2,eS2⟩) (fun y s2 hy=>?_) fun _ _ hF=>hF.elim)))
 obtain ⟨H2,z,rfl,J4,k2,hz,g2,fI2,fS2,eI2,eS2⟩:=hy
 show wpAny _ B.in1 (updateSeq h1.objs.size (fun (_:Array Value)=>#[x,.ref z]) >>= _) _ _ _
 refine Yd ?_
 refine YaS eS2 rfl (show _ from ?_)
 rw [nm]
 refine Yl ⟨YaP plain_min_loop _,?_⟩
 have s1:=Y3 s2.heap h1.objs.size (Obj.mapSeq fun _=>#[x,.ref z])
 have J5:=J4.mine (t':=s2.toks) fS2 fun b o hb q=>(s1.2 b hb).trans q
 exact minK_go (H0:=H) hh hl hcall hZ hdu hok hun hIS (fun z=>nomatch z) (fun s vb kb c R e h=>min_step s vb kb c R e h) (fun H' s' u v x a1 a2 a3 a4 a5 a6=>hQ H' s' u v x a1 a2 a3 a4 a5 a6) (us.length - (0 + 1)) 0 _ H2 us[0] v x z _ rfl hne J5 k2 (hZ _ _ z0 k2) fI2 fS2 ⟨oI,(s1.2 _ hIS).trans eI2,hoc,hod⟩ (YaF eS2 fun _=>#[x,.ref z]) hz g2 hu (rv.same k2) rel
theorem Zfo {fl c:Addr} {name qual:Str} {params:Arguments} {body:Expr} {scope:Scope} {pm ctv:Value} {oc:Obj} {vs:Array Value} {tq:Tok} {p:Str} {N:List Str} {ae:AE} {k:Nat}
  (S:ZA N [p] scope) (hbind:∀ x,bindArgs (kla_fn name qual params body scope [] pm (.ref c) ctv) ⟨[x],[]⟩=pure [(p,x)])
  (m1:(fl,kla_obj name qual params body scope [] pm c ctv)∈pins) (hoc:oc.data=.fields vs) (hq:vs[1]? = some (.str qual tq))
  (hr:Room (k + 1) B) (hfr:B.frames=X.A.frames)
  (hbody:∀ (s:Shared) (H:Hp),Room k (B.deeper (envOfC qual scope s.heap.objs.size fl (.ref c)))->∃ te,PE (cxOf CX0 X.prog X.w X.K X.mg X.base N qual scope fl (.ref c) B X.stack s H E0).nox body te/\AbE X.K te ae)
  (hkey:∀ u∈us,∀ A1,Ext A A1->ae (aStart N [u]) A1 (fun y A'=>∃ z,y=.ref z/\A1 z=none/\Ext (updA A1 z (.lst (kl u))) A')):ZcN X pins σ B (.ref fl) A us kl (fun H=>H c=some (.frz oc (.own c))):=by
 intro pl s H A1 u v x I hE g hz hu r rel
 have p1:=(I.pin _ (Yw _ (Yau pl m1))).1
 have p2:s.heap.get? c=some oc:=(I.hok c _ hz).1
 have e0:=I.env0
 have e1:Env0 X.prog X.w X.K X.mg X.base B X.stack s H:=⟨hfr.trans e0.frames,e0.mod,e0.bs,e0.bsz,e0.funs,e0.frf,e0.hok,e0.bare⟩
 have rv:Vals [v] [x]:=.cons rel .nil
 have hkind:∀ y∈[(p,x)],scope.names.lookup y.1=some .local\/(scope.names.lookup y.1=some .cell/\((cellsFrom (s.heap.objs.size + 1) scope.names []).lookup y.1).isSome=true):=fun y hy=>by
  rw [Yv.mp hy]
  rcases S.par p (.head _) with q | q
  ·exact .inl q
  ·exact .inr ⟨q,YaV _ _ _ (.inl q)⟩
 have lim:s.heap.NoLimit:=e1.mod.nolimit.keeps fun b o e=>(e1.bs b o e).1
 obtain ⟨te,hpe,hab⟩:=hbody s H (hr.deeper _)
 refine Ycj (Ya7 (R:=CR CX0 X.stack X.prog X.w H s (fun y H'=>∃ z,y=.ref z/\Kp X.K H H'/\A1 z=none/\HR X.K H' (updA A1 z (.lst (kl u)))) E0) ?_ fun res s' hq=>?_)
 ·refine kla_callFunE hr.depth p1 rfl S.co S.gen rfl ⟨c,oc,vs,tq,rfl,p2,hoc,hq⟩ ?_
  rw [hbind]
  refine Yl ?_
  refine Ya2 S.kind hkind fun env he s1 xx=>?_
  subst he
  refine ⟨lim.keeps xx.toInCall.keep,kla_codeExpr ?_⟩
  have J:Inv (cxOf CX0 X.prog X.w X.K X.mg X.base N qual scope fl (.ref c) B X.stack s H E0) [] (start N [v]) H s1:=Zdv S hr.hd e1 rfl rv xx
  refine YV (hpe.nox [] s1 (start N [v]) H (fun y H'=>∃ z,y=.ref z/\Kp X.K H H'/\A1 z=none/\HR X.K H' (updA A1 z (.lst (kl u)))) J (hab (aStart N [u]) A1 _ _ _ _ (RSt.start N (.cons r .nil)) g (hkey u hu A1 hE) fun y A' z H' kp g' r' q=>?_)) (fun y s2 hs=>?_) fun e s2 hs=>hs
  ·obtain ⟨z',rfl,hz',e⟩:=q
   cases r'
   exact ⟨z',rfl,kp,hz',HR.ext e g'⟩
  ·obtain ⟨z,H',J',rz,q⟩:=hs
   exact ⟨z,H',J'.os,J'.bare,J'.base,J'.hok,rz,q⟩
 ·cases res with
  | error e=>exact hq.elim
  | ok fl =>
   cases fl with
   | ret y =>
    obtain ⟨w,H',I',rz,z,rfl,k1,hz1,g1⟩:=I.after hq
    cases rz
    exact ⟨H',z,rfl,I',k1,hz1,g1⟩
   | next=>exact False.elim hq
   | brk=>exact False.elim hq
   | cont=>exact False.elim hq
end
noncomputable def rMinL (K:YFr) (P:Addr) (lpos:Pos) (qual:Str) (N:List Str) (ae:AE):V->Hp->VK->Prop:=fun x H Q=>∃ (l:Addr) (A:AHp) (Q':AVK) (us:List U) (kl:U->List U) (dl:U->List PyData),x=.ref l/\HR K H A/\A P=some (tblO lpos qual)/\A l=some (.lst us)/\0 < us.length/\(∀ u∈us,∀ A',DUs A' (kl u) (dl u))/\OkD (us.map fun u=>.list (dl u)) /\
 (∀ u∈us,∀ A1,Ext A A1->ae (aStart N [u]) A1 (fun y A'=>∃ z,y=.ref z/\A1 z=none/\Ext (updA A1 z (.lst (kl u))) A'))/\(∀ u,us[argBest (ltL dl us) (us.length - 1)]? = some u->Q' u A)/\Aft K H Q' Q
noncomputable def tMinL (K:YFr) (P:Addr) (lpos:Pos) (qual:Str) (N:List Str) (ae:AE) (te:TE):TE:=fun σ H Q=>te σ H fun x H1=>rMinL K P lpos qual N ae x H1 Q
noncomputable def xMinL (P:Addr) (lpos:Pos) (qual:Str) (N:List Str) (ae:AE):U->AHp->AVK->Prop:=fun x A Q=>∃ (l:Addr) (us:List U) (kl:U->List U) (dl:U->List PyData),x=.ref l/\A P=some (tblO lpos qual)/\A l=some (.lst us)/\0 < us.length/\(∀ u∈us,∀ A',DUs A' (kl u) (dl u))/\OkD (us.map fun u=>.list (dl u)) /\
 (∀ u∈us,∀ A1,Ext A A1->ae (aStart N [u]) A1 (fun y A'=>∃ z,y=.ref z/\A1 z=none/\Ext (updA A1 z (.lst (kl u))) A'))/\∀ u,us[argBest (ltL dl us) (us.length - 1)]? = some u->Q u A
noncomputable def aMinL (P:Addr) (lpos:Pos) (qual:Str) (N:List Str) (ae:AE) (aa:AE):AE:=fun ρ A Q=>aa ρ A fun x A1=>xMinL P lpos qual N ae x A1 Q
theorem ab_minL {K:YFr} {P:Addr} {lpos:Pos} {qual:Str} {N:List Str} {ae:AE} {te:TE} {aa:AE} (h:AbE K te aa):AbE K (tMinL K P lpos qual N ae te) (aMinL P lpos qual N ae aa):=fun ρ A σ H Q' Q hs g w k =>
 h ρ A σ H _ _ hs g w fun x A1 v H1 k1 g1 r1 hq0=>by
  obtain ⟨l,us,kl,dl,e,h0,h1,h2,h3,h4,h5,q⟩:=hq0
  subst e
  cases r1
  exact ⟨l,A1,Q',us,kl,dl,rfl,g1,h0,h1,h2,h3,h4,h5,q,fun u A2 v2 H2 k2 g2 r2 q2=>k _ _ _ _ (k1.trans k2) g2 r2 q2⟩
section
variable {X:Cx} {k:Nat} {P c0:Addr} {y:Str} {e body:Expr} {te:TE} {p lpos p3 pos:Pos} {params:Arguments} {scope:Scope} {qual:Str} {N:List Str} {ae:AE}
theorem pe_minL (hc:X.calm=true) (hr:Room (k + 2) X.A) (hg:Gl X "min") (hm:X.mg "min"=none) (he:PE X e te) (hcode:X.env.code=.ref c0) (hcd:codeHdIn X.K c0 P=true) (hcl:closureFor scope X.env=pure []) (hBA:X.base.BuiltinsAt X.mg P) (hgP:mainGlobals≠P) (hqu:X.env.qual++"<lambda>"=qual)
  (S:ZA N [y] scope) (hd0:params.defaults=[]) (hk0:params.kw_defaults=[]) (hbind:∀ pm c ctv x,bindArgs (kla_fn "<lambda>" qual params body scope [] pm (.ref c) ctv) ⟨[x],[]⟩=pure [(y,x)])
  (hbody:∀ (fl c:Addr) (s:Shared) (H:Hp),Room k (X.A.in1.deeper (envOfC qual scope s.heap.objs.size fl (.ref c)))->∃ te,PE (cxOf CX0 X.prog X.w X.K X.mg X.base N qual scope fl (.ref c) X.A.in1 X.stack s H E0).nox body te/\AbE X.K te ae)
  (hst:starEach [e] X.env=[(false,eval e X.env)]:=by rfl) :
  PE X (.Call (.Name "min" p) [e] [⟨some "key",.Lambda params body scope lpos,p3⟩] pos) (tMinL X.K P lpos qual N ae te):=by
 intro pins s σ H Q I h
 refine Yaj (ZbF I hg hm (show bootBuiltins "min"=some (.builtin "min") by decide +kernel) (show _ from ?_) (by decide) (by decide))
 have hpa:PA X [e] (Zcy te tNil):=Za he Ze hst
 have h':Zcy te tNil σ H (fun vs H1=>match vs with | [x]=>rMinL X.K P lpos qual N ae x H1 Q | _=>False):=h
 refine YcO (thn (hpa pos pins s σ H _ I h') fun us s1 ⟨vs,H1,I1,r1,q1⟩=>?_) (by rw [hst];rfl) (by rw [hst];rfl) rfl rfl
 dsimp only at q1
 split at q1
 ·obtain ⟨u,rfl,ru⟩:=r1.one
  obtain ⟨l,A,Q',us,kl,dl,rfl,g,hA,hl,hne,hdu,hok,hkey,q,aft⟩:=q1
  cases ru
  have hun:=hr.un
  show wpAny _ _ (evalAll [(do let v <- eval (.Lambda params body scope lpos) X.env;standAt pos;pure v)]) _ _ s1
  refine Ya8 (Yd ?_)
  refine ZgI hd0 hk0 ?_
  rw [hqu]
  refine Zgf I1 g hA hcode hcd hcl hBA hgP fun fl c ctv oc vs t H2 s2 I2 k2 g2 hz hoc hq=>?_
  refine Yd (YaG (Yl ?_))
  refine Ybk ?_
  show wpAny _ _ (call (.builtin "min") [.ref l] [(Str.ofString "key",.ref fl)]) _ _ _
  exact min_run I2 g2 hz (show X.A.in1.handled=none from I.ok.hd hc) hl hne (Zfo S (hbind _ _ _) (Yw _ (.head _)) hoc hq hr.in1 rfl (hbody fl c) hkey) (fun _ _ z kp=>kp.f _ _ _ z) hdu hok (by show X.A.units + 1 + 200 < cLine;lia)
   fun H' s' u v x I' kp g' hu rv rel=>⟨v,H',I'.unpinned,rel,aft _ _ _ _ (k2.trans kp) g' rv (q u hu)⟩
 ·exact q1.elim
end
section
variable {P:Program} {w:World} {K:YFr} {mg:Str->Option Value} {base:Heap}
theorem Fun.okL {x qual:Str} {st:Stmt} {f c0:Addr} {fd:FuncData} {N ps:List Str} {k:Nat} {asp:ASp} {sc:Scope} {body:List Stmt} {as:AS} (F:Fun K x qual st f fd) (hc:fd.code=.ref c0) (hs:defScope st=sc) (hb:defBody st=body) (S:ZA N ps (defScope st))
  (hB:ZA N ps sc->∀ (A:Around) (outer:List Env) (s:Shared) (H:Hp) (E:XK),Room k (A.deeper (envOfC qual sc s.heap.objs.size f (.ref c0)))->∃ t,PSs (cxOf CX0 P w K mg base N qual sc f (.ref c0) A outer s H E).nox body t/\AbS K t as)
  (hS:∀ us A Q,asp us A Q->us.length=ps.length/\as { nx:=fun _ A'=>Fg Q .non A',rt:=Fg Q } (aStart N us) A):FnOk P w K mg base CX0 (k + 1) f fd ps (spOf K asp):=by
 subst hs hb
 obtain ⟨oc,od,kV,doc,pm,an,cdv,ct,osl,rfl,lk,hcd⟩:=F.ex
 have hc':cdv=.ref c0:=hc
 subst hc'
 refine fn_of lk hcd S (fun vs H Q E h=>?_) fun A outer s H vs Q E hr h=>?_
 ·obtain ⟨us,A,Q',r,g,h,k⟩:=h
  rw [<- r.length];exact (hS us A Q' h).1
 ·obtain ⟨us,A',Q',r,g,h,k⟩:=h
  obtain ⟨t,ht,ha⟩:=hB S A outer s H E hr
  exact ⟨t,ht.nox,ha _ _ _ _ _ _ (RSt.start N r) g (hS us A' Q' h).2 ⟨fun ρ A σ H' k' g' s' ⟨A3,e,q'⟩=>k _ _ _ _ k' (g'.ext e) .non q',fun u A v H' k' g' r' ⟨A3,e,q'⟩=>k _ _ _ _ k' (g'.ext e) r' q',fun _ _ _ _ _ _ _ q=>q.elim,fun _ _ _ _ _ _ _ q=>q.elim⟩⟩
end
section
variable {asp:ASp} {b:Bool} {aa ae:AE} {ρ:ASt} {A:AHp} {Q:AVK} {P p:Addr} {lpos:Pos} {qual:Str} {N:List Str}
theorem q_sortF:(aSortF asp b aa ρ A Q)=(aa ρ A fun x A1=>xSortF asp b x A1 Q):=rfl
theorem q_sortL:(aSortL P lpos qual N ae b aa ρ A Q)=(aa ρ A fun x A1=>xSortL P lpos qual N ae b x A1 Q):=rfl
theorem q_minL:(aMinL P lpos qual N ae aa ρ A Q)=(aa ρ A fun x A1=>xMinL P lpos qual N ae x A1 Q):=rfl
end
open PySem
mutual
noncomputable def ZI:PyData->Bool
 | .int _=>true
 | .str _=>true
 | .tuple xs=>Zam xs
 | .list xs=>Zam xs
 | _=>false
noncomputable def Zam:List PyData->Bool
 | []=>true
 | x::xs=>ZI x && Zam xs
end
theorem ZjH : ∀ n:Nat,(∀ x y:PyData,sizeOf x<=n->ZI x=true->ZI y=true->(PyData.eqv x y=true ↔ x=y))/\∀ xs ys:List PyData,sizeOf xs<=n->Zam xs=true->Zam ys=true->(PyData.eqvAll xs ys=true ↔ xs=ys)
 | 0=>⟨fun x y h=>by cases x <;> simp at h,fun xs ys h=>by cases xs <;> simp at h⟩
 | n + 1 => by
  obtain ⟨i1,i2⟩:=ZjH n
  constructor
  ·intro x y h px py
   cases x with
   | int i=>cases y <;> simp [ZI] at py <;> simp [PyData.eqv]
   | str i=>cases y <;> simp [ZI] at py <;> simp [PyData.eqv]
   | tuple xs =>
    cases y with
    | tuple ys =>
     simp at h
     simp only [ZI] at px py
     simp only [PyData.eqv,YaU]
     exact i2 xs ys (by lia) px py
    | _=>simp [PyData.eqv]
   | list xs =>
    cases y with
    | list ys =>
     simp at h
     simp only [ZI] at px py
     simp only [PyData.eqv,YcM]
     exact i2 xs ys (by lia) px py
    | _=>simp [PyData.eqv]
   | _=>simp [ZI] at px
  ·intro xs ys h px py
   cases xs with
   | nil=>cases ys <;> simp [PyData.eqvAll]
   | cons x xs =>
    cases ys with
    | nil=>simp [PyData.eqvAll]
    | cons y ys =>
     simp only [Zam,Yc] at px py
     simp at h
     simp only [PyData.eqvAll,Yc,Y1]
     rw [i1 x y (by lia) px.1 py.1,i2 xs ys (by lia) px.2 py.2]
theorem ZcY {x y:PyData} (px:ZI x=true) (py:ZI y=true):PyData.eqv x y=true ↔ x=y:=(ZjH (sizeOf x)).1 x y (Yg _) px py
theorem Zja : ∀ n:Nat,(∀ x y:PyData,sizeOf x<=n->ZI x=true->ZI y=true->(ltv x y=true->ltv y x=false)/\(okLt x y=true->ltv x y=true\/x=y\/ltv y x=true)) /\
  ∀ xs ys:List PyData,sizeOf xs<=n->Zam xs=true->Zam ys=true->(ltvA xs ys=true->ltvA ys xs=false)/\(Za1 xs ys=true->ltvA xs ys=true\/xs=ys\/ltvA ys xs=true)
 | 0=>⟨fun x y h=>by cases x <;> simp at h,fun xs ys h=>by cases xs <;> simp at h⟩
 | n + 1 => by
  obtain ⟨i1,i2⟩:=Zja n
  constructor
  ·intro x y h px py
   cases x with
   | int i =>
    cases y with
    | int j=>simp only [ltv,okLt,YC,Yb2,YbW];lia
    | _=>simp [ltv,okLt]
   | str i =>
    cases y with
    | str j =>
     simp only [ltv,okLt,YC,Yb2,PyData.str.injEq]
     refine ⟨fun h=>List.lt_asymm h,fun _=>?_⟩
     rcases Decidable.em (i.cps.toList < j.cps.toList) with a | a
     ·exact .inl a
     ·rcases Decidable.em (j.cps.toList < i.cps.toList) with b | b
      ·exact .inr (.inr b)
      ·refine .inr (.inl ?_)
       have e:i.cps.toList=j.cps.toList:=List.le_antisymm (List.not_lt.mp b) (List.not_lt.mp a)
       have e2:=YaC.mp e
       cases i;cases j;simp at e2;rw [e2]
    | _=>simp [ltv,okLt]
   | tuple xs =>
    cases y with
    | tuple ys =>
     simp at h
     simp only [ZI] at px py
     simp only [ltv,okLt,YaU]
     exact i2 xs ys (by lia) px py
    | _=>simp [ltv,okLt]
   | list xs =>
    cases y with
    | list ys =>
     simp at h
     simp only [ZI] at px py
     simp only [ltv,okLt,YcM]
     exact i2 xs ys (by lia) px py
    | _=>simp [ltv,okLt]
   | _=>simp [ZI] at px
  ·intro xs ys h px py
   cases xs with
   | nil=>cases ys <;> simp [ltvA,Za1]
   | cons x xs =>
    cases ys with
    | nil=>simp [ltvA,Za1]
    | cons y ys =>
     simp only [Zam,Yc] at px py
     simp at h
     have a1:=i1 x y (by lia) px.1 py.1
     have a2:=i2 xs ys (by lia) px.2 py.2
     simp only [ltvA,Za1]
     by_cases e:x=y
     ·have e1:PyData.eqv x y=true:=(ZcY px.1 py.1).mpr e
      subst e
      simp only [e1,if_true,Y1,true_and]
      exact a2
     ·have e1:PyData.eqv x y=false:=by cases q:PyData.eqv x y with | false=>rfl | true=>exact absurd ((ZcY px.1 py.1).mp q) e
      have e2:PyData.eqv y x=false:=by cases q:PyData.eqv y x with | false=>rfl | true=>exact absurd ((ZcY py.1 px.1).mp q).symm e
      simp only [e1,e2,Yah,YaH,Y1]
      refine ⟨a1.1,fun o=>?_⟩
      rcases a1.2 o with z | z | z
      ·exact .inl z
      ·exact absurd z e
      ·exact .inr (.inr z)
theorem lt_asymm {x y:PyData} (px:ZI x=true) (py:ZI y=true) (h:ltv x y=true):ltv y x=false:=((Zja (sizeOf x)).1 x y (Yg _) px py).1 h
theorem lt_conn {x y:PyData} (px:ZI x=true) (py:ZI y=true) (h:okLt x y=true):ltv x y=true\/x=y\/ltv y x=true:=((Zja (sizeOf x)).1 x y (Yg _) px py).2 h
theorem Zew {x y:PyData} (px:ZI x=true) (py:ZI y=true) (e:x≠y):PyData.eqv x y=false:=by
 cases q:PyData.eqv x y with
 | false=>rfl
 | true=>exact absurd ((ZcY px py).mp q) e
theorem Zjb {x:PyData} (px:ZI x=true):PyData.eqv x x=true:=(ZcY px px).mpr rfl
theorem tr_aux : ∀ n:Nat,(∀ x y z:PyData,sizeOf x<=n->ZI x=true->ZI y=true->ZI z=true->okLt x z=true->ltv x y=true->ltv y z=true->ltv x z=true) /\
  ∀ xs ys zs:List PyData,sizeOf xs<=n->Zam xs=true->Zam ys=true->Zam zs=true->Za1 xs zs=true->ltvA xs ys=true->ltvA ys zs=true->ltvA xs zs=true
 | 0=>⟨fun x y z h=>by cases x <;> simp at h,fun xs ys zs h=>by cases xs <;> simp at h⟩
 | n + 1 => by
  obtain ⟨i1,i2⟩:=tr_aux n
  constructor
  ·intro x y z h px py pz o h1 h2
   cases x with
   | int i =>
    cases y with
    | int j =>
     cases z with
     | int k=>simp only [ltv,YC] at h1 h2 ⊢;lia
     | _=>simp [ltv] at h2
    | _=>simp [ltv] at h1
   | str i =>
    cases y with
    | str j =>
     cases z with
     | str k=>simp only [ltv,YC] at h1 h2 ⊢;exact List.lt_trans h1 h2
     | _=>simp [ltv] at h2
    | _=>simp [ltv] at h1
   | tuple xs =>
    cases y with
    | tuple ys =>
     cases z with
     | tuple zs =>
      simp at h
      simp only [ZI] at px py pz
      simp only [ltv,okLt] at h1 h2 o ⊢
      exact i2 xs ys zs (by lia) px py pz o h1 h2
     | _=>simp [ltv] at h2
    | _=>simp [ltv] at h1
   | list xs =>
    cases y with
    | list ys =>
     cases z with
     | list zs =>
      simp at h
      simp only [ZI] at px py pz
      simp only [ltv,okLt] at h1 h2 o ⊢
      exact i2 xs ys zs (by lia) px py pz o h1 h2
     | _=>simp [ltv] at h2
    | _=>simp [ltv] at h1
   | _=>simp [ZI] at px
  ·intro xs ys zs h px py pz o h1 h2
   cases xs with
   | nil =>
    cases ys with
    | nil=>simp [ltvA] at h1
    | cons y ys =>
     cases zs with
     | nil=>simp [ltvA] at h2
     | cons z zs=>simp [ltvA]
   | cons x xs =>
    cases ys with
    | nil=>simp [ltvA] at h1
    | cons y ys =>
     cases zs with
     | nil=>simp [ltvA] at h2
     | cons z zs =>
      simp only [Zam,Yc] at px py pz
      simp at h
      simp only [ltvA,Za1] at h1 h2 o ⊢
      by_cases e1:x=y
      ·subst e1
       rw [if_pos (Zjb px.1)] at h1
       by_cases e2:x=z
       ·subst e2
        rw [if_pos (Zjb px.1)] at h2 o ⊢
        exact i2 xs ys zs (by lia) px.2 py.2 pz.2 o h1 h2
       ·rw [if_neg (by rw [Zew px.1 pz.1 e2];simp)] at h2 ⊢
        exact h2
      ·rw [if_neg (by rw [Zew px.1 py.1 e1];simp)] at h1
       by_cases e2:y=z
       ·subst e2
        rw [if_neg (by rw [Zew px.1 py.1 e1];simp)]
        exact h1
       ·rw [if_neg (by rw [Zew py.1 pz.1 e2];simp)] at h2
        by_cases e3:x=z
        ·subst e3
         rw [lt_asymm px.1 py.1 h1] at h2;cases h2
        ·rw [if_neg (by rw [Zew px.1 pz.1 e3];simp)] at o ⊢
         exact i1 x y z (by lia) px.1 py.1 pz.1 o h1 h2
theorem ZeK {x y z:PyData} (px:ZI x=true) (py:ZI y=true) (pz:ZI z=true) (o:okLt x z=true) (h1:ltv x y=true) (h2:ltv y z=true):ltv x z=true:=(tr_aux (sizeOf x)).1 x y z (Yg _) px py pz o h1 h2
theorem ordD {ds:List PyData} (hp:∀ d∈ds,ZI d=true) (ok:∀ d∈ds,∀ e∈ds,okLt d e=true):SortA.Ord ds.length (ltD ds):=by
 have mem:∀ i,i < ds.length->ds.getD i .none∈ds:=fun i hi=>by
  rw [Yq,Ye hi];exact Ybr _
 refine ⟨fun i j hi hj h=>lt_asymm (hp _ (mem i hi)) (hp _ (mem j hj)) h,fun i j k hi hj hk h1 h2=>?_⟩
 unfold ltD at h1 h2 ⊢
 cases q:ltv (ds.getD k .none) (ds.getD i .none) with
 | false=>rfl
 | true =>
  rcases lt_conn (hp _ (mem i hi)) (hp _ (mem j hj)) (ok _ (mem i hi) _ (mem j hj)) with z | z | z
  ·rw [ZeK (hp _ (mem k hk)) (hp _ (mem i hi)) (hp _ (mem j hj)) (ok _ (mem k hk) _ (mem j hj)) q z] at h2;cases h2
  ·rw [z] at q;rw [q] at h2;cases h2
  ·rw [z] at h1;cases h1
open PySem PySem.W
theorem Zhv {α β:Type} (b:Bool) (f:α->β) (l:List α):katRev b (l.map f)=(katRev b l).map f:=by
 unfold PySem.W.katRev;split
 ·rw [YbX]
 ·rfl
theorem ZcB {α:Type} (l:List α) (d:α):(List.range l.length).map (fun i=>l.getD i d)=l:=by
 apply YbT
 ·simp
 ·intro i h1 h2;simp [h2]
noncomputable def srtI (b:Bool) (n:Nat) (ds:List PyData):List Nat:=if n < 2 then List.range n else katRev b ((SortA.runT (ltD (katRev b ds)) (kas_sort n)).toList.map fun i=>(katRev b (List.range n)).getD i 0)
theorem Zdg {α:Type} (b:Bool) (l:List α) (d:α) (i:Nat) (hi:i < l.length):(katRev b l).getD i d=l.getD ((katRev b (List.range l.length)).getD i 0) d:=by
 unfold PySem.W.katRev
 cases b with
 | false=>simp [hi]
 | true =>
  have h2:l.length - 1 - i < l.length:=by lia
  simp [hi,Ybt,h2]
theorem srt_eq (b:Bool) (us:List U) (ds:List PyData):srt b us ds=(srtI b us.length ds).map fun i=>us.getD i .non:=by
 unfold srt srtI
 by_cases h:us.length < 2
 ·rw [if_pos h,if_pos h];exact (ZcB us .non).symm
 ·rw [if_neg h,if_neg h,<- Zhv,YO]
  congr 1
  apply Yap
  intro i hi
  exact Zdg b us .non i ((Zec (by lia) _).2 i hi)
theorem ZjI (b:Bool) (n:Nat) {L:List Nat} (h:L.Perm (List.range n)):(katRev b (L.map fun i=>(katRev b (List.range n)).getD i 0)).Perm (List.range n):=by
 have e:((List.range n).map fun i=>(katRev b (List.range n)).getD i 0)=katRev b (List.range n):=by
  have:=ZcB (katRev b (List.range n)) 0
  rw [kat_len,Yab] at this
  exact this
 have p1:(L.map fun i=>(katRev b (List.range n)).getD i 0).Perm (katRev b (List.range n)):=by
  have:=h.map fun i=>(katRev b (List.range n)).getD i 0
  rw [e] at this;exact this
 have p2:∀ l:List Nat,(katRev b l).Perm l:=fun l=>by
  unfold PySem.W.katRev;split
  ·exact YaL l
  ·exact .refl _
 exact (p2 _).trans (p1.trans (p2 _))
theorem Zcp (b:Bool) (ds:List PyData) (hp:∀ d∈ds,ZI d=true) (ok:∀ d∈ds,∀ e∈ds,okLt d e=true):(srtI b ds.length ds).Perm (List.range ds.length):=by
 unfold srtI
 by_cases h:ds.length < 2
 ·rw [if_pos h]
 ·rw [if_neg h]
  have O:SortA.Ord (katRev b ds).length (ltD (katRev b ds)):=ordD (fun d hd=>hp d (ZaB hd)) fun d hd e he=>ok d (ZaB hd) e (ZaB he)
  rw [kat_len] at O
  exact ZjI b ds.length (SortA.sort_ok O (by lia)).1
theorem ltD_rev {ds:List PyData} {i j:Nat} (hi:i < ds.length) (hj:j < ds.length) (b:Bool):ltD (katRev b ds) i j=ltD ds ((katRev b (List.range ds.length)).getD i 0) ((katRev b (List.range ds.length)).getD j 0):=by
 unfold ltD
 rw [Zdg b ds .none i hi,Zdg b ds .none j hj]
theorem ZcX (b:Bool) (ds:List PyData) (hp:∀ d∈ds,ZI d=true) (ok:∀ d∈ds,∀ e∈ds,okLt d e=true):(srtI b ds.length ds).Pairwise fun i j=>if b=true then ltD ds i j=false else ltD ds j i=false:=by
 unfold srtI
 by_cases h:ds.length < 2
 ·rw [if_pos h]
  have:ds.length=0\/ds.length=1:=by lia
  rcases this with e | e <;> rw [e]
  ·exact List.Pairwise.nil
  ·exact List.pairwise_singleton _ _
 ·rw [if_neg h]
  have O:SortA.Ord (katRev b ds).length (ltD (katRev b ds)):=ordD (fun d hd=>hp d (ZaB hd)) fun d hd e he=>ok d (ZaB hd) e (ZaB he)
  rw [kat_len] at O
  obtain ⟨pm,up⟩:=SortA.sort_ok O (by lia:1<=ds.length)
  generalize SortA.runT (ltD (katRev b ds)) (kas_sort ds.length)=p at pm up
  have hs:p.toList.length=ds.length:=by rw [Array.length_toList];exact pm.size
  have base:(p.toList.map fun i=>(katRev b (List.range ds.length)).getD i 0).Pairwise fun i j=>ltD ds j i=false:=by
   rw [YbM,List.pairwise_iff_getElem]
   intro i j hi hj hij
   have h1:=up i j hij (by rw [hs] at hj;exact hj)
   unfold SortA.Le at h1
   have gi:p.getD i 0=p.toList[i]:=by simp at hi;simp [Array.getD,hi]
   have gj:p.getD j 0=p.toList[j]:=by simp at hj;simp [Array.getD,hj]
   have bi:=pm.inb i (by rw [hs] at hi;exact hi)
   have bj:=pm.inb j (by rw [hs] at hj;exact hj)
   rw [ltD_rev bj bi b,gi,gj] at h1
   exact h1
  cases b with
  | false =>
   simp only [PySem.W.katRev,Yah,YaH] at base ⊢
   exact base
  | true =>
   simp only [PySem.W.katRev,if_true] at base ⊢
   rw [List.pairwise_reverse]
   exact base
theorem ZcZ {α:Type} (k:α->PyData):∀ {l1 l2:List α},(∀ x∈l1,ZI (k x)=true)->(∀ x∈l1,∀ y∈l1,okLt (k x) (k y)=true)->(∀ x∈l1,∀ y∈l1,k x=k y->x=y)->l1.Perm l2 ->
  l1.Pairwise (fun x y=>ltv (k x) (k y)=false)->l2.Pairwise (fun x y=>ltv (k x) (k y)=false)->l1=l2
 | [],l2,_,_,_,p,_,_=>by rw [List.nil_perm.mp p]
 | x::l1,[],_,_,_,p,_,_=>by have:=p.length_eq;simp at this
 | x :: l1, y::l2,hp,ok,inj,p,s1,s2=>by
  have hy:y∈x::l1:=p.mem_iff.mpr (.head _)
  have hx:x∈y::l2:=p.mem_iff.mp (.head _)
  have e : x=y:=by
   rcases Yt.mp hx with z | z
   ·exact z
   ·rcases Yt.mp hy with w | w
    ·exact w.symm
    ·have a1:=(Ybd.mp s1).1 y w
     have a2:=(Ybd.mp s2).1 x z
     rcases lt_conn (hp x (.head _)) (hp y hy) (ok x (.head _) y hy) with q | q | q
     ·rw [q] at a1;cases a1
     ·exact inj x (.head _) y hy q
     ·rw [q] at a2;cases a2
  subst e
  have p':l1.Perm l2:=(List.perm_cons x).mp p
  rw [ZcZ k (fun a ha=>hp a (.tail _ ha)) (fun a ha b hb=>ok a (.tail _ ha) b (.tail _ hb)) (fun a ha b hb=>inj a (.tail _ ha) b (.tail _ hb)) p' (Ybd.mp s1).2 (Ybd.mp s2).2]
noncomputable def srtK {α:Type} (k:α->PyData) (d:α) (b:Bool) (ws:List α):List α:=(srtI b ws.length (ws.map k)).map fun i=>ws.getD i d
theorem Zcl {α:Type} {k:α->PyData} {d:α} {ws:List α} (b:Bool) (hp:∀ x∈ws,ZI (k x)=true) (ok:∀ x∈ws,∀ y∈ws,okLt (k x) (k y)=true):(srtK k d b ws).Perm ws:=by
 unfold srtK
 have h:=Zcp b (ws.map k) (fun x hx=>by obtain ⟨w,hw,rfl⟩:=Yk.mp hx;exact hp w hw) (fun x hx y hy=>by
  obtain ⟨w,hw,rfl⟩:=Yk.mp hx
  obtain ⟨v,hv,rfl⟩:=Yk.mp hy
  exact ok w hw v hv)
 rw [Yb] at h
 have:=h.map fun i=>ws.getD i d
 rw [ZcB] at this
 exact this
theorem ZdT {α:Type} {k:α->PyData} {d:α} {ws:List α} (hp:∀ x∈ws,ZI (k x)=true) (ok:∀ x∈ws,∀ y∈ws,okLt (k x) (k y)=true):(srtK k d true ws).Pairwise fun x y=>ltv (k x) (k y)=false:=by
 unfold srtK
 have hp':∀ x∈ws.map k,ZI x=true:=fun x hx=>by obtain ⟨w,hw,rfl⟩:=Yk.mp hx;exact hp w hw
 have ok':∀ x∈ws.map k,∀ y∈ws.map k,okLt x y=true:=fun x hx y hy=>by
  obtain ⟨w,hw,rfl⟩:=Yk.mp hx
  obtain ⟨v,hv,rfl⟩:=Yk.mp hy
  exact ok w hw v hv
 have h:=ZcX true (ws.map k) hp' ok'
 have hm:=Zcp true (ws.map k) hp' ok'
 rw [Yb] at h hm
 rw [YbM]
 refine h.imp_of_mem fun {i j} hi hj q=>?_
 rw [if_pos rfl] at q
 have bi:i < ws.length:=Yad.mp (hm.mem_iff.mp hi)
 have bj:j < ws.length:=Yad.mp (hm.mem_iff.mp hj)
 unfold ltD at q
 rw [Yq,Yq,Yr,Yr,Ye bi,Ye bj] at q
 rw [Yq,Yq,Ye bi,Ye bj]
 exact q
theorem ZjO {α:Type} {k:α->PyData} {d:α} {ws vs:List α} (hp:∀ x∈ws,ZI (k x)=true) (ok:∀ x∈ws,∀ y∈ws,okLt (k x) (k y)=true) (inj:∀ x∈ws,∀ y∈ws,k x=k y->x=y) (p:ws.Perm vs):srtK k d true ws=srtK k d true vs:=by
 have hp2:∀ x∈vs,ZI (k x)=true:=fun x hx=>hp x (p.mem_iff.mpr hx)
 have ok2:∀ x∈vs,∀ y∈vs,okLt (k x) (k y)=true:=fun x hx y hy=>ok x (p.mem_iff.mpr hx) y (p.mem_iff.mpr hy)
 have q1:=Zcl (d:=d) true hp ok
 have q2:=Zcl (d:=d) true hp2 ok2
 refine ZcZ k (fun x hx=>hp x (q1.mem_iff.mp hx)) (fun x hx y hy=>ok x (q1.mem_iff.mp hx) y (q1.mem_iff.mp hy)) (fun x hx y hy=>inj x (q1.mem_iff.mp hx) y (q1.mem_iff.mp hy)) (q1.trans (p.trans q2.symm)) (ZdT hp ok) (ZdT hp2 ok2)
theorem Zh1 {α:Type} {k:α->PyData} {d:α} {ws:List α} (b:Bool) (f:α->U):(srt b (ws.map f) (ws.map k)).length=ws.length/\((∀ x∈ws,ZI (k x)=true)->(∀ x∈ws,∀ y∈ws,okLt (k x) (k y)=true)->srt b (ws.map f) (ws.map k)=(srtK k d b ws).map f):=by
 refine ⟨by rw [ZfT,Yb],fun hp ok=>?_⟩
 have hm:=Zcp b (ws.map k) (fun x hx=>by obtain ⟨w,hw,rfl⟩:=Yk.mp hx;exact hp w hw) (fun x hx y hy=>by
  obtain ⟨w,hw,rfl⟩:=Yk.mp hx
  obtain ⟨v,hv,rfl⟩:=Yk.mp hy
  exact ok w hw v hv)
 rw [Yb] at hm
 rw [srt_eq,Yb]
 unfold srtK
 rw [YO]
 apply Yap
 intro i hi
 have bi:i < ws.length:=Yad.mp (hm.mem_iff.mp hi)
 show (ws.map f).getD i .non=f (ws.getD i d)
 rw [Yq,Yq,Yr,Ye bi];rfl
theorem Zbq {lt:Nat->Nat->Bool}:∀ m,argBest lt m<=m
 | 0=>Yg _
 | m + 1=>by
  show (if lt (m + 1) (argBest lt m)=true then m + 1 else argBest lt m)<=m + 1
  have:=Zbq (lt:=lt) m
  split <;> lia
theorem Zea {n:Nat} {lt:Nat->Nat->Bool} (O:SortA.Ord n lt):∀ m,m < n->∀ j,j<=m->lt j (argBest lt m)=false
 | 0, h,j,hj=>by
  obtain rfl:j=0:=by lia
  show lt 0 0=false
  cases q:lt 0 0 with
  | false=>rfl
  | true=>have:=O.tot 0 0 h h q;rw [q] at this;cases this
 | m + 1, h,j,hj=>by
  have ih:=Zea O m (by lia)
  have hb:=Zbq (lt:=lt) m
  show lt j (if lt (m + 1) (argBest lt m)=true then m + 1 else argBest lt m)=false
  by_cases c:lt (m + 1) (argBest lt m)=true
  ·rw [if_pos c]
   by_cases e:j=m + 1
   ·subst e
    cases q:lt (m + 1) (m + 1) with
    | false=>rfl
    | true=>have:=O.tot _ _ h h q;rw [q] at this;cases this
   ·exact O.tr (m + 1) (argBest lt m) j h (by lia) (by lia) (O.tot _ _ h (by lia) c) (ih j (by lia))
  ·rw [if_neg c]
   by_cases e:j=m + 1
   ·subst e;simpa using c
   ·exact ih j (by lia)
theorem Zgy:∀ {xs ys:List PyData},(∀ x∈xs,∀ y∈ys,okLt x y=true)->Za1 xs ys=true
 | [],_,_=>by simp [Za1]
 | _::_,[],_=>by simp [Za1]
 | x :: xs,y::ys,h=>by
  simp only [Za1]
  split
  ·exact Zgy fun a ha b hb=>h a (.tail _ ha) b (.tail _ hb)
  ·exact h x (.head _) y (.head _)
theorem ZdW:∀ {xs:List PyData},(∀ x∈xs,ZI x=true)->Zam xs=true
 | [],_=>rfl
 | x::xs,h=>by simp only [Zam,Yc];exact ⟨h x (.head _),ZdW fun a ha=>h a (.tail _ ha)⟩
noncomputable def turnL {α:Type} (ps:List α) (i:Nat):List α:=ps.drop i++ps.take i
theorem Z6 {α:Type} (ps:List α) (i:Nat):(turnL ps i).length=ps.length:=by unfold turnL;simp;lia
theorem ZN {α:Type} (ps:List α) (i:Nat):(turnL ps i).Perm ps:=by
 unfold turnL
 have h:=Yas i ps
 exact List.perm_append_comm.trans (by rw [h])
theorem Zby {α:Type} (ps:List α) {r i:Nat} (hr:r < ps.length) (hi:i < ps.length):(turnL ps r)[i]? = ps[(r + i) % ps.length]?:=by
 unfold turnL
 by_cases h:r + i < ps.length
 ·rw [Yar (by rw [YR];lia),List.getElem?_drop,YaN h]
 ·rw [Yae (by rw [YR];lia),YR,YbO (by lia)]
  have e:(r + i) % ps.length=r + i - ps.length:=by rw [Nat.mod_eq_sub_mod (by lia),YaN (by lia)]
  rw [e];congr 1;lia
theorem ZaY {α:Type} (ps:List α) {r i:Nat} (hr:r < ps.length) (hi:i < ps.length):turnL (turnL ps r) i=turnL ps ((r + i) % ps.length):=by
 have h0:0 < ps.length:=by lia
 have hm:(r + i) % ps.length < ps.length:=Ybg _ h0
 apply YbL
 intro j
 by_cases hj:j < ps.length
 ·rw [Zby _ (by rw [Z6];exact hi) (by rw [Z6];exact hj),Z6,Zby _ hr (Ybg _ h0),Zby _ hm hj]
  congr 1
  rw [Nat.add_mod_mod,Nat.mod_add_mod,Nat.add_assoc]
 ·rw [YT (by rw [Z6,Z6];lia),YT (by rw [Z6];lia)]
section
variable {α:Type} (k:α->PyData)
noncomputable def kdL (ps:List α):PyData:=.list (ps.map k)
noncomputable def bestT (ps:List α):Nat:=argBest (fun i j=>ltv (kdL k (turnL ps i)) (kdL k (turnL ps j))) (ps.length - 1)
noncomputable def Za5 (ps:List α):List α:=turnL ps (bestT k ps)
variable {k}
theorem ZeE {ps:List α} (hp:∀ x∈ps,ZI (k x)=true) (ok:∀ x∈ps,∀ y∈ps,okLt (k x) (k y)=true):SortA.Ord ps.length (fun i j=>ltv (kdL k (turnL ps i)) (kdL k (turnL ps j))) /\
  (∀ i,ZI (kdL k (turnL ps i))=true)/\∀ i j,okLt (kdL k (turnL ps i)) (kdL k (turnL ps j))=true:=by
 have pl:∀ i,ZI (kdL k (turnL ps i))=true:=fun i=>by
  unfold kdL;simp only [ZI]
  exact ZdW fun x hx=>by obtain ⟨w,hw,rfl⟩:=Yk.mp hx;exact hp w ((ZN ps i).mem_iff.mp hw)
 have okk:∀ i j,okLt (kdL k (turnL ps i)) (kdL k (turnL ps j))=true:=fun i j=>by
  unfold kdL;simp only [okLt]
  exact Zgy fun x hx y hy=>by
   obtain ⟨w,hw,rfl⟩:=Yk.mp hx
   obtain ⟨v,hv,rfl⟩:=Yk.mp hy
   exact ok w ((ZN ps i).mem_iff.mp hw) v ((ZN ps j).mem_iff.mp hv)
 refine ⟨⟨fun i j hi hj h=>lt_asymm (pl i) (pl j) h,fun i j m hi hj hm h1 h2=>?_⟩,pl,okk⟩
 cases q:ltv (kdL k (turnL ps m)) (kdL k (turnL ps i)) with
 | false=>rfl
 | true =>
  rcases lt_conn (pl i) (pl j) (okk i j) with z | z | z
  ·rw [ZeK (pl m) (pl i) (pl j) (okk m j) q z] at h2;cases h2
  ·rw [z] at q;rw [q] at h2;cases h2
  ·rw [z] at h1;cases h1
theorem map_inj {ps qs:List α} (inj:∀ x∈ps,∀ y∈qs,k x=k y->x=y):ps.map k=qs.map k->ps=qs:=by
 induction ps generalizing qs with
 | nil=>intro h;cases qs with
  | nil=>rfl
  | cons _ _=>simp at h
 | cons x ps ih =>
  intro h
  cases qs with
  | nil=>simp at h
  | cons y qs =>
   simp only [Yu,Y1] at h
   rw [inj x (.head _) y (.head _) h.1,ih (fun a ha b hb=>inj a (.tail _ ha) b (.tail _ hb)) h.2]
theorem ZfO {ps:List α} (hp:∀ x∈ps,ZI (k x)=true) (ok:∀ x∈ps,∀ y∈ps,okLt (k x) (k y)=true) (inj:∀ x∈ps,∀ y∈ps,k x=k y->x=y) {r:Nat} (hr:r < ps.length):Za5 k (turnL ps r)=Za5 k ps:=by
 have m:∀ i x,x∈turnL ps i ↔ x∈ps:=fun i x=>(ZN ps i).mem_iff
 have hp2:∀ x∈turnL ps r,ZI (k x)=true:=fun x hx=>hp x ((ZN ps r).mem_iff.mp hx)
 have ok2:∀ x∈turnL ps r,∀ y∈turnL ps r,okLt (k x) (k y)=true:=fun x hx y hy=>ok x ((ZN ps r).mem_iff.mp hx) y ((ZN ps r).mem_iff.mp hy)
 obtain ⟨O1,pl,okk⟩:=ZeE hp ok
 obtain ⟨O2,_,_⟩:=ZeE hp2 ok2
 have b1:=Zbq (lt:=fun i j=>ltv (kdL k (turnL ps i)) (kdL k (turnL ps j))) (ps.length - 1)
 have b2:=Zbq (lt:=fun i j=>ltv (kdL k (turnL (turnL ps r) i)) (kdL k (turnL (turnL ps r) j))) ((turnL ps r).length - 1)
 have m1:=Zea O1 (ps.length - 1) (by lia)
 have m2:=Zea O2 ((turnL ps r).length - 1) (by rw [Z6];lia)
 have c1:bestT k ps<=ps.length - 1:=b1
 have c2:bestT k (turnL ps r)<=ps.length - 1:=by
  have q:bestT k (turnL ps r)<=(turnL ps r).length - 1:=b2
  have q2:=Z6 ps r
  lia
 have e2:Za5 k (turnL ps r)=turnL ps ((r + bestT k (turnL ps r)) % ps.length):=ZaY ps hr (by lia)
 have h0:0 < ps.length:=by lia
 have hmod:(r + bestT k (turnL ps r)) % ps.length < ps.length:=Ybg _ h0
 have n1:ltv (kdL k (Za5 k (turnL ps r))) (kdL k (Za5 k ps))=false:=by
  rw [e2];exact m1 _ (by lia)
 have n2:ltv (kdL k (Za5 k ps)) (kdL k (Za5 k (turnL ps r)))=false:=by
  have hj:∃ j,j < ps.length/\(r + j) % ps.length=bestT k ps:=by
   by_cases c:r<=bestT k ps
   ·exact ⟨bestT k ps - r,by lia,by rw [show r + (bestT k ps - r)=bestT k ps by lia,YaN (by lia)]⟩
   ·exact ⟨bestT k ps + ps.length - r,by lia,by rw [show r + (bestT k ps + ps.length - r)=bestT k ps + ps.length by lia,Nat.add_mod_right,YaN (by lia)]⟩
  obtain ⟨j,hj1,hj2⟩:=hj
  have:=m2 j (by rw [Z6];lia)
  have e3:turnL (turnL ps r) j=Za5 k ps:=by rw [ZaY ps hr hj1,hj2];rfl
  have this:ltv (kdL k (turnL (turnL ps r) j)) (kdL k (turnL (turnL ps r) (bestT k (turnL ps r))))=false:=this
  rw [e3] at this
  exact this
 rcases lt_conn (pl ((r + bestT k (turnL ps r)) % ps.length)) (pl (bestT k ps)) (okk _ _) with z | z | z
 ·rw [e2] at n1;rw [show kdL k (Za5 k ps)=kdL k (turnL ps (bestT k ps)) from rfl,z] at n1;cases n1
 ·rw [e2]
  unfold kdL at z
  refine map_inj (k:=k) (fun x hx y hy=>inj x ((m _ _).mp hx) y ((m _ _).mp hy)) ?_
  exact PyData.list.inj z
 ·rw [e2] at n2;rw [show kdL k (Za5 k ps)=kdL k (turnL ps (bestT k ps)) from rfl,z] at n2;cases n2
end
mutual
theorem Wr.plainK:∀ w:Wr,ZI w.keyD=true
 | .nothing=>by simp [Wr.keyD,ZI,Zam]
 | .bead c=>by simp [Wr.keyD,ZI,Zam]
 | .side b f=>by simp [Wr.keyD,ZI,Zam,f.plainK]
 | .pair f g=>by simp [Wr.keyD,ZI,Zam,f.plainK,g.plainK]
 | .many k ps=>by simp [Wr.keyD,ZI,Zam,ZjS ps]
theorem ZjS:∀ ws:List Wr,Zam (ZaP ws)=true
 | []=>rfl
 | w::ws=>by simp [ZaP,Zam,w.plainK,ZjS ws]
end
theorem Zap (a b a' b':Int) (xs ys:List PyData) (h:a=a'->b=b'->Za1 xs ys=true):okLt (.tuple (.int a::.int b::xs)) (.tuple (.int a'::.int b'::ys))=true:=by
 simp only [okLt,Za1,PyData.eqv]
 by_cases e1:a=a'
 ·by_cases e2:b=b'
  ·simp [e1,e2,h e1 e2]
  ·simp [e1,e2]
 ·simp [e1]
theorem Zbk (b:Bool) (f:Wr):(Wr.side b f).kidx=2\/(Wr.side b f).kidx=3:=by cases b <;> simp [Wr.kidx]
theorem ZaN (k:Nat) (ps:List Wr):5<=(Wr.many k ps).kidx:=by
 match k with
 | 0=>exact Yg 5
 | 1=>exact (by decide:5<=6)
 | 2=>exact (by decide:5<=7)
 | _ + 3=>exact (by decide:5<=8)
mutual
theorem Wr.okK:∀ w v:Wr,okLt w.keyD v.keyD=true
 | .nothing,v=>by
  obtain ⟨r,e⟩:∃ r,v.keyD=.tuple (.int v.size::.int v.kidx::r):=by cases v <;> exact ⟨_,rfl⟩
  rw [e];exact Zap _ _ _ _ _ _ fun _ _=>by simp [Za1]
 | .bead c,v=>by
  cases v with
  | bead d=>exact Zap _ _ _ _ _ _ fun _ _=>by simp [Za1,okLt]
  | nothing=>exact Zap _ _ _ _ _ _ fun _ h=>by simp at h
  | side b f=>exact Zap _ _ _ _ _ _ fun _ h=>by have:=Zbk b f;lia
  | pair f g=>exact Zap _ _ _ _ _ _ fun _ h=>by simp at h
  | many k ps=>exact Zap _ _ _ _ _ _ fun _ h=>by have:=ZaN k ps;lia
 | .side b f,v=>by
  have hs:=Zbk b f
  cases v with
  | bead d=>exact Zap _ _ _ _ _ _ fun _ h=>by lia
  | nothing=>exact Zap _ _ _ _ _ _ fun _ h=>by lia
  | side b' f'=>exact Zap _ _ _ _ _ _ fun _ _=>by simp [Za1,f.okK f']
  | pair f' g=>exact Zap _ _ _ _ _ _ fun _ h=>by lia
  | many k ps=>exact Zap _ _ _ _ _ _ fun _ h=>by have:=ZaN k ps;lia
 | .pair f g,v=>by
  cases v with
  | bead d=>exact Zap _ _ _ _ _ _ fun _ h=>by simp at h
  | nothing=>exact Zap _ _ _ _ _ _ fun _ h=>by simp at h
  | side b' f'=>exact Zap _ _ _ _ _ _ fun _ h=>by have:=Zbk b' f';lia
  | pair f' g'=>exact Zap _ _ _ _ _ _ fun _ _=>by simp [Za1,f.okK f',g.okK g']
  | many k ps=>exact Zap _ _ _ _ _ _ fun _ h=>by have:=ZaN k ps;lia
 | .many k ps,v=>by
  have hs:=ZaN k ps
  cases v with
  | bead d=>exact Zap _ _ _ _ _ _ fun _ h=>by lia
  | nothing=>exact Zap _ _ _ _ _ _ fun _ h=>by lia
  | side b' f'=>exact Zap _ _ _ _ _ _ fun _ h=>by have:=Zbk b' f';lia
  | pair f' g'=>exact Zap _ _ _ _ _ _ fun _ h=>by lia
  | many k' ps'=>exact Zap _ _ _ _ _ _ fun _ _=>okKL ps ps'
theorem okKL:∀ ws vs:List Wr,Za1 (ZaP ws) (ZaP vs)=true
 | [],_=>by simp [ZaP,Za1]
 | _::_,[]=>by simp [ZaP,Za1]
 | w :: ws,v::vs=>by
  simp only [ZaP,Za1]
  split
  ·exact okKL ws vs
  ·exact w.okK v
end
mutual
noncomputable def Wr.nrm:Wr->Bool
 | .nothing=>true
 | .bead _=>true
 | .side _ f=>f.nrm
 | .pair f g=>f.nrm && g.nrm
 | .many k ps=>decide (k<=3) && nrmL ps
noncomputable def nrmL:List Wr->Bool
 | []=>true
 | w::ws=>w.nrm && nrmL ws
end
theorem Zd0 {ws:List Wr}:nrmL ws=true ↔ ∀ w∈ws,w.nrm=true:=by
 induction ws with
 | nil=>simp [nrmL]
 | cons w ws ih=>simp [nrmL,ih]
theorem ZgD {k k':Nat} {ps ps':List Wr} (h:k<=3) (h':k'<=3) (e:(Wr.many k ps).kidx=(Wr.many k' ps').kidx):k=k':=by
 have a:k=0\/k=1\/k=2\/k=3:=by lia
 have b:k'=0\/k'=1\/k'=2\/k'=3:=by lia
 rcases a with rfl | rfl | rfl | rfl <;> rcases b with rfl | rfl | rfl | rfl <;> first | rfl | (simp [Wr.kidx] at e)
mutual
theorem Wr.key_inj:∀ w v:Wr,w.nrm=true->v.nrm=true->w.keyD=v.keyD->w=v
 | .nothing,v,_,_,e=>by
  cases v with
  | nothing=>rfl
  | bead d=>simp [Wr.keyD] at e
  | side b f=>simp [Wr.keyD] at e
  | pair f g=>simp [Wr.keyD] at e
  | many k ps=>simp [Wr.keyD] at e;have:=ZaN k ps;lia
 | .bead c,v,_,_,e=>by
  cases v with
  | nothing=>simp [Wr.keyD] at e
  | bead d=>simp [Wr.keyD] at e;rw [e]
  | side b f=>simp [Wr.keyD] at e;have:=Zbk b f;lia
  | pair f g=>simp [Wr.keyD] at e
  | many k ps=>simp [Wr.keyD] at e;have:=ZaN k ps;lia
 | .side b f,v,hw,hv,e=>by
  have hs:=Zbk b f
  cases v with
  | nothing=>simp [Wr.keyD] at e
  | bead d=>simp [Wr.keyD] at e;lia
  | side b' f' =>
   simp only [Wr.keyD,YaU,Y1,YbW,Ycn] at e
   simp only [Wr.nrm] at hw hv
   rw [f.key_inj f' hw hv e.2.2]
   have:b=b':=by cases b <;> cases b' <;> first | rfl | (simp [Wr.kidx] at e)
   rw [this]
  | pair f' g=>simp [Wr.keyD] at e
  | many k ps=>simp [Wr.keyD] at e;have:=ZaN k ps;lia
 | .pair f g,v,hw,hv,e=>by
  cases v with
  | nothing=>simp [Wr.keyD] at e
  | bead d=>simp [Wr.keyD] at e
  | side b' f'=>simp [Wr.keyD] at e
  | pair f' g' =>
   simp only [Wr.keyD,YaU,Y1,Ycn] at e
   simp only [Wr.nrm,Yc] at hw hv
   rw [f.key_inj f' hw.1 hv.1 e.2.2.1,g.key_inj g' hw.2 hv.2 e.2.2.2]
  | many k ps=>simp [Wr.keyD] at e;have:=ZaN k ps;lia
 | .many k ps,v,hw,hv,e=>by
  have hs:=ZaN k ps
  cases v with
  | nothing=>simp [Wr.keyD] at e;lia
  | bead d=>simp [Wr.keyD] at e;lia
  | side b' f'=>simp [Wr.keyD] at e;have:=Zbk b' f';lia
  | pair f' g'=>simp [Wr.keyD] at e;lia
  | many k' ps' =>
   simp only [Wr.keyD,YaU,Y1,YbW] at e
   simp only [Wr.nrm,Yc,YC] at hw hv
   have e1:(Wr.many k ps).kidx=(Wr.many k' ps').kidx:=by have:=e.2.1;lia
   rw [ZgD hw.1 hv.1 e1,ZgV ps ps' hw.2 hv.2 e.2.2]
theorem ZgV:∀ ws vs:List Wr,nrmL ws=true->nrmL vs=true->ZaP ws=ZaP vs->ws=vs
 | [],[],_,_,_=>rfl
 | [],_::_,_,_,e=>by simp [ZaP] at e
 | _::_,[],_,_,e=>by simp [ZaP] at e
 | w :: ws,v::vs,h1,h2,e=>by
  simp only [ZaP,Y1] at e
  simp only [nrmL,Yc] at h1 h2
  rw [w.key_inj v h1.1 h2.1 e.1,ZgV ws vs h1.2 h2.2 e.2]
end
noncomputable def arr (k:Nat) (ps:List Wr):List Wr:=if k=1\/k=2 then srtK Wr.keyD .nothing true ps else if k=0 then ps else Za5 Wr.keyD ps
mutual
noncomputable def Wr.pl:Wr->Wr
 | .nothing=>.nothing
 | .bead c=>.bead c
 | .side b f=>.side b f.pl
 | .pair f g=>.pair f.pl g.pl
 | .many k ps=>.many k (arr k (plnL ps))
noncomputable def plnL:List Wr->List Wr
 | []=>[]
 | w::ws=>w.pl::plnL ws
end
theorem ZM:∀ ws:List Wr,plnL ws=ws.map Wr.pl
 | []=>rfl
 | w::ws=>by rw [plnL,Yu,ZM ws]
theorem Zas (k:Nat) (ps:List Wr):(arr k ps).Perm ps:=by
 unfold arr
 split
 ·exact Zcl true (fun x _=>x.plainK) fun x _ y _=>x.okK y
 ·split
  ·exact .refl _
  ·exact ZN _ _
noncomputable def Alk (k:Nat) (ps qs:List Wr):Prop:=if k=1\/k=2 then ps.Perm qs else if k=0 then ps=qs else ps=qs\/∃ r,r < ps.length/\qs=turnL ps r
theorem Zdp {k:Nat} {ps qs:List Wr} (h:nrmL ps=true) (a:Alk k ps qs):arr k qs=arr k ps:=by
 have hm:=Zd0.mp h
 have inj:∀ x∈ps,∀ y∈ps,Wr.keyD x=Wr.keyD y->x=y:=fun x hx y hy e=>x.key_inj y (hm x hx) (hm y hy) e
 unfold Alk at a
 unfold arr
 by_cases c:k=1\/k=2
 ·rw [if_pos c] at a
  rw [if_pos c,if_pos c]
  exact (ZjO (fun x _=>x.plainK) (fun x _ y _=>x.okK y) inj a).symm
 ·rw [if_neg c] at a
  rw [if_neg c,if_neg c]
  by_cases c0:k=0
  ·rw [if_pos c0] at a
   rw [if_pos c0,if_pos c0,a]
  ·rw [if_neg c0] at a
   rw [if_neg c0,if_neg c0]
   rcases a with a | ⟨r,hr,a⟩
   ·rw [a]
   ·rw [a];exact ZfO (fun x _=>x.plainK) (fun x _ y _=>x.okK y) inj hr
theorem Zbj {ps qs:List Wr} (p:ps.Perm qs) (h:nrmL ps=true):nrmL qs=true:=Zd0.mpr fun w hw=>Zd0.mp h w (p.mem_iff.mpr hw)
mutual
theorem Wr.pl_nrm:∀ w:Wr,w.nrm=true->w.pl.nrm=true
 | .nothing,_=>rfl
 | .bead _,_=>rfl
 | .side _ f,h=>by simp only [Wr.nrm] at h;simp only [Wr.pl,Wr.nrm];exact f.pl_nrm h
 | .pair f g,h=>by simp only [Wr.nrm,Yc] at h;simp only [Wr.pl,Wr.nrm,Yc];exact ⟨f.pl_nrm h.1,g.pl_nrm h.2⟩
 | .many k ps,h=>by
  simp only [Wr.nrm,Yc] at h
  simp only [Wr.pl,Wr.nrm,Yc]
  exact ⟨h.1,Zbj (Zas k _).symm (Zcg ps h.2)⟩
theorem Zcg:∀ ws:List Wr,nrmL ws=true->nrmL (plnL ws)=true
 | [],_=>rfl
 | w::ws,h=>by simp only [nrmL,Yc] at h;simp only [plnL,nrmL,Yc];exact ⟨w.pl_nrm h.1,Zcg ws h.2⟩
end
theorem Zhq {ps qs:List Wr} (p:ps.Perm qs):sizeL ps=sizeL qs:=by
 induction p with
 | nil=>rfl
 | cons x _ ih=>simp only [sizeL,ih]
 | swap x y l=>simp only [sizeL];lia
 | trans _ _ i1 i2=>rw [i1,i2]
theorem okL_perm {ps qs:List Wr} (p:ps.Perm qs):okL ps=okL qs:=by
 induction p with
 | nil=>rfl
 | cons x _ ih=>simp only [okL,ih]
 | swap x y l=>simp only [okL];cases x.ok <;> cases y.ok <;> rfl
 | trans _ _ i1 i2=>rw [i1,i2]
theorem ZdR {ps qs:List Wr} (p:ps.Perm qs):Zp ps=Zp qs:=by
 induction p with
 | nil=>rfl
 | cons x _ ih=>simp only [Zp,ih]
 | swap x y l=>simp only [Zp];lia
 | trans _ _ i1 i2=>rw [i1,i2]
theorem Zcn {ps qs:List Wr} (p:ps.Perm qs):depL ps=depL qs:=by
 induction p with
 | nil=>rfl
 | cons x _ ih=>simp only [depL,ih]
 | swap x y l=>simp only [depL];exact Nat.max_left_comm _ _ _
 | trans _ _ i1 i2=>rw [i1,i2]
mutual
theorem Wr.pl_ok:∀ w:Wr,w.pl.ok=w.ok
 | .nothing=>rfl
 | .bead _=>rfl
 | .side _ f=>by simp only [Wr.pl,Wr.ok,f.pl_ok]
 | .pair f g=>by simp only [Wr.pl,Wr.ok,f.pl_ok,g.pl_ok]
 | .many k ps=>by simp only [Wr.pl,Wr.ok];rw [okL_perm (Zas k _),Zem ps]
theorem Zem:∀ ws:List Wr,okL (plnL ws)=okL ws
 | []=>rfl
 | w::ws=>by simp only [plnL,okL,w.pl_ok,Zem ws]
end
mutual
theorem Wr.pl_tups:∀ w:Wr,w.pl.tups=w.tups
 | .nothing=>rfl
 | .bead _=>rfl
 | .side _ f=>by simp only [Wr.pl,Wr.tups,f.pl_tups]
 | .pair f g=>by simp only [Wr.pl,Wr.tups,f.pl_tups,g.pl_tups]
 | .many k ps=>by simp only [Wr.pl,Wr.tups];rw [ZdR (Zas k _),Zck ps]
theorem Zck:∀ ws:List Wr,Zp (plnL ws)=Zp ws
 | []=>rfl
 | w::ws=>by simp only [plnL,Zp,w.pl_tups,Zck ws]
end
mutual
theorem Wr.pl_dep:∀ w:Wr,w.pl.dep=w.dep
 | .nothing=>rfl
 | .bead _=>rfl
 | .side _ f=>by simp only [Wr.pl,Wr.dep,f.pl_dep]
 | .pair f g=>by simp only [Wr.pl,Wr.dep,f.pl_dep,g.pl_dep]
 | .many k ps=>by simp only [Wr.pl,Wr.dep];rw [Zcn (Zas k _),ZbU ps]
theorem ZbU:∀ ws:List Wr,depL (plnL ws)=depL ws
 | []=>rfl
 | w::ws=>by simp only [plnL,depL,w.pl_dep,ZbU ws]
end
theorem Wr.pl_few {w:Wr} (h:w.few):w.pl.few/\w.pl.name=w.name/\w.pl.parts=w.parts.map Wr.pl:=by
 cases w with
 | nothing=>exact ⟨h,rfl,rfl⟩
 | bead c=>exact absurd rfl (h.1 c)
 | side b f=>exact ⟨⟨(fun c z=>nomatch z),(fun k ps z=>nomatch z)⟩,rfl,rfl⟩
 | pair f g=>exact ⟨⟨(fun c z=>nomatch z),(fun k ps z=>nomatch z)⟩,rfl,rfl⟩
 | many k ps=>exact absurd rfl (h.2 k ps)
mutual
noncomputable def U.dat:U->PyData
 | .int i=>.int i
 | .str x=>.str x
 | .bl b=>.bool b
 | .tup us=>.tuple (datL us)
 | _=>.none
noncomputable def datL:List U->List PyData
 | []=>[]
 | u::us=>u.dat::datL us
end
mutual
theorem Wr.dat_key:∀ w:Wr,w.keyU.dat=w.keyD
 | .nothing=>by simp [Wr.keyU,Wr.keyD,U.dat,datL]
 | .bead c=>by simp [Wr.keyU,Wr.keyD,U.dat,datL]
 | .side b f=>by simp [Wr.keyU,Wr.keyD,U.dat,datL,f.dat_key]
 | .pair f g=>by simp [Wr.keyU,Wr.keyD,U.dat,datL,f.dat_key,g.dat_key]
 | .many k ps=>by simp [Wr.keyU,Wr.keyD,U.dat,datL,Zgo ps]
theorem Zgo:∀ ws:List Wr,datL (ZdD ws)=ZaP ws
 | []=>by simp [ZdD,ZaP,datL]
 | w::ws=>by simp [ZdD,ZaP,datL,w.dat_key,Zgo ws]
end
noncomputable def U.snd:U->U
 | .tup [_,b]=>b
 | _=>.non
open PySem PySem.Spec PyProof.Rows
section
variable {K:YFr}
noncomputable def mPop0:U->List U->AHp->AVK->Prop:=fun u us A Q=>match u,us with
 | .ref a,[.int i]=>i=0/\∃ y xs,A a=some (.lst (y::xs))/\Q y (updA A a (.lst xs))
 | _,_=>False
theorem ZgG:AbMt K rPopAt mPop0:=fun x u xs us A H Q' Q r rs g h k=>by
 unfold mPop0 at h
 split at h
 ·cases r
  obtain ⟨v,rfl,rv⟩:=rs.inv1
  cases rv
  obtain ⟨rfl,y,zs,e,h⟩:=h
  obtain ⟨vs,h1,r1⟩:=g.list e
  cases r1 with
  | cons r2 r3 =>
   rename_i v2 vs2
   refine ⟨_,_,0,0,v2,rfl,rfl,h1,by decide,by decide,?_,rfl,k _ _ _ _ (Kp.lst h1) (g.setL h1 r3) (r2.same (Kp.lst h1)) h⟩
   unfold seqIndex?
   simp
 ·exact h.elim
theorem q_pop0 {p:Addr} {A:AHp} {Q:AVK}:(mPop0 (.ref p) [.int 0] A Q)=(∃ y xs,A p=some (.lst (y::xs))/\Q y (updA A p (.lst xs))):=propext ⟨fun h=>h.2,fun h=>⟨rfl,h⟩⟩
end
section
variable {prog:Program} {w:World} {A:Around} {E:Value->Shared->Prop} {s:Shared}
theorem Zhk {I l S:Addr} {items:Array Value} {c:Nat} {R:Result->Shared->Prop} (hh:A.handled=none) (hne:l≠I) (hSI:S≠I) (hSl:S≠l) (st:s.heap.IsRevIter I l ((items.size:Int) - 1)) (hl:s.heap.IsList l items) (hn:items.size<=sizeLine)
  (hS:s.heap.get? S=some { cls:=.type "list",data:=.seq #[] c })
  (hR:∀ s' c',Moved [S,I] (fun a b=>b=a) s s'->s'.heap.get? S=some { cls:=.type "list",dict:=none,data:=.seq items.reverse c',slots:=#[] }->R (.ok (.ret .none)) s') :
  wpAny (model prog w) A.in1 (Builtin.List.listExtendWith (.ref S) (.ref I) .none)
   (fun fin s'=>match fin with | .done f=>R (.ok f) s' | .again c'=>c'.quiet=true/\codeAny (model prog w) A c' R s') (fun e s'=>R (.error e) s') s:=by
 have W:=(Walks.listRev (prog:=prog) (w:=w) (A:=A.in1) hh I l hne items).toS
 have nf:S ∉ [I,l]:=fun z=>by
  simp only [Yt,Y4,YaI] at z
  exact z.elim hSI hSl
 have st0:(0<=items.size/\s.heap.IsRevIter I l ((items.size:Int) - 1 - ((0:Nat):Int))/\s.heap.IsList l items):=⟨YX _,by rw [show ((0:Nat):Int)=0 from rfl,Int.sub_zero];exact st,hl⟩
 have apart:Builtin.List.listSameRef (.ref S) (.ref I)=false:=by simp [Builtin.List.listSameRef,hSI]
 have ty:s.TypeIs (.ref I) "list_reverseiterator":=st.typeIs
 unfold Builtin.List.listExtendWith
 refine Yd (Ybb ty ?_)
 rw [if_neg (by rw [apart];decide)]
 refine Yd (W.self 0 _ _ _ st0 (Yd (YU ?_)))
 unfold Builtin.List.listLengthHint
 refine Yd (Yb6 ty Ziv ?_)
 refine (show wpAny _ A.in1 (specialOf (Value.ref I) (Str.ofString "__length_hint__") >>= _) _ _ _ from Yd (Yb6 ty hint_rev ?_))
 generalize hid:("list_reverseiterator.__length_hint__":String)=id0
 (fail_if_success (clear hid id0));wp_delta
 rw [show splitId id0=some ("list_reverseiterator","__length_hint__") from by subst hid;decide +kernel]
 subst hid
 refine Yd (wpAny_isInstance (b:=true) ty (by rw [isSubtype_type];kernel_rfl) (Yl ?_))
 rw [if_neg (by decide)]
 refine Yl ⟨YaP F.plain_extend_loop _,codeAny_extend_loopS W hn _ nf _ items.size 0 _ _ _ rfl (YX _) st0 hS (ItemsOf.nil _) fun s' acc c' mv here got=>?_⟩
 have e:=Zh3 got
 have e2:acc=items.reverse:=by apply YaC.mp;rw [e,Array.toList_reverse]
 subst e2
 exact hR s' c' mv here
theorem Zeg {I l:Addr} {items:Array Value} {Q:Value->Shared->Prop} (hh:A.handled=none) (hne:l≠I) (st:s.heap.IsRevIter I l ((items.size:Int) - 1)) (hl:s.heap.IsList l items) (hn:items.size<=sizeLine)
  (hQ:∀ s' c',Moved [s.heap.objs.size,I] (fun a b=>b=a) { s with heap:=s.heap.push { cls:=.type "list",data:=.seq #[] } } s'->s'.heap.get? s.heap.objs.size=some { cls:=.type "list",dict:=none,data:=.seq items.reverse c',slots:=#[] }->Q (.ref s.heap.objs.size) s') :
  wpAny (model prog w) A (call (.type "list") [.ref I]) Q E s:=by
 have lI:I < s.heap.objs.size:=by obtain ⟨o,e,_⟩:=st;exact Yo e
 have ll:l < s.heap.objs.size:=by obtain ⟨o,e,_⟩:=hl;exact Yo e
 refine callType_codes (Q₁:=fun obj s₁=>obj=.ref s.heap.objs.size/\s₁={ s with heap:=s.heap.push { cls:=.type "list",data:=.seq #[] } }) F.called_list (F.typeCall_list_1 _) F.entry_list_init
  (code_list_new _ ⟨rfl,rfl⟩) fun obj s₁ h₁=>?_
 obtain ⟨rfl,rfl⟩:=h₁
 have hS:(s.heap.push { cls:=.type "list",data:=.seq #[] }).get? s.heap.objs.size=some { cls:=.type "list",data:=.seq #[] }:=YI _ rfl
 refine ⟨⟨_,hS,rfl⟩,F.args_list_init_2 _ _,?_⟩
 show wpAny _ A.in1.in1 (do let old <- Builtin.List.listItems (.ref s.heap.objs.size);Builtin.List.listUpdate (.ref s.heap.objs.size) (fun _=>#[]);letGo old.toList.reverse;Builtin.List.listExtendWith (.ref s.heap.objs.size) (.ref I) .none) _ _ _
 refine Yd ?_
 unfold Builtin.List.listItems
 refine Yd (Ybe hS rfl (Yl ?_))
 show wpAny _ A.in1.in1 (updateSeq s.heap.objs.size (fun _=>#[]) >>= fun _=>letGo (#[]:Array Value).toList.reverse >>= fun _=>Builtin.List.listExtendWith (.ref s.heap.objs.size) (.ref I) .none) _ _ _
 refine Yd (YaS hS rfl ?_)
 have hS₂:=Yce (Obj.mapSeq (fun _=>(#[]:Array Value))) hS rfl
 have oth:∀ b o,b≠s.heap.objs.size->(s.heap.push { cls:=.type "list",data:=.seq #[] }).get? b=some o->((s.heap.push { cls:=.type "list",data:=.seq #[] }).update s.heap.objs.size (Obj.mapSeq (fun _=>(#[]:Array Value)))).get? b=some o :=
  fun b o hb e=>(Ybo _ _ (Ne.symm hb)).trans e
 refine Yd (Ya4 ?_)
 refine Zhk (A:=A.in1) (c:=_) (items:=items) hh hne (Ybz lI) (Ybz ll) (st.at fun o e=>oth _ _ (YD lI) (Yi _ e)) (hl.at fun o e=>oth _ _ (YD ll) (Yi _ e)) hn hS₂ fun s' c' mv here=>?_
 have m0:Moved [s.heap.objs.size,I] (fun a b:Array GenState=>b=a) { s with heap:=s.heap.push { cls:=.type "list",data:=.seq #[] } } { s with heap:=(s.heap.push { cls:=.type "list",data:=.seq #[] }).update s.heap.objs.size (Obj.mapSeq (fun _=>(#[]:Array Value))) } :=
  Moved.then_heap (wr:=[s.heap.objs.size,I]) (G:=fun a b=>b=a) (s:={ s with heap:=s.heap.push { cls:=.type "list",data:=.seq #[] } }) (s':={ s with heap:=s.heap.push { cls:=.type "list",data:=.seq #[] } }) (Moved.refl (G:=fun a b=>b=a) (fun _=>rfl)) (Yg _) fun b o hb e=>oth b o (fun h=>hb (by rw [h];exact YG)) e
 exact ⟨rfl,hQ s' c' (Moved.trans (fun _ _ _ h1 h2=>h2.trans h1) m0 mv) here⟩
end
noncomputable def ZgO (K:YFr) (te:TE):TE:=fun σ H Q=>te σ H fun x H1=>∃ a xs,x=.ref a/\SqL K H1 a xs/\∀ p,H1 p=none->Q (.ref p) (upd H1 p (.lst xs.reverse))
section
variable {X:Cx} {e:Expr} {te:TE} {p1 p2 pos1 pos2:Pos}
theorem ZhB (hc:X.calm=true) (hg1:Gl X "list") (hm1:X.mg "list"=none) (hg2:Gl X "reversed") (hm2:X.mg "reversed"=none) (he:PE X e te) (hs2:starEach [e] X.env=[(false,eval e X.env)]:=by rfl)
  (hs1:starEach [.Call (.Name "reversed" p2) [e] [] pos2] X.env=[(false,eval (.Call (.Name "reversed" p2) [e] [] pos2) X.env)]:=by rfl):PE X (.Call (.Name "list" p1) [.Call (.Name "reversed" p2) [e] [] pos2] [] pos1) (ZgO X.K te):=by
 intro pins s σ H Q I h
 refine Yaj (ZbF I hg1 hm1 (show bootBuiltins "list"=some (.type "list") by decide +kernel) ?_ (by decide) (by decide))
 refine Y9 (T:="list") ?_ hs1 rfl
 rw [hs1]
 refine (show wpAny _ _ (spliced ((false,eval (.Call (.Name "reversed" p2) [e] [] pos2) X.env)::[])) _ _ s from YbG (Zgz hc hg2 hm2 he hs2 I h fun a xs H1 s1 its I1 hx rv pl hz q=>YbJ ?_))
 have la:a < s1.heap.objs.size:=by obtain ⟨o,e,_⟩:=pl;exact Yo e
 have hlen:=rv.length
 refine Zeg (I:=s1.heap.objs.size) (l:=a) (items:=its.toArray) (I1.ok.hd hc) (YD la) ⟨_,YI _ rfl,rfl,rfl⟩ (pl.at fun o z=>Yi _ z) (by rw [Yj,<- hlen];exact hz) fun s' c' mv here=>?_
 have e':=ZeP mv
 have sz:(s1.heap.push (revObj a ((its.toArray.size:Int) - 1))).objs.size=s1.heap.objs.size + 1:=Array.size_push ..
 have kp:∀ b o,s1.heap.get? b=some o->s'.heap.get? b=some o:=fun b o z=>mv.heap b o (by
  have:=Yo z
  simp only [Yt,Y4,YaI,not_or]
  constructor
  ·show b≠(s1.heap.push (revObj a ((its.toArray.size:Int) - 1))).objs.size
   rw [sz];exact YD (YaY this)
  ·exact YD this) (Yi _ (Yi _ z))
 have e9:its.toArray.reverse=its.reverse.toArray:=by apply YaC.mp;simp
 have I3:Inv X pins σ (upd H1 (s1.heap.objs.size + 1) (.lst xs.reverse)) { s1 with heap:=s'.heap,toks:=s'.toks } :=
  I1.laid (t':=s'.toks) kp (YcN _) (show Zbo X.prog X.w _ s'.heap _ (.lst xs.reverse) from ⟨by rw [Yaq];exact hz,its.reverse,c',Vals.reverse rv,by rw [<- e9];rw [<- sz];exact here⟩)
 rw [show s'={ s1 with heap:=s'.heap,toks:=s'.toks } from e']
 exact ⟨.ref (s1.heap.objs.size + 1),_,I3,by show RelV _ _;rw [<- sz];rfl,q _ (I1.hok.fresh (YcN _))⟩
end
section
variable {K:YFr}
noncomputable def Zgc (a:AE):AE:=fun ρ A Q=>a ρ A fun x A1=>∃ p us,x=.ref p/\A1 p=some (.lst us)/\∀ l,A1 l=none->Q (.ref l) (updA A1 l (.lst us.reverse))
theorem Zhe {t:TE} {a:AE} (ha:AbE K t a):AbE K (ZgO K t) (Zgc a):=fun ρ A σ H Q' Q hs g w k =>
 ha ρ A σ H _ _ hs g w fun x A1 v H1 k1 g1 r1 hq0=>by
  obtain ⟨p,us,e,eA,q⟩:=hq0
  subst e;cases r1
  obtain ⟨vs,h1,r1⟩:=g1.list eA
  refine ⟨p,vs,rfl,SqL.of h1,fun q2 hp=>?_⟩
  have s:=Same.upd_new (o:=.lst vs.reverse) hp
  exact k _ _ _ _ (k1.trans s.kp) (g1.newL hp r1.rev) (.ref _) (q q2 (g1.none hp))
theorem Zi9 {a:AE} {ρ:ASt} {A:AHp} {Q:AVK}:(Zgc a ρ A Q)=(a ρ A fun x A1=>∃ p us,x=.ref p/\A1 p=some (.lst us)/\∀ l,A1 l=none->Q (.ref l) (updA A1 l (.lst us.reverse))):=rfl
end
theorem Zjq {J:AIt} {te:AE} {l:Addr} {Q:AVK} {x0:Option U} {fr:ASt} {A:AHp} (items:List U) (Pv:Nat->List U->AHp->Prop) (h0:Pv 0 [] A) (hn:items.length<=100000) (hl:∀ k ys A2,Pv k ys A2->ys.length=k) (hJ:∀ k ys A2,k<=items.length->Pv k ys A2->J k A2 items[k]?)
  (hs:∀ k u ys A2,items[k]? = some u->Pv k ys A2->∀ Cy:AVK,(∀ y A3,A3 l=some (.lst ys)->Pv (k + 1) (ys++[y]) (updA A3 l (.lst (ys++[y])))->Cy y A3)->te (some u::fr) A2 Cy)
  (hd:∀ ys A2,Pv items.length ys A2->Q (.ref l) A2):aCL J (ZbH 0) ZcA te l Q (x0::fr) A:=by
 refine ⟨fun i m τ A2=>m=items.length - i/\i<=items.length/\(∃ x,τ=x::fr)/\∃ ys,Pv i ys A2,⟨_,rfl,YX _,⟨_,rfl⟩,_,h0⟩,?_⟩
 rintro i m τ A2 ⟨rfl,hi,⟨x,rfl⟩,ys,hp⟩
 have j:=hJ i ys A2 hi hp
 by_cases hlt:i < items.length
 ·have hu:items[i]? = some items[i]:=Ye hlt
  rw [hu] at j
  refine .inr ⟨_,j,?_⟩
  rw [q_nm0,q_true,if_pos rfl]
  exact hs i _ ys A2 hu hp _ fun y A3 h1 h2=>⟨ys,h1,Zbc (by rw [hl i ys A2 hp];lia),items.length - (i + 1),by lia,rfl,hlt,⟨_,rfl⟩,_,h2⟩
 ·have e:i=items.length:=by lia
  subst e
  rw [YT (Yg _)] at j
  exact .inl ⟨j,hd ys A2 hp⟩
mutual
noncomputable def Wr.gd:Wr->Bool
 | .nothing=>true
 | .bead c=>PyData.strOk c
 | .side _ f=>f.gd
 | .pair f g=>f.gd && g.gd
 | .many k ps=>(decide (k<=3) && decide (ps.length < 64)) && gdL ps
noncomputable def gdL:List Wr->Bool
 | []=>true
 | w::ws=>w.gd && gdL ws
end
theorem Zan:∀ (ws us:List Wr),gdL (ws++us)=(gdL ws && gdL us)
 | [],us=>by simp [gdL]
 | w::ws,us=>by simp only [List.cons_append,gdL,Zan ws us,Bool.and_assoc]
theorem ZfY {ws:List Wr}:gdL ws=true ↔ ∀ w∈ws,w.gd=true:=by
 induction ws with
 | nil=>simp [gdL]
 | cons w ws ih=>simp [gdL,ih]
theorem ZaW {ws:List Wr} {w:Wr} (h:gdL ws=true) (m:w∈ws):w.gd=true:=ZfY.mp h w m
theorem Zba {ps qs:List Wr} (p:ps.Perm qs) (h:gdL ps=true):gdL qs=true:=ZfY.mpr fun w hw=>ZfY.mp h w (p.mem_iff.mpr hw)
mutual
theorem Wr.gd_ok:∀ w:Wr,w.gd=true->w.ok=true
 | .nothing,_=>rfl
 | .bead _,h=>h
 | .side _ f,h=>f.gd_ok h
 | .pair f g,h=>by simp only [Wr.gd,Yc] at h;simp only [Wr.ok,Yc];exact ⟨f.gd_ok h.1,g.gd_ok h.2⟩
 | .many k ps,h=>by simp only [Wr.gd,Yc] at h;simp only [Wr.ok];exact Zey ps h.2
theorem Zey:∀ ws:List Wr,gdL ws=true->okL ws=true
 | [],_=>rfl
 | w::ws,h=>by simp only [gdL,Yc] at h;simp only [okL,Yc];exact ⟨w.gd_ok h.1,Zey ws h.2⟩
end
mutual
theorem Wr.gd_nrm:∀ w:Wr,w.gd=true->w.nrm=true
 | .nothing,_=>rfl
 | .bead _,h=>rfl
 | .side _ f,h=>by simp only [Wr.nrm];exact f.gd_nrm h
 | .pair f g,h=>by simp only [Wr.gd,Yc] at h;simp only [Wr.nrm,Yc];exact ⟨f.gd_nrm h.1,g.gd_nrm h.2⟩
 | .many k ps,h=>by simp only [Wr.gd,Yc] at h;simp only [Wr.nrm,Yc];exact ⟨h.1.1,Zcb ps h.2⟩
theorem Zcb:∀ ws:List Wr,gdL ws=true->nrmL ws=true
 | [],_=>rfl
 | w::ws,h=>by simp only [gdL,Yc] at h;simp only [nrmL,Yc];exact ⟨w.gd_nrm h.1,Zcb ws h.2⟩
end
theorem Wr.gd_parts {w:Wr} (h:w.gd=true):gdL w.parts=true/\w.parts.length < 64:=by
 cases w with
 | nothing=>exact ⟨rfl,by simp [Wr.parts]⟩
 | bead c=>exact ⟨rfl,by simp [Wr.parts]⟩
 | side b f=>simp only [Wr.gd] at h;exact ⟨by simp [Wr.parts,gdL,h],by simp [Wr.parts]⟩
 | pair f g=>simp only [Wr.gd,Yc] at h;exact ⟨by simp [Wr.parts,gdL,h],by simp [Wr.parts]⟩
 | many k ps=>simp only [Wr.gd,Yc,YC] at h;exact ⟨h.2,h.1.2⟩
mutual
theorem Wr.gd_post:∀ (w y:Wr),y∈w.post->w.gd=true->y.gd=true/\y.dep<=w.dep
 | .nothing,y,h,g=>by rw [Wr.post_eq] at h;simp [Wr.parts,Za8] at h;subst h;exact ⟨g,Yg _⟩
 | .bead c,y,h,g=>by rw [Wr.post_eq] at h;simp [Wr.parts,Za8] at h;subst h;exact ⟨g,Yg _⟩
 | .side b f,y,h,g=>by
  rw [Wr.post_eq] at h
  simp only [Wr.parts,Za8,Y8,YK,Yv] at h
  rcases h with h | h
  ·have:=f.gd_post y h g;exact ⟨this.1,by have:=this.2;simp only [Wr.dep];lia⟩
  ·subst h;exact ⟨g,Yg _⟩
 | .pair f f',y,h,g=>by
  rw [Wr.post_eq] at h
  have g2:=g
  simp only [Wr.gd,Yc] at g2
  simp only [Wr.parts,Za8,Y8,YK,Yv] at h
  rcases h with (h | h) | h
  ·have:=f.gd_post y h g2.1;exact ⟨this.1,by have:=this.2;simp only [Wr.dep];lia⟩
  ·have:=f'.gd_post y h g2.2;exact ⟨this.1,by have:=this.2;simp only [Wr.dep];lia⟩
  ·subst h;exact ⟨g,Yg _⟩
 | .many k ps,y,h,g=>by
  rw [Wr.post_eq] at h
  have g2:=g
  simp only [Wr.gd,Yc] at g2
  simp only [Wr.parts,YK,Yv] at h
  rcases h with h | h
  ·have:=Zge ps y h g2.2;exact ⟨this.1,by have:=this.2;simp only [Wr.dep];lia⟩
  ·subst h;exact ⟨g,Yg _⟩
theorem Zge:∀ (ws:List Wr) (y:Wr),y∈Za8 ws->gdL ws=true->y.gd=true/\y.dep<=depL ws
 | [],y,h,_=>by simp [Za8] at h
 | w :: ws,y,h,g=>by
  simp only [gdL,Yc] at g
  simp only [Za8,YK] at h
  rcases h with h | h
  ·have:=w.gd_post y h g.1;exact ⟨this.1,by have:=this.2;simp only [depL];lia⟩
  ·have:=Zge ws y h g.2;exact ⟨this.1,by have:=this.2;simp only [depL];lia⟩
end
mutual
theorem Wr.pl_gd:∀ w:Wr,w.gd=true->w.pl.gd=true
 | .nothing,_=>rfl
 | .bead _,h=>h
 | .side _ f,h=>by simp only [Wr.pl,Wr.gd];exact f.pl_gd h
 | .pair f g,h=>by simp only [Wr.gd,Yc] at h;simp only [Wr.pl,Wr.gd,Yc];exact ⟨f.pl_gd h.1,g.pl_gd h.2⟩
 | .many k ps,h=>by
  simp only [Wr.gd,Yc,YC] at h
  simp only [Wr.pl,Wr.gd,Yc,YC]
  exact ⟨⟨h.1.1,by rw [(Zas k _).length_eq,ZM,Yb];exact h.1.2⟩,Zba (Zas k _).symm (Zb7 ps h.2)⟩
theorem Zb7:∀ ws:List Wr,gdL ws=true->gdL (plnL ws)=true
 | [],_=>rfl
 | w::ws,h=>by simp only [gdL,Yc] at h;simp only [plnL,gdL,Yc];exact ⟨w.pl_gd h.1,Zb7 ws h.2⟩
end
structure Lk (w v:Wr):Prop where
 gd:v.gd=true
 tups:v.tups=w.tups
 dep:v.dep=w.dep
 size:v.size=w.size
 pl:v.pl=w.pl
structure Lks (ws vs:List Wr):Prop where
 len:vs.length=ws.length
 gd:gdL vs=true
 tups:Zp vs=Zp ws
 dep:depL vs=depL ws
 size:sizeL vs=sizeL ws
 pl:plnL vs=plnL ws
theorem Lk.refl {w:Wr} (h:w.gd=true):Lk w w:=⟨h,rfl,rfl,rfl,rfl⟩
theorem sizeL_app:∀ (ws us:List Wr),sizeL (ws++us)=sizeL ws + sizeL us
 | [],us=>by simp [sizeL]
 | w::ws,us=>by simp only [List.cons_append,sizeL,sizeL_app ws us];lia
theorem ZgK (ws us:List Wr):plnL (ws++us)=plnL ws++plnL us:=by rw [ZM,ZM,ZM,Ym]
theorem Lks.nil:Lks [] []:=⟨rfl,rfl,rfl,rfl,rfl,rfl⟩
theorem Lks.snoc {ws vs:List Wr} {w v:Wr} (h:Lks ws vs) (k:Lk w v):Lks (ws++[w]) (vs++[v]):=by
 refine ⟨by rw [Yh,Yh,h.len];rfl,by rw [Zan,h.gd];simp [gdL,k.gd],?_,?_,?_,?_⟩
 ·rw [Zo,Zo,h.tups];simp only [Zp,k.tups]
 ·rw [Zd9,Zd9,h.dep];simp only [depL,k.dep]
 ·rw [sizeL_app,sizeL_app,h.size];simp only [sizeL,k.size]
 ·rw [ZgK,ZgK,h.pl];simp only [plnL,k.pl]
theorem Alk.perm {k:Nat} {qs rs:List Wr} (h:Alk k qs rs):qs.Perm rs:=by
 unfold Alk at h
 split at h
 ·exact h
 ·split at h
  ·rw [h]
  ·rcases h with h | ⟨r,_,h⟩
   ·rw [h]
   ·rw [h];exact (ZN qs r).symm
theorem ZhV {α β:Type} (f:α->β) (ps:List α) (i:Nat):(turnL ps i).map f=turnL (ps.map f) i:=by
 unfold turnL;rw [Ym,Yaf,Y5]
theorem Alk.pln {k:Nat} {qs rs:List Wr} (h:Alk k qs rs):Alk k (plnL qs) (plnL rs):=by
 rw [ZM,ZM]
 unfold Alk at h ⊢
 by_cases c:k=1\/k=2
 ·rw [if_pos c] at h ⊢;exact h.map _
 ·rw [if_neg c] at h ⊢
  by_cases c0:k=0
  ·rw [if_pos c0] at h ⊢;rw [h]
  ·rw [if_neg c0] at h ⊢
   rcases h with h | ⟨r,hr,h⟩
   ·exact .inl (by rw [h])
   ·exact .inr ⟨r,by rw [Yb];exact hr,by rw [h,ZhV]⟩
theorem Alk.refl (k:Nat) (qs:List Wr):Alk k qs qs:=by
 unfold Alk
 split
 ·exact .refl _
 ·split
  ·rfl
  ·exact .inl rfl
theorem Lks.many {k:Nat} {ps qs rs:List Wr} (h:(Wr.many k ps).gd=true) (l:Lks ps qs) (a:Alk k qs rs):Lk (.many k ps) (.many k rs):=by
 simp only [Wr.gd,Yc,YC] at h
 have p:=a.perm
 refine ⟨?_,?_,?_,?_,?_⟩
 ·simp only [Wr.gd,Yc,YC]
  exact ⟨⟨h.1.1,by rw [<- p.length_eq,l.len];exact h.1.2⟩,Zba p l.gd⟩
 ·simp only [Wr.tups];rw [<- ZdR p,l.tups]
 ·simp only [Wr.dep];rw [<- Zcn p,l.dep]
 ·simp only [Wr.size];rw [<- Zhq p,l.size]
 ·simp only [Wr.pl];rw [Zdp (Zcg _ (Zcb _ l.gd)) a.pln,l.pl]
theorem Lks.few {w:Wr} {vs:List Wr} (hf:w.few) (l:Lks w.parts vs):∃ v,Lk w v/\v.toU=.tup (.str w.name::vs.map Wr.toU):=by
 cases w with
 | nothing =>
  have:=l.len
  obtain rfl:vs=[]:=Y6.mp this
  exact ⟨.nothing,⟨rfl,rfl,rfl,rfl,rfl⟩,rfl⟩
 | bead c=>exact absurd rfl (hf.1 c)
 | side b f =>
  have:=l.len
  match vs,this,l with
  | [v],_,l =>
   have h1:=l.gd;have h2:=l.tups;have h3:=l.dep;have h4:=l.size;have h5:=l.pl
   simp only [Wr.parts,gdL,Zp,depL,sizeL,plnL,Ys,Nat.add_zero,Nat.max_zero,Y1,Ycn] at h1 h2 h3 h4 h5
   exact ⟨.side b v,⟨h1,by simp only [Wr.tups,h2],by simp only [Wr.dep,h3],by simp only [Wr.size,h4],by simp only [Wr.pl,h5]⟩,rfl⟩
 | pair f g =>
  have:=l.len
  match vs,this,l with
  | [v,v'],_,l =>
   have h1:=l.gd;have h2:=l.tups;have h3:=l.dep;have h4:=l.size;have h5:=l.pl
   simp only [Wr.parts,gdL,Zp,depL,sizeL,plnL,Ys,Nat.add_zero,Nat.max_zero,Y1,Ycn] at h1 h2 h3 h4 h5
   exact ⟨.pair v v',⟨h1,by simp only [Wr.tups,Nat.add_zero,h2],by simp only [Wr.dep,h3],by simp only [Wr.size];lia,by simp only [Wr.pl,h5]⟩,rfl⟩
 | many k ps=>exact absurd rfl (hf.2 k ps)
theorem Zin {α:Type} {xs:List α} {i:Nat} {x:α} (h:xs[i]? = some x):xs.Perm ([x]++(xs.take i).reverse++xs.drop (i + 1)):=by
 obtain ⟨hi,e⟩:=Yp.mp h
 have e1:xs=xs.take i++x::xs.drop (i + 1):=by
  conv=>lhs;rw [<- Yas i xs,YaM hi,e]
 conv=>lhs;rw [e1]
 refine YcW.trans ?_
 rw [Yai,List.singleton_append]
 exact ((YaL _).symm.append_right _).cons x
theorem Wr.like_self (w:Wr) (h:w.ok=true):w.like w=true:=by
 rw [<- w.eqvD w];exact w.same_eqv h
theorem ZdM {lt lt':Nat->Nat->Bool}:∀ m,(∀ i j,i<=m->j<=m->lt i j=lt' i j)->argBest lt m=argBest lt' m
 | 0,_=>rfl
 | m + 1,h=>by
  have e:=ZdM m fun i j hi hj=>h i j (by lia) (by lia)
  have b:=Zbq (lt:=lt') m
  show (if lt (m + 1) (argBest lt m)=true then m + 1 else argBest lt m)=(if lt' (m + 1) (argBest lt' m)=true then m + 1 else argBest lt' m)
  rw [e,h (m + 1) (argBest lt' m) (Yg _) (by lia)]
mutual
theorem Wr.like_eq:∀ w v:Wr,w.nrm=true->v.nrm=true->w.like v=true->w=v
 | .nothing,v,_,_,e=>by cases v <;> simp [Wr.like] at e;rfl
 | .bead c,v,_,_,e=>by cases v <;> simp [Wr.like] at e;rw [e]
 | .side b f,v,h1,h2,e=>by
  cases v <;> simp [Wr.like] at e
  rename_i b' f'
  rw [e.1,f.like_eq f' h1 h2 e.2]
 | .pair f g,v,h1,h2,e=>by
  cases v <;> simp [Wr.like] at e
  rename_i f' g'
  simp only [Wr.nrm,Yc] at h1 h2
  rw [f.like_eq f' h1.1 h2.1 e.1,g.like_eq g' h1.2 h2.2 e.2]
 | .many k ps,v,h1,h2,e=>by
  have ki:=Zi4 e
  cases v <;> simp [Wr.like] at e
  rename_i k' ps'
  simp only [Wr.nrm,Yc,YC] at h1 h2
  rw [ZgD h1.1 h2.1 ki,Zeh ps ps' h1.2 h2.2 e.2]
theorem Zeh:∀ ws vs:List Wr,nrmL ws=true->nrmL vs=true->ZaK ws vs=true->ws=vs
 | [],[],_,_,_=>rfl
 | [],_::_,_,_,e=>by simp [ZaK] at e
 | _::_,[],_,_,e=>by simp [ZaK] at e
 | w :: ws,v::vs,h1,h2,e=>by
  simp only [ZaK,Yc] at e
  simp only [nrmL,Yc] at h1 h2
  rw [w.like_eq v h1.1 h2.1 e.1,Zeh ws vs h1.2 h2.2 e.2]
end
mutual
theorem Wr.dat_toU:∀ w:Wr,w.toU.dat=w.toD
 | .nothing=>by simp [Wr.toU,Wr.toD,U.dat,datL]
 | .bead c=>by simp [Wr.toU,Wr.toD,U.dat,datL]
 | .side b f=>by simp [Wr.toU,Wr.toD,U.dat,datL,f.dat_toU]
 | .pair f g=>by simp [Wr.toU,Wr.toD,U.dat,datL,f.dat_toU,g.dat_toU]
 | .many k ps=>by simp [Wr.toU,Wr.toD,U.dat,datL,Zgn ps]
theorem Zgn:∀ ws:List Wr,datL (toUL ws)=toDL ws
 | []=>by simp [toUL,toDL,datL]
 | w::ws=>by simp [toUL,toDL,datL,w.dat_toU,Zgn ws]
end
theorem Wr.toU_inj {w v:Wr} (h1:w.gd=true) (h2:v.gd=true) (e:w.toU=v.toU):w=v:=by
 refine w.like_eq v (w.gd_nrm h1) (v.gd_nrm h2) ?_
 rw [<- w.eqvD v,<- w.dat_toU,e,v.dat_toU,v.eqvD v]
 exact v.like_self (v.gd_ok h2)
open Classical in
noncomputable def byW {α:Type} (qs:List Wr) (f:Wr->α) (d:α) (u:U):α:=if h:∃ w,w∈qs/\w.toU=u then f h.choose else d
theorem Ziq {α:Type} {qs:List Wr} {f:Wr->α} {d:α} {w:Wr} (hg:gdL qs=true) (hw:w∈qs):byW qs f d w.toU=f w:=by
 have h:∃ v,v∈qs/\v.toU=w.toU:=⟨w,hw,rfl⟩
 unfold byW
 rw [dif_pos h]
 have:=h.choose_spec
 rw [Wr.toU_inj (ZaW hg this.1) (ZaW hg hw) this.2]
theorem Zd4 {α:Type} {qs:List Wr} {f:Wr->α} {d:α} (hg:gdL qs=true):(qs.map Wr.toU).map (byW qs f d)=qs.map f:=by
 rw [YO]
 exact Yap fun w hw=>Ziq hg hw
theorem Zgb:∀ {ads:List Addr} {i:Nat} {a:Addr},ads.Nodup->ads[i]? = some a->ads.idxOf a=i
 | [],i,a,_,h=>by simp at h
 | b::ads,0,a,_,h=>by simp at h;subst h;simp [List.idxOf_cons]
 | b :: ads,i + 1,a,hn,h=>by
  simp only [List.getElem?_cons_succ] at h
  rw [YQ] at hn
  have hm:=Yn h
  have hne:b≠a:=fun e=>hn.1 (e ▸ hm)
  have hb:(b == a)=false:=by simpa using hne
  rw [List.idxOf_cons,hb,Zgb hn.2 h];rfl
theorem len0 {α:Type} {P:List α->Prop} (h:P []):∀ us:List α,us.length=0->P us:=fun us e=>by
 cases us with
 | nil=>exact h
 | cons a us=>simp at e
theorem len1 {α:Type} {P:List α->Prop} (h:∀ a,P [a]):∀ us:List α,us.length=1->P us:=fun us e=>by
 cases us with
 | nil=>simp at e
 | cons a us=>exact len0 (P:=fun us=>P (a::us)) (h a) us (by simpa using e)
theorem len2 {α:Type} {P:List α->Prop} (h:∀ a b,P [a,b]):∀ us:List α,us.length=2->P us:=fun us e=>by
 cases us with
 | nil=>simp at e
 | cons a us=>exact len1 (P:=fun us=>P (a::us)) (h a) us (by simpa using e)
theorem len3 {α:Type} {P:List α->Prop} (h:∀ a b c,P [a,b,c]):∀ us:List α,us.length=3->P us:=fun us e=>by
 cases us with
 | nil=>simp at e
 | cons a us=>exact len2 (P:=fun us=>P (a::us)) (h a) us (by simpa using e)
theorem len4 {α:Type} {P:List α->Prop} (h:∀ a b c d,P [a,b,c,d]):∀ us:List α,us.length=4->P us:=fun us e=>by
 cases us with
 | nil=>simp at e
 | cons a us=>exact len3 (P:=fun us=>P (a::us)) (h a) us (by simpa using e)
section
variable {X:Cx} {pins:List (Addr × Obj)} {σ:St} {B:Around} {E:Value->Shared->Prop} {A:AHp} {us:List U} {ds:List PyData} {H:Hp} {s:Shared} {a:Addr} {P:PySem.Fin->Shared->Prop}
theorem ZhE {its:List Value} {vs:List V} {n:Nat} (I:Inv X pins σ H s) (g:HR X.K H A) (r:RUs X.K H us vs) (rv:Vals vs its) (h64:us.length < 64)
  (fa:FpOk X pins H a) (oa:s.heap.get? a=some (seqObj "list" its.toArray n))
  (hdu:DUs A us ds) (hld:ds.length=us.length) (hok:OkD ds) (hin:∀ d∈ds,ZaA d=true) (hun:B.units + 200 < cLine)
  (h:∀ s' ys its' c,Inv X pins σ H s'->s'.heap.get? a=some (seqObj "list" its'.toArray c)->RUs X.K H (srt false us ds) ys->Vals ys its'->P (.done (.ret .none)) s') :
  wpAny (model X.prog X.w) B (Builtin.«list.sort» ⟨[.ref a],[]⟩) P E s:=by
 have l1:its.length=us.length:=by rw [<- rv.length,r.length]
 have s1:=Y3 s.heap a (Obj.mapSeq fun _=>(#[]:Array Value))
 obtain ⟨e1,ho1⟩:∃ e1,(s.heap.update a (Obj.mapSeq fun _=>(#[]:Array Value))).get? a=some (seqObj "list" #[] e1):=⟨_,YaF oa fun _=>#[]⟩
 rw [list_sort_plain]
 refine Yd (listItems_at oa rfl (show _ from ?_))
 refine Yd (Ya3 oa rfl (show _ from ?_) (by rw [Yj,Yaa];lia) (YX _))
 refine Yd (seqEpoch_at ho1 rfl (show _ from ?_))
 refine Yd (wpAny_newTuple (show _ from ?_) (by show its.length<=_;rw [Yaa];lia))
 refine Yd (Ybp (show _ from ?_) (YX _))
 refine YU (show _ from ?_)
 have I1:=I.mine (t':=s.toks) fa fun p o hp q=>(s1.2 p hp).trans q
 have I2:=I1.kept (t':=s.toks) (h':=(s.heap.update a (Obj.mapSeq fun _=>(#[]:Array Value))).push { cls:=.type "tuple",data:=.seq its.toArray }) fun p o q=>Yi _ q
 have I3:=I2.kept (t':=s.toks) (h':=((s.heap.update a (Obj.mapSeq fun _=>(#[]:Array Value))).push { cls:=.type "tuple",data:=.seq its.toArray }).push { cls:=.type "list",data:=.seq #[] }) fun p o q=>Yi _ q
 have oa3:({ s with heap:=((s.heap.update a (Obj.mapSeq fun _=>(#[]:Array Value))).push { cls:=.type "tuple",data:=.seq its.toArray }).push { cls:=.type "list",data:=.seq #[] },toks:=s.toks }:Shared).heap.get? a=some (seqObj "list" #[] e1):=Yi ({ cls:=.type "list",data:=.seq #[] }:Obj) (Yi ({ cls:=.type "tuple",data:=.seq its.toArray }:Obj) ho1)
 show wpAny _ B _ P E { s with heap:=((s.heap.update a (Obj.mapSeq fun _=>(#[]:Array Value))).push { cls:=.type "tuple",data:=.seq its.toArray }).push { cls:=.type "list",data:=.seq #[] },toks:=s.toks }
 generalize ({ s with heap:=((s.heap.update a (Obj.mapSeq fun _=>(#[]:Array Value))).push { cls:=.type "tuple",data:=.seq its.toArray }).push { cls:=.type "list",data:=.seq #[] },toks:=s.toks }:Shared)=s3 at I3 oa3 ⊢
 have tail:∀ (st:SortSt) (out:List Value),(arrOf st).map (·.2)=List.toArray out->out.length < 64->failedOf st=none->(∀ s' c,Inv X pins σ H s'->s'.heap.get? a=some (seqObj "list" out.toArray c)->P (.done (.ret .none)) s') ->
   wpAny (model X.prog X.w) B (do
    let touched:=(<- seqEpoch a) != e1
    Builtin.List.listUpdate (.ref a) fun _=>(arrOf st).map (·.2)
    if let some e:=failedOf st then rule "list.sort.comparison-raised";throw e
    if touched then rule "list.sort.modified";raiseError "ValueError" "list modified during sort"
    ret .none) P E s3:=by
  intro st out hout hz hf k
  have s2:=Y3 s3.heap a (Obj.mapSeq fun _=>List.toArray out)
  rw [hout]
  refine Yd (seqEpoch_at oa3 rfl (show _ from ?_))
  refine Yd (Ya3 oa3 rfl (show _ from ?_) (YX _) (by rw [Yj,Yaa];lia))
  rw [hf]
  simp only [bne_self_eq_false,Yah,YaH]
  exact Yl (k _ _ (I3.mine (t':=s3.toks) fa fun p o hp q=>(s2.2 p hp).trans q) (YaF oa3 fun _=>List.toArray out))
 by_cases hn:us.length < 2
 ·have hn2:its.toArray.size < 2:=by rw [Yj];lia
  rw [if_pos hn2,if_pos hn2]
  refine Yd (Yl ?_)
  refine Yd (Yl ?_)
  refine tail _ its ?_ (by lia) rfl fun s' c I' o'=>h s' vs its c I' o' (by unfold srt;rw [if_pos hn];exact r) rv
  apply YaC.mp
  rw [Array.toList_map,ksk_zip]
  simp only [List.toList_toArray]
  rw [List.map_snd_zip (Yg _)]
 ·have hn2:¬ its.toArray.size < 2:=by rw [Yj];lia
  rw [if_neg hn2,if_neg hn2]
  have rds:∀ i,i < us.length->∃ as,Reads s3.heap (its.getD i .none) (ds.getD i .none) as:=fun i hi=>Zd2 I3 g r rv hdu i (by lia)
  have mem:∀ i,i < us.length->ds.getD i .none∈ds:=fun i hi=>by
   rw [Yq,Ye (by lia)];exact Ybr _
  obtain ⟨fs,kt,lf,all⟩:=Zcz s3.heap (ks:=its) (ds:=ds) (n:=us.length) l1 hld rds hin
  refine Yd (kat_kind (T:=.type "int") kt (by lia) (fun v hv=>by obtain ⟨i,t,rfl⟩:=all v hv;exact Looks.of_pure rfl) rfl ?_)
  have hT:(Value.type "int" != Value.type "tuple")=true:=by decide
  rw [hT]
  refine Yd (YV (kat_run (Q:=fun st' s'=>s'=s3/\arrOf st'=(SortA.runT (ltD ds) (kas_sort us.length)).map (kas_item ((List.toArray its).zip (List.toArray its)))/\failedOf st'=none/\(SortA.runT (ltD ds) (kas_sort us.length)).size=its.length)
   (G:=fun p s'=>s'=s3/\p=SortA.runT (ltD ds) (kas_sort us.length)) (Eq.refl its.length) (by lia) (by lia) (fun p' st' s' a1 a2 a3 a4=>⟨a4.1,by rw [a2,a4.2],a3,by rw [<- a4.2];exact a1⟩) ?_) ?_ fun _ _ x=>x)
  ·rw [l1]
   refine SortA.wpT (I:=fun s'=>s'=s3) (lt:=ltD ds) (n:=us.length) (fun i j C s0 hi hj hs hC=>?_) _ s3 (SortA.all_sort (by lia)) rfl fun s' hs=>⟨hs,rfl⟩
   subst hs
   obtain ⟨as,ra⟩:=rds i hi
   obtain ⟨bs,rb⟩:=rds j hj
   have m1:=mem i hi
   have m2:=mem j hj
   have d1:=(hok.1 _ m1).2
   have d2:=(hok.1 _ m2).2
   exact Zdo ra rb (hok.1 _ m1).1 (hok.1 _ m2).1 (hok.2 _ m1 _ m2) (hin _ m1) (hin _ m2) (by lia) (hC _ rfl)
  ·rintro ⟨⟨⟩,st'⟩ s' ⟨e0,har,hf,hsz⟩
   subst e0
   have hps:=(Zec (n:=us.length) (by lia) (ltD ds)).2
   have hpl:(SortA.runT (ltD ds) (kas_sort us.length)).toList.length<=us.length:=by
    rw [Array.length_toList,hsz,l1];exact Yg _
   obtain ⟨ys,r1,r2⟩:=RUs.picked r rv (SortA.runT (ltD ds) (kas_sort us.length)).toList (fun p hp=>hps p hp)
   refine tail st' ((SortA.runT (ltD ds) (kas_sort us.length)).toList.map fun i=>its.getD i .none) (kat_snds rfl har) (by rw [Yb];lia) hf fun s'' c I' o'=>?_
   exact h s'' ys _ c I' o' (by unfold srt;rw [if_neg hn];exact r1) r2
theorem ZfB {l:Addr} {Q:Value->Shared->Prop} (I:Inv X pins σ H s) (g:HR X.K H A) (hl:A l=some (.lst us)) (h64:us.length < 64)
  (hdu:DUs A us ds) (hld:ds.length=us.length) (hok:OkD ds) (hin:∀ d∈ds,ZaA d=true) (hun:B.in1.in1.units + 200 < cLine)
  (h:∀ D H' s',A D=none->Inv X pins σ H' s'->Kp X.K H H'->HR X.K H' (updA A D (.lst (srt false us ds)))->Q (.ref D) s') :
  wpAny (model X.prog X.w) B (call (.builtin "sorted") [.ref l]) Q E s:=by
 obtain ⟨vs,h1,r⟩:=g.list hl
 obtain ⟨its,rv,pl,hz⟩:=I.list (SqL.of h1)
 have l1:its.length=us.length:=by rw [<- rv.length,r.length]
 refine Calls.call_function_entry kind_sorted plain_sorted entry_sorted (args_sorted1 _) (show _ from ?_)
 unfold Builtin.«sorted»
 refine Yd (m:=checkCount "sorted" 1 1 _) (Yl (show _ from ?_))
 refine Yd (collect_list pl.isList (show _ from ?_) (by rw [Yaa];lia))
 refine Yd (Ybp (show _ from ?_) (by rw [Yaa];lia))
 have s0:=Y3 (s.heap.push (seqObj "list" #[] 0)) s.heap.objs.size (Obj.mapSeq (·++its.toArray))
 have hk1:∀ p o,s.heap.get? p=some o->((s.heap.push (seqObj "list" #[] 0)).update s.heap.objs.size (Obj.mapSeq (·++its.toArray))).get? p=some o:=fun p o q =>
  (s0.2 p (YD (Yo q))).trans (Yi _ q)
 have I1:=I.kept (t':=s.toks) hk1
 have f1:=I1.fpOk (Yg _) (I1.hok.fresh (Yg _))
 have hs0:X.s₀.heap.objs.size<=((s.heap.push (seqObj "list" #[] 0)).update s.heap.objs.size (Obj.mapSeq (·++its.toArray))).objs.size:=I1.sz
 have I2:=I1.kept (t':=s.toks) (h':=((s.heap.push (seqObj "list" #[] 0)).update s.heap.objs.size (Obj.mapSeq (·++its.toArray))).push { cls:=.type "list",data:=.seq its.toArray }) fun p o q=>Yi _ q
 have oD:(((s.heap.push (seqObj "list" #[] 0)).update s.heap.objs.size (Obj.mapSeq (·++its.toArray))).push { cls:=.type "list",data:=.seq its.toArray }).get? ((s.heap.push (seqObj "list" #[] 0)).update s.heap.objs.size (Obj.mapSeq (·++its.toArray))).objs.size=some (seqObj "list" its.toArray 0):=YI _ rfl
 refine Yd (YU (Ybq slot_list_sort ⟨_,oD,rfl⟩ entry_list_sort ?body (args_list_sort _)))
 case body =>
  generalize ((s.heap.push (seqObj "list" #[] 0)).update s.heap.objs.size (Obj.mapSeq (·++its.toArray))).objs.size=D at *
  show wpAny (model X.prog X.w) B.in1.in1 (Builtin.«list.sort» ⟨[.ref D],[]⟩) _ _ _
  refine ZhE I2 g r rv h64 f1 oD hdu hld hok hin hun fun s' ys its' c I3 o3 r3 v3=>⟨_,rfl,Yl ⟨_,rfl,?_⟩⟩
  have hsl:(srt false us ds).length<=sizeLine:=by rw [ZfT,Yaa];lia
  have I4:=I3.adopt f1 hs0 v3 (by rw [<- r3.length];exact hsl) o3
  exact h D (upd H D (.lst ys)) s' (g.none f1.1) I4 (Same.upd_new f1.1).kp (g.newL f1.1 r3)
end
noncomputable def uSortN (K:YFr):List V->Hp->VK->Prop:=fun xs H Q=>∃ (l:Addr) (A:AHp) (Q':AVK) (us:List U) (ds:List PyData),xs=[.ref l]/\HR K H A/\A l=some (.lst us)/\us.length < 64/\DUs A us ds/\OkD ds/\(∀ d∈ds,ZaA d=true) /\
 (∀ D,A D=none->Q' (.ref D) (updA A D (.lst (srt false us ds))))/\Aft K H Q' Q
noncomputable def xSortN:List U->AHp->AVK->Prop:=fun xs A Q=>∃ (l:Addr) (us:List U) (ds:List PyData),xs=[.ref l]/\A l=some (.lst us)/\us.length < 64/\DUs A us ds/\OkD ds/\(∀ d∈ds,ZaA d=true)/\∀ D,A D=none->Q (.ref D) (updA A D (.lst (srt false us ds)))
theorem Zi7 {A:AHp}:∀ {us:List U} {ds:List PyData},DUs A us ds->ds.length=us.length
 | _,_,.nil=>rfl
 | _,_,.cons _ r=>by rw [List.length_cons,List.length_cons,Zi7 r]
theorem c_sortN {X:Cx} {k:Nat} (hr:Room (k + 1) X.A):Zbi X (.builtin "sorted") (uSortN X.K):=by
 intro pins s σ H xs us Q I r h
 obtain ⟨l,A,Q',ws,ds,rfl,g,hl,h64,hdu,hok,hin,q,aft⟩:=h
 obtain ⟨u,rfl,ru⟩:=r.one
 cases ru
 have hun:=hr.un
 exact ZfB I g hl h64 hdu (Zi7 hdu) hok hin (by show X.A.units + 1 + 1 + 200 < cLine;lia) fun D H' s' hD I' kp g'=>⟨.ref D,H',I',rfl,aft _ _ _ _ kp g' (.ref D) (q D hD)⟩
section
variable {K:YFr}
theorem ab_sortN:AbL K (uSortN K) xSortN:=fun xs us A H Q' Q r g hq0 k=>by
 obtain ⟨l,ws,ds,e,h1,h2,h3,h4,h5,q⟩:=hq0
 subst e
 obtain ⟨v,rfl,rv⟩:=r.inv1
 cases rv
 exact ⟨l,A,Q',ws,ds,rfl,g,h1,h2,h3,h4,h5,q,k⟩
theorem q_sortN {A:AHp} {Q:AVK} {l:Addr}:(xSortN [.ref l] A Q)=(∃ (us:List U) (ds:List PyData),A l=some (.lst us)/\us.length < 64/\DUs A us ds/\OkD ds/\(∀ d∈ds,ZaA d=true)/\∀ D,A D=none->Q (.ref D) (updA A D (.lst (srt false us ds)))) :=
 propext ⟨fun hq0=>by obtain ⟨_,us,ds,e,h⟩:=hq0;cases e;exact ⟨us,ds,h⟩,fun ⟨us,ds,h⟩=>⟨l,us,ds,rfl,h⟩⟩
theorem ZeL {X:Cx}:PIp X .Mult (rI IntMulOk fun i j=>.int (i * j)):=by
 intro pins s σ H x y v u Q I rx ry h
 obtain ⟨i,j,rfl,rfl,hc,q⟩:=h
 obtain ⟨t,rfl⟩:=rx
 obtain ⟨t',rfl⟩:=ry
 exact imul_int ⟨.int (i * j),H,I.tok _,⟨_,rfl⟩,q⟩ hc
theorem ZbM:AbR K (rI IntMulOk fun i j=>.int (i * j)) (xI2 IntMulOk fun i j=>.int (i * j)):=fun x y u w A H Q' Q hu hw g h k=>by
 unfold xI2 at h
 split at h
 ·cases hu;cases hw
  exact ⟨_,_,rfl,rfl,h.1,k _ _ _ _ (.refl H) g (.int _) h.2⟩
 ·exact h.elim
open Classical in
noncomputable def cntE (h:Heap) (d:PyData) (y:Value):Bool:=if q:∃ e as,Reads h y e as then PyData.eqv q.choose d else false
theorem Zi1 {h:Heap} {d e:PyData} {y:Value} {as:List Addr} (r:Reads h y e as):cntE h d y=PyData.eqv e d:=by
 have q:∃ e as,Reads h y e as:=⟨e,as,r⟩
 unfold cntE
 rw [dif_pos q]
 obtain ⟨bs,r2⟩:=q.choose_spec
 rw [(reads_det (fun _ _ z _=>z) r r2).1]
end
noncomputable def rInD (neg:Bool) (K:YFr):R2:=fun x y H Q=>∃ (l:Addr) (vs:List V) (ds:List PyData) (d:PyData),y=.ref l/\H l=some (.lst vs)/\Reps K H ds vs/\Rep K H d x/\(∀ e∈ds,e.canLay0=true/\e.depth<=190)/\d.canLay0=true/\Q (.bl (if neg then !ds.any (fun e=>PyData.eqv e d) else ds.any fun e=>PyData.eqv e d)) H
theorem any_cnt {h:Heap} {d:PyData}:∀ (its:List Value) (ds:List PyData),its.length=ds.length->(∀ (i:Nat) (y:Value),its[i]? = some y->∃ e as,ds[i]? = some e/\Reads h y e as)->its.any (cntE h d)=ds.any fun e=>PyData.eqv e d:=by
 intro its
 induction its with
 | nil=>intro ds hl _;cases ds with | nil=>rfl | cons _ _=>simp at hl
 | cons y ys ih =>
  intro ds hl ho
  cases ds with
  | nil=>simp at hl
  | cons e es =>
   obtain ⟨e',as,h1,ra⟩:=ho 0 y rfl
   simp at h1;subst h1
   rw [List.any_cons,List.any_cons,Zi1 ra,ih es (by simpa using hl) fun i y' hy=>ho (i + 1) y' (by simpa using hy)]
section
variable {X:Cx} {pins:List (Addr × Obj)} {σ:St} {H:Hp} {s:Shared}
theorem inD_at {l:Addr} {x:V} {vs:List V} {ds:List PyData} {d:PyData} {v:Value} {k:Nat} (hr:Room (k + 1) X.A) (I:Inv X pins σ H s) (rx:RelV x v) (hH:H l=some (.lst vs)) (hds:Reps X.K H ds vs) (hd:Rep X.K H d x) (ho:∀ e∈ds,e.canLay0=true/\e.depth<=190) (hdo:d.canLay0=true) :
  ∃ its:List Value,s.heap.IsList l its.toArray/\(∀ y,y∈its.toArray->SeqAt.EqAt X.A.in1 s y v (cntE s.heap d y))/\its.toArray.any (cntE s.heap d)=ds.any fun e=>PyData.eqv e d:=by
 obtain ⟨z,its,n,r,hl,e⟩:=I.lstM hH
 obtain ⟨bs,rb⟩:=Rep.reads I hd rx
 have hun:=hr.un
 have one:∀ {i:Nat} {y:Value},its[i]? = some y->∃ e as,ds[i]? = some e/\Reads s.heap y e as:=by
  intro i y hy
  obtain ⟨w,hw,rel⟩:=Zgd r hy
  obtain ⟨e,h1,h2⟩:=hds.at hw
  obtain ⟨as,ra⟩:=Rep.reads I h2 rel
  exact ⟨e,as,h1,ra⟩
 refine ⟨its,⟨_,e,rfl,_,rfl⟩,fun y hy=>?_,?_⟩
 ·have hy':y∈its:=by simpa using hy
  obtain ⟨i,hi⟩:=YaE.mp hy'
  obtain ⟨e1,as,h1,ra⟩:=one hi
  have hm:=ho e1 (Yn h1)
  rw [Zi1 ra]
  exact YbV e1 d _ s _ _ _ _ ra rb hm.1 hdo (by show X.A.units + 1 + _ < cLine;have:=hm.2;lia)
 ·rw [List.any_toArray]
  exact any_cnt its ds (by rw [<- r.length,hds.len]) fun i y=>one
theorem o_ninD {k:Nat} (hr:Room (k + 1) X.A):OpR X (compareOp .NotIn) (rInD true X.K):=by
 intro pins s σ H x y v u Q I rx ry h
 obtain ⟨l,vs,ds,d,rfl,hH,hds,hd,ho,hdo,q⟩:=h
 cases ry
 obtain ⟨its,h1,h2,h3⟩:=inD_at hr I rx hH hds hd ho hdo
 refine SeqAt.notIn_listAt _ h1 h2 ?_
 rw [h3]
 exact ⟨.bl _,H,I,rfl,q⟩
end
section
variable {K:YFr}
noncomputable def xInD (neg:Bool):AR2:=fun w u A Q=>match u with
 | .ref l=>∃ (xs:List U) (ds:List PyData) (d:PyData),A l=some (.lst xs)/\DUs A xs ds/\DU A w d/\(∀ e∈ds,e.canLay0=true/\e.depth<=190)/\d.canLay0=true/\Q (.bl (if neg then !ds.any (fun e=>PyData.eqv e d) else ds.any fun e=>PyData.eqv e d)) A
 | _=>False
theorem ab_inDg {neg:Bool}:AbR K (rInD neg K) (xInD neg):=fun x y u w A H Q' Q hu hw g h k=>by
 unfold xInD at h
 split at h
 ·cases hw
  obtain ⟨zs,ds,d,e,h1,h2,h3,h4,q⟩:=h
  obtain ⟨vs,hH,r1⟩:=g.list e
  exact ⟨_,vs,ds,d,rfl,hH,DUs.reps g h1 r1,DU.rep g h2 hu,h3,h4,k _ _ _ _ (.refl H) g (.bl _) q⟩
 ·exact h.elim
end
theorem wDUs {A:AHp}:∀ vs:List Wr,DUs A (vs.map Wr.toU) (vs.map Wr.toD)
 | []=>.nil
 | v::vs=>.cons v.duW (wDUs vs)
theorem inW {neg:Bool} {A:AHp} {Q:AVK} {l:Addr} {w:Wr} {vs:List Wr} (hl:A l=some (.lst (vs.map Wr.toU))) (hg:∀ v∈vs,v.gd=true) (hd:∀ v∈vs,v.dep<=95) (hw:w.gd=true) (b:Bool) (hb:b=true ↔ w∈vs) (h:Q (.bl (if neg then !b else b)) A):xInD neg w.toU (.ref l) A Q:=by
 refine ⟨_,_,_,hl,wDUs vs,w.duW,fun e he=>?_,w.can (w.gd_ok hw),?_⟩
 ·obtain ⟨v,hv,rfl⟩:=Yk.mp he
  exact ⟨v.can (v.gd_ok (hg v hv)),YE v.deep (by have:=hd v hv;lia)⟩
 ·have e:(vs.map Wr.toD).any (fun e=>PyData.eqv e w.toD)=b:=by
   rw [YaQ,hb,List.any_eq_true]
   constructor
   ·rintro ⟨e,he,q⟩
    obtain ⟨v,hv,rfl⟩:=Yk.mp he
    rw [v.eqvD] at q
    rw [<- v.like_eq w (v.gd_nrm (hg v hv)) (w.gd_nrm hw) q]
    exact hv
   ·intro hm
    exact ⟨_,List.mem_map_of_mem hm,by rw [w.eqvD];exact w.like_self (w.gd_ok hw)⟩
  rw [e];exact h
theorem Zhw {α:Type} {k:α->PyData} {d:α} {ws:List α} (hp:∀ x∈ws,ZI (k x)=true) (ok:∀ x∈ws,∀ y∈ws,okLt (k x) (k y)=true):(srtK k d false ws).Pairwise fun x y=>ltv (k y) (k x)=false:=by
 unfold srtK
 have hp':∀ x∈ws.map k,ZI x=true:=fun x hx=>by obtain ⟨w,hw,rfl⟩:=Yk.mp hx;exact hp w hw
 have ok':∀ x∈ws.map k,∀ y∈ws.map k,okLt x y=true:=fun x hx y hy=>by
  obtain ⟨w,hw,rfl⟩:=Yk.mp hx
  obtain ⟨v,hv,rfl⟩:=Yk.mp hy
  exact ok w hw v hv
 have h:=ZcX false (ws.map k) hp' ok'
 have hm:=Zcp false (ws.map k) hp' ok'
 rw [Yb] at h hm
 rw [YbM]
 refine h.imp_of_mem fun {i j} hi hj q=>?_
 rw [if_neg (by decide)] at q
 have bi:i < ws.length:=Yad.mp (hm.mem_iff.mp hi)
 have bj:j < ws.length:=Yad.mp (hm.mem_iff.mp hj)
 unfold ltD at q
 rw [Yq,Yq,Yr,Yr,Ye bi,Ye bj] at q
 rw [Yq,Yq,Ye bi,Ye bj]
 exact q
noncomputable def cntW (x:Wr) (xs:List Wr):Nat:=xs.countP fun y=>y.like x
noncomputable def ZbI:List Wr->Nat
 | []=>1
 | x::xs=>(1 + cntW x xs) * ZbI xs
noncomputable def turnsN (qs:List Wr):Nat:=max ((List.range qs.length).countP fun r=>ZaK (turnL qs r) qs) 1
noncomputable def gath (k:Nat) (qs:List Wr):Nat:=if k=1\/k=2 then ZbI qs else if k=0 then 1 else turnsN qs
mutual
noncomputable def Wr.ways:Wr->Nat
 | .nothing=>1
 | .bead _=>1
 | .side _ f=>f.ways * 1
 | .pair f g=>f.ways * (g.ways * 1)
 | .many k ps=>ZaQ ps * gath k ps
noncomputable def ZaQ:List Wr->Nat
 | []=>1
 | w::ws=>w.ways * ZaQ ws
end
theorem Zfq:∀ (ws us:List Wr),ZaQ (ws++us)=ZaQ ws * ZaQ us
 | [],us=>by simp [ZaQ]
 | w::ws,us=>by simp only [List.cons_append,ZaQ,Zfq ws us,Nat.mul_assoc]
theorem ZhI {ps qs:List Wr} (p:ps.Perm qs):ZaQ ps=ZaQ qs:=by
 induction p with
 | nil=>rfl
 | cons x _ ih=>simp only [ZaQ,ih]
 | swap x y l=>simp only [ZaQ];rw [<- Nat.mul_assoc,Nat.mul_comm y.ways,Nat.mul_assoc]
 | trans _ _ i1 i2=>rw [i1,i2]
theorem Zfr {x:Wr} {ps qs:List Wr} (p:ps.Perm qs):cntW x ps=cntW x qs:=p.countP_eq _
theorem Zcq {w v:Wr} (h1:w.gd=true) (h2:v.gd=true):w.like v=true ↔ w=v :=
 ⟨w.like_eq v (w.gd_nrm h1) (v.gd_nrm h2),fun e=>by subst e;exact w.like_self (w.gd_ok h1)⟩
theorem Zch {ws vs:List Wr} (h1:gdL ws=true) (h2:gdL vs=true):ZaK ws vs=true ↔ ws=vs:=by
 constructor
 ·exact Zeh ws vs (Zcb ws h1) (Zcb vs h2)
 ·rintro rfl
  clear h2
  induction ws with
  | nil=>rfl
  | cons w ws ih =>
   simp only [gdL,Yc] at h1
   simp only [ZaK,Yc]
   exact ⟨w.like_self (w.gd_ok h1.1),ih h1.2⟩
theorem ZbY {ps qs:List Wr} (p:ps.Perm qs):gdL ps=true->ZbI ps=ZbI qs:=by
 induction p with
 | nil=>intro _;rfl
 | cons x p ih =>
  intro h
  simp only [gdL,Yc] at h
  simp only [ZbI,ih h.2,Zfr p]
 | swap x y l =>
  intro h
  simp only [gdL,Yc] at h
  simp only [ZbI]
  by_cases e:x=y
  ·rw [e]
  ·have h1:cntW y (x::l)=cntW y l:=by unfold cntW;rw [List.countP_cons,if_neg (fun z=>e ((Zcq h.2.1 h.1).mp z)),Nat.add_zero]
   have h2:cntW x (y::l)=cntW x l:=by unfold cntW;rw [List.countP_cons,if_neg (fun z=>e ((Zcq h.1 h.2.1).mp z).symm),Nat.add_zero]
   rw [h1,h2,<- Nat.mul_assoc,Nat.mul_comm (1 + cntW y l),Nat.mul_assoc]
 | trans p1 _ i1 i2 =>
  intro h
  rw [i1 h,i2 (Zba p1 h)]
theorem Zjd {α:Type} {ps qs:List α} {r:Nat} (hl:ps.length=qs.length) (e:turnL ps r=turnL qs r):ps=qs:=by
 unfold turnL at e
 obtain ⟨e1,e2⟩:=List.append_inj e (by rw [YR,YR,hl])
 rw [<- Yas r ps,<- Yas r qs,e1,e2]
theorem Ze5 {α:Type} (qs:List α) {r i:Nat} (hr:r < qs.length) (hi:i < qs.length):turnL (turnL qs r) i=turnL (turnL qs i) r:=by
 rw [ZaY qs hr hi,ZaY qs hi hr,Nat.add_comm]
theorem ZfC {qs:List Wr} {r:Nat} (hg:gdL qs=true) (hr:r < qs.length):turnsN (turnL qs r)=turnsN qs:=by
 unfold turnsN
 rw [Z6]
 congr 1
 apply List.countP_congr
 intro i hi
 have hi:=Yad.mp hi
 have g1:=Zba (ZN qs r).symm hg
 have g2:=Zba (ZN (turnL qs r) i).symm g1
 have g3:=Zba (ZN qs i).symm hg
 rw [Zch g2 g1,Zch g3 hg]
 constructor
 ·intro e
  rw [Ze5 qs hr hi] at e
  exact Zjd (Z6 qs i) e
 ·intro e
  rw [Ze5 qs hr hi,e]
theorem ZeY {qs:List Wr} (h:0 < qs.length):∃ r,r < qs.length/\Za5 Wr.keyD qs=turnL qs r:=by
 have:=Zbq (lt:=fun i j=>ltv (kdL Wr.keyD (turnL qs i)) (kdL Wr.keyD (turnL qs j))) (qs.length - 1)
 have c:bestT Wr.keyD qs<=qs.length - 1:=this
 exact ⟨bestT Wr.keyD qs,by lia,rfl⟩
theorem gath_arr {k:Nat} {qs:List Wr} (hg:gdL qs=true):gath k (arr k qs)=gath k qs:=by
 have p:=Zas k qs
 unfold gath
 by_cases c:k=1\/k=2
 ·rw [if_pos c,if_pos c];exact (ZbY p.symm hg).symm
 ·rw [if_neg c,if_neg c]
  by_cases c0:k=0
  ·rw [if_pos c0,if_pos c0]
  ·rw [if_neg c0,if_neg c0]
   unfold arr
   rw [if_neg c,if_neg c0]
   by_cases h0:0 < qs.length
   ·obtain ⟨r,hr,e⟩:=ZeY h0
    rw [e];exact ZfC hg hr
   ·have:qs=[]:=Y6.mp (by lia)
    subst this;rfl
theorem ZgM {k:Nat} {ps:List Wr} (hg:gdL ps=true):(Wr.many k ps).pl.ways=ZaQ (plnL ps) * gath k (plnL ps):=by
 simp only [Wr.pl,Wr.ways]
 rw [ZhI (Zas k (plnL ps)),gath_arr (Zb7 ps hg)]
theorem Zje (x:Wr) (xs:List Wr):cntW x xs<=xs.length:=List.countP_le_length
theorem Zeb:∀ (qs:List Wr),qs.length < 64->ZbI qs<=64 ^ qs.length
 | [],_=>by simp [ZbI]
 | x :: xs,h=>by
  simp only [List.length_cons] at h
  have h1:=Zje x xs
  have h2:=Zeb xs (by lia)
  simp only [ZbI,List.length_cons,Nat.pow_succ]
  rw [Nat.mul_comm]
  exact Ybh h2 (by lia)
theorem Zfl {qs:List Wr} (h:qs.length < 64):turnsN qs<=64:=by
 unfold turnsN
 have:((List.range qs.length).countP fun r=>ZaK (turnL qs r) qs)<=(List.range qs.length).length:=List.countP_le_length
 rw [Yab] at this
 lia
theorem gath_le {k:Nat} {qs:List Wr} (h:qs.length < 64):gath k qs<=64 ^ qs.length:=by
 have p1:1<=64 ^ qs.length:=Nat.pos_of_ne_zero (by simp)
 unfold gath
 split
 ·exact Zeb qs h
 ·split
  ·exact p1
  ·cases qs with
   | nil=>simp [turnsN]
   | cons x xs =>
    refine YE (Zfl h) ?_
    simp only [List.length_cons,Nat.pow_succ]
    have:1<=64 ^ xs.length:=Nat.pos_of_ne_zero (by simp)
    lia
mutual
theorem Wr.ways_le:∀ w:Wr,w.gd=true->w.ways * 64<=64 ^ w.tups
 | .nothing,_=>by simp [Wr.ways,Wr.tups]
 | .bead _,_=>by simp [Wr.ways,Wr.tups]
 | .side _ f,h=>by
  have:=f.ways_le h
  simp only [Wr.ways,Wr.tups,Nat.mul_one,Nat.add_comm 1,Nat.pow_succ]
  lia
 | .pair f g,h=>by
  simp only [Wr.gd,Yc] at h
  have h1:=f.ways_le h.1
  have h2:=g.ways_le h.2
  simp only [Wr.ways,Wr.tups,Nat.mul_one,Nat.add_comm 1,Nat.pow_succ,Nat.pow_add,Nat.add_zero]
  have h3:=Ybh h1 h2
  have e:f.ways * 64 * (g.ways * 64)=f.ways * g.ways * 64 * 64:=by
   rw [Nat.mul_assoc,Nat.mul_left_comm 64,Nat.mul_assoc,Nat.mul_assoc]
  rw [e] at h3
  have:f.ways * g.ways * 64<=f.ways * g.ways * 64 * 64:=Nat.le_mul_of_pos_right _ (by decide)
  refine YE this (YE h3 ?_)
  exact Nat.le_mul_of_pos_right _ (by decide)
 | .many k ps,h=>by
  simp only [Wr.gd,Yc,YC] at h
  have h1:=Zd5 ps h.2
  have h2:=gath_le (k:=k) h.1.2
  simp only [Wr.ways,Wr.tups,Nat.add_comm 1,Nat.pow_succ]
  exact Nat.mul_le_mul_right 64 (YE (Nat.mul_le_mul_left _ h2) h1)
theorem Zd5:∀ ws:List Wr,gdL ws=true->ZaQ ws * 64 ^ ws.length<=64 ^ Zp ws
 | [],_=>by simp [ZaQ,Zp]
 | w :: ws,h=>by
  simp only [gdL,Yc] at h
  have h1:=w.ways_le h.1
  have h2:=Zd5 ws h.2
  simp only [ZaQ,Zp,List.length_cons,Nat.pow_succ,Nat.pow_add]
  have h3:=Ybh h1 h2
  have e:w.ways * 64 * (ZaQ ws * 64 ^ ws.length)=w.ways * ZaQ ws * (64 ^ ws.length * 64):=by
   rw [Nat.mul_assoc,Nat.mul_assoc,Nat.mul_left_comm 64,Nat.mul_comm 64]
  rw [e] at h3
  exact h3
end
theorem pow64 {n:Nat} (h:n<=200):64 ^ n<=2 ^ 1200:=by
 rw [show (64:Nat)=2 ^ 6 from rfl,<- Nat.pow_mul]
 exact Nat.pow_le_pow_right (by decide) (by lia)
theorem ZdJ {w:Wr} (hg:w.gd=true) (ht:w.tups<=200):w.ways<=2 ^ 1200:=by
 have:=w.ways_le hg
 have:=pow64 ht
 lia
theorem Zfx {ws:List Wr} (hg:gdL ws=true) (ht:Zp ws<=200):ZaQ ws<=2 ^ 1200:=by
 have h1:=Zd5 ws hg
 have h2:=pow64 ht
 have h3:ZaQ ws<=ZaQ ws * 64 ^ ws.length:=Nat.le_mul_of_pos_right _ (Nat.pos_of_ne_zero (by simp))
 lia
theorem ZfS {ws:List Wr} (h:ws.length < 64):ZbI ws<=2 ^ 1200:=YE (Zeb ws h) (pow64 (by lia))
theorem ZcS {a b:Nat} (ha:a<=2 ^ 1200) (hb:b<=2 ^ 1200):IntMulOk (a:Int) (b:Int):=by
 refine mul_ok (m:=1201) (n:=1201) ?_ ?_ (by decide)
 ·rw [Int.natAbs_natCast];exact Ybc ha (Nat.pow_lt_pow_right (by decide) (by decide))
 ·rw [Int.natAbs_natCast];exact Ybc hb (Nat.pow_lt_pow_right (by decide) (by decide))
theorem cnt_next {L:List Wr} (hg:gdL L=true) (hs:L.Pairwise fun x y=>ltv y.keyD x.keyD=false) {j:Nat} {x y:Wr} (hx:L[j]? = some x) (hy:L[j + 1]? = some y) :
  cntW y (L.take (j + 1))=if y.like x=true then cntW x (L.take j) + 1 else 0:=by
 obtain ⟨hj,ex⟩:=Yp.mp hx
 obtain ⟨hj1,ey⟩:=Yp.mp hy
 have gx:=ZaW hg (Yn hx)
 have gy:=ZaW hg (Yn hy)
 by_cases e:y=x
 ·subst e
  rw [if_pos (y.like_self (y.gd_ok gy)),YaK,hx]
  unfold cntW
  rw [List.countP_append]
  simp [y.like_self (y.gd_ok gy)]
 ·rw [if_neg (fun z=>e ((Zcq gy gx).mp z))]
  unfold cntW
  rw [List.countP_eq_zero]
  intro z hz
  obtain ⟨i,hi⟩:=YaE.mp hz
  rw [List.getElem?_take] at hi
  split at hi
  ·rename_i hlt
   have gz:=ZaW hg (Yn hi)
   intro ez
   have ez:=(Zcq gz gy).mp ez
   subst ez
   obtain ⟨hi1,ez⟩:=Yp.mp hi
   rw [List.pairwise_iff_getElem] at hs
   have s1:=hs j (j + 1) hj hj1 (by lia)
   rw [ex,ey] at s1
   by_cases hij:i=j
   ·subst hij;rw [hx] at hi;cases hi;exact e rfl
   ·have s2:=hs i j hi1 hj (by lia)
    rw [ez,ex] at s2
    rcases lt_conn x.plainK z.plainK (x.okK z) with q | q | q
    ·rw [q] at s2;cases s2
    ·exact e (z.key_inj x (z.gd_nrm gz) (x.gd_nrm gx) q.symm)
    ·rw [q] at s1;cases s1
  ·cases hi
theorem Zht {L:List Wr} {j:Nat} {y:Wr} (hy:L[j]? = some y):ZbI (L.take (j + 1)).reverse=(1 + cntW y (L.take j)) * ZbI (L.take j).reverse:=by
 rw [YaK,hy]
 simp only [Option.toList,Ycu,Yam,List.reverse_nil,List.nil_append,List.singleton_append,ZbI]
 rw [Zfr (YaL (L.take j))]
theorem cl_invF {J:AIt} {tt:AT} {te:AE} {l:Addr} {Q:AVK} {x0:Option U} {fr:ASt} {A:AHp} (items:List U) (Pv:Nat->List U->AHp->Prop) (h0:Pv 0 [] A) (hn:items.length<=100000) (hl:∀ k ys A2,Pv k ys A2->ys.length<=k) (hJ:∀ k ys A2,k<=items.length->Pv k ys A2->J k A2 items[k]?)
  (hs:∀ k u ys A2,items[k]? = some u->Pv k ys A2->∀ (Cy:AVK) (Cn:AHp->Prop),(∀ y A3,A3 l=some (.lst ys)->Pv (k + 1) (ys++[y]) (updA A3 l (.lst (ys++[y])))->Cy y A3)->(∀ A3,Pv (k + 1) ys A3->Cn A3)->tt (some u::fr) A2 fun ok A3=>if ok=true then te (some u::fr) A3 Cy else Cn A3)
  (hd:∀ ys A2,Pv items.length ys A2->Q (.ref l) A2):aCL J (ZbH 0) tt te l Q (x0::fr) A:=by
 refine ⟨fun i m τ A2=>m=items.length - i/\i<=items.length/\(∃ x,τ=x::fr)/\∃ ys,Pv i ys A2,⟨_,rfl,YX _,⟨_,rfl⟩,_,h0⟩,?_⟩
 rintro i m τ A2 ⟨rfl,hi,⟨x,rfl⟩,ys,hp⟩
 have j:=hJ i ys A2 hi hp
 by_cases hlt:i < items.length
 ·have hu:items[i]? = some items[i]:=Ye hlt
  rw [hu] at j
  refine .inr ⟨_,j,?_⟩
  rw [q_nm0]
  exact hs i _ ys A2 hu hp _ _ (fun y A3 h1 h2=>⟨ys,h1,Zbc (by have:=hl i ys A2 hp;lia),items.length - (i + 1),by lia,rfl,hlt,⟨_,rfl⟩,_,h2⟩) fun A3 h2=>⟨items.length - (i + 1),by lia,rfl,hlt,⟨_,rfl⟩,_,h2⟩
 ·have e:i=items.length:=by lia
  subst e
  rw [YT (Yg _)] at j
  exact .inl ⟨j,hd ys A2 hp⟩
theorem fix_all {m:Nat} {l l1:Addr} {A:AHp} {xs:List U} {qs:List Wr} {f:Wr->U} {g:Wr->PyData} {Q:AVK} {x0:Option U} (hx:xs=qs.map f) (hdu:∀ (A':AHp) (vs:List Wr),DUs A' (vs.map f) (vs.map g)) (hcan:∀ vs:List Wr,gdL vs=true->depL vs<=m->(PyData.list (vs.map g)).canLay0=true/\(PyData.list (vs.map g)).depth<=190)
  (heq:∀ vs us:List Wr,PyData.eqv (.list (vs.map g)) (.list (us.map g))=ZaK vs us) (hg:gdL qs=true) (hd:depL qs<=m)
  (a0:A l=some (.lst xs)) (hl:A l1=none) (hn:qs.length<=1000)
  (hcutF:∀ k:Nat,k<=xs.length->cutU xs (some (k:Int)) none=xs.drop k) (hcutT:∀ k:Nat,k<=xs.length->cutU xs none (some (k:Int))=xs.take k)
  (hq:∀ (ys:List U) (A2:AHp),ys.length=((List.range qs.length).countP fun r=>ZaK (turnL qs r) qs)->Ext A A2->A2 l1=some (.lst ys)->Q (.ref l1) A2) :
  aCL (jFix (rngU 0 qs.length)) (ZbH 0) (aB (aOp xEq (aOp xAdd (aSl xSl (aVar 1) (Zhr (aVar 0)) Zcv) (aSl xSl (aVar 1) Zcv (Zhr (aVar 0)))) (aVar 1))) (aVar 0) l1 Q [x0,some (.ref l)] (updA A l1 (.lst [])):=by
 subst hx
 have hne:l≠l1:=neA a0 hl
 refine cl_invF (rngU 0 qs.length) (fun k ys A2=>ys.length=((List.range k).countP fun r=>ZaK (turnL qs r) qs)/\Ext A A2/\A2 l1=some (.lst ys)) ⟨rfl,Ext.new hl,Zd⟩ (by rw [rngU_len];lia) ?_ (fun _ _ _ _ _=>rfl) ?_ ?_
 ·rintro k ys A2 ⟨h,_⟩
  have:((List.range k).countP fun r=>ZaK (turnL qs r) qs)<=(List.range k).length:=List.countP_le_length
  rw [Yab] at this
  lia
 ·rintro k u ys A2 hu ⟨hk,e,a1⟩ Cy Cn hC hN
  rw [ZbD] at hu
  by_cases hlt:k < qs.length
  ·rw [if_pos hlt] at hu
   cases hu
   have ek:(0:Int) + (k:Int)=(k:Int):=by lia
   rw [ek]
   have a2:=e _ _ a0
   show aOp xEq _ _ _ _ _
   simp only [↓q_op,↓q_sl,↓q_part,↓Zg5,↓ZgN,↓ZjC,↓q_slr,↓q_int]
   refine ⟨_,a2,fun p1 hp1=>⟨_,by rw [Zm (neA a2 hp1)];exact a2,fun p2 hp2=>?_⟩⟩
   rw [hcutF k (by rw [Yb];lia)] at hp2 ⊢
   rw [hcutT k (by rw [Yb];lia)]
   have n12:p1≠p2:=neA Zd hp2
   rw [q_addr]
   refine ⟨_,_,by rw [Zm n12,Zd],Zd,Zr (by simp;lia),fun p3 hp3=>?_⟩
   have et:(qs.map f).drop k++(qs.map f).take k=(turnL qs k).map f:=by unfold turnL;rw [Ym,Yaf,Y5]
   rw [et]
   have e1:=(Ext.new (o:=.lst ((qs.map f).drop k)) hp1).trans ((Ext.new (o:=.lst ((qs.map f).take k)) hp2).trans (Ext.new (o:=.lst ((turnL qs k).map f)) hp3))
   have a3:(updA (updA (updA A2 p1 (.lst ((qs.map f).drop k))) p2 (.lst ((qs.map f).take k))) p3 (.lst ((turnL qs k).map f))) p3=some (.lst ((turnL qs k).map f)):=Zd
   generalize (updA (updA (updA A2 p1 (.lst ((qs.map f).drop k))) p2 (.lst ((qs.map f).take k))) p3 (.lst ((turnL qs k).map f)))=A3 at e1 a3 ⊢
   have gt:=Zba (ZN qs k).symm hg
   have dt:depL (turnL qs k)<=m:=by rw [Zcn (ZN qs k)];exact hd
   rw [q_eqr]
   refine ⟨.list ((turnL qs k).map g),.list (qs.map g),.lst a3 (hdu _ _),.lst (e1 _ _ a2) (hdu _ _),(hcan _ gt dt).1,(hcan _ hg hd).1,(hcan _ gt dt).2,?_⟩
   rw [if_neg (by decide),heq]
   refine ⟨_,rfl,?_⟩
   have hcp:((List.range (k + 1)).countP fun r=>ZaK (turnL qs r) qs)=((List.range k).countP fun r=>ZaK (turnL qs r) qs) + if ZaK (turnL qs k) qs=true then 1 else 0:=by
    rw [List.range_succ,List.countP_append,List.countP_cons,List.countP_nil,Nat.zero_add]
   refine iteB (fun hb=>?_) fun hb=>?_
   ·refine hC _ _ (e1 _ _ a1) ⟨by rw [Yh,hcp,if_pos hb,hk];rfl,fun b o hbo=>?_,Zd⟩
    rw [Zm (neA hbo hl)];exact e1 _ _ (e _ _ hbo)
   ·exact hN _ ⟨by rw [hcp,if_neg (by rw [hb];decide),hk];rfl,e.trans e1,e1 _ _ a1⟩
  ·rw [if_neg hlt] at hu;cases hu
 ·rintro ys A2 ⟨hk,e,a1⟩
  rw [rngU_len] at hk
  exact hq ys A2 hk e a1
section
variable {α:Type} [DecidableEq α]
variable {r:α->α->Prop} {stp:α->List α} {w x o:α} {all d ini:List α} {s:List α × List α}
theorem ZcR:∀ {l m:List α},l.Nodup->(∀ y∈l,y∈m)->l.length<=m.length
 | [],m,_,_=>YX _
 | a :: l,m,nd,h=>by
  rw [YQ] at nd
  have ha:a∈m:=h a (YG ..)
  have:=ZcR (m:=m.erase a) nd.2 fun y hy=>(List.mem_erase_of_ne (fun e=>nd.1 (by rw [<- e];exact hy))).mpr (h y (YF _ hy))
  rw [List.length_erase_of_mem ha] at this
  have:0 < m.length:=List.length_pos_of_mem ha
  simp only [List.length_cons];lia
noncomputable def left (all:List α) (s:List α × List α):Nat:=2 * (all.length - s.2.length) + s.1.length
end
theorem ZcC {α:Type} (ps:List α):turnL ps 0=ps:=by simp [turnL]
section
variable {α:Type}
noncomputable def ins (x:α):List α->List (List α)
 | []=>[[x]]
 | y::l=>(x::y::l)::(ins x l).map (y::·)
noncomputable def Zad:List α->List (List α)
 | []=>[[]]
 | x::l=>(Zad l).flatMap (ins x)
theorem Zdd (x:α):∀ l:List α,(ins x l).length=l.length + 1
 | []=>rfl
 | y::l=>by simp [ins,Zdd x l]
theorem ZfD (x:α):∀ p s:List α,p++x::s∈ins x (p++s)
 | [],[]=>by simp [ins]
 | [],y::s=>by simp [ins]
 | y :: p,s=>by
  simp only [List.cons_append,ins]
  exact YF _ (Yk.mpr ⟨_,ZfD x p s,rfl⟩)
theorem Zgi {x:α}:∀ {l m:List α},m∈ins x l->m.Perm (x::l)
 | [],m,h=>by simp [ins] at h;rw [h]
 | y :: l,m,h=>by
  simp only [ins,Yt,Yk] at h
  rcases h with h | ⟨k,hk,h⟩
  ·rw [h]
  ·rw [<- h];exact ((Zgi hk).cons y).trans (.swap x y l)
theorem Zdx:∀ {l m:List α},m.Perm l->m∈Zad l
 | [],m,h=>by rw [h.eq_nil];simp [Zad]
 | x :: l,m,h=>by
  obtain ⟨p,s,rfl⟩:=List.append_of_mem (h.mem_iff.mpr (YG ..))
  have q:(p++s).Perm l:=by
   have:=(YcW (a:=x) (l₁:=p) (l₂:=s)).symm.trans h
   exact this.cons_inv
  simp only [Zad,List.mem_flatMap]
  exact ⟨_,Zdx q,ZfD x p s⟩
theorem Zat:∀ {l m:List α},m∈Zad l->m.Perm l
 | [],m,h=>by simp [Zad] at h;rw [h]
 | x :: l,m,h=>by
  simp only [Zad,List.mem_flatMap] at h
  obtain ⟨k,hk,h⟩:=h
  exact (Zgi h).trans ((Zat hk).cons x)
noncomputable def fct:Nat->Nat
 | 0=>1
 | n + 1=>(n + 1) * fct n
theorem ZcQ {β:Type} (f:α->List β) (c:Nat):∀ l:List α,(∀ x∈l,(f x).length=c)->(l.flatMap f).length=l.length * c
 | [],_=>by simp
 | x :: l,h=>by
  rw [List.flatMap_cons,Yh,ZcQ f c l fun y hy=>h y (YF _ hy),h x (YG ..),List.length_cons,Nat.succ_mul,Nat.add_comm]
theorem ZbL:∀ l:List α,(Zad l).length=fct l.length
 | []=>rfl
 | x :: l=>by
  rw [Zad,ZcQ (ins x) (l.length + 1) (Zad l) fun m hm=>by rw [Zdd,(Zat hm).length_eq],ZbL l,List.length_cons,fct,Nat.mul_comm]
end
theorem fct_mul (a b:Nat):fct a * fct b<=fct (a + b):=by
 induction a with
 | zero=>simp [fct]
 | succ a ih =>
  rw [Nat.succ_add,fct,fct,Nat.mul_assoc]
  exact Ybh (by lia) ih
theorem Zf0:∀ n,1<=fct n
 | 0=>Yg _
 | n + 1=>Nat.mul_pos (Nat.succ_pos n) (Zf0 n)
theorem Zcj {a b:Nat} (h:a<=b):fct a<=fct b:=by
 obtain ⟨c,rfl⟩:=Nat.exists_eq_add_of_le h
 have:=fct_mul a c
 exact YE (Nat.le_mul_of_pos_right _ (Zf0 c)) this
noncomputable section
end
noncomputable section
theorem cut_int (ms:List Int) (i j:Nat):∃ zs:List Int,cutU (ms.map U.int) (some (i:Int)) (some (j:Int))=zs.map U.int/\zs.length<=j - i:=by
 unfold cutU
 rw [HT.sIx_nat,HT.sIx_nat]
 refine ⟨(ms.drop (min i (ms.map U.int).length)).take (min j (ms.map U.int).length - min i (ms.map U.int).length),by rw [Y5,Yaf],?_⟩
 rw [YJ]
 lia
end
noncomputable section
theorem ZiM {α:Type} {qs:List α} {b:Nat} (h:b < qs.length):turnL (turnL qs b) ((qs.length - b) % qs.length)=qs:=by
 rw [ZaY qs h (Ybg _ (by lia))]
 have:(b + (qs.length - b) % qs.length) % qs.length=0:=by
  rw [Nat.add_mod_mod,show b + (qs.length - b)=qs.length by lia,Nat.mod_self]
 rw [this,ZcC]
theorem turn_of {α:Type} {ps qs:List α} {a b:Nat} (h:turnL ps a=turnL qs b) (ha:a<=ps.length - 1) (hb:b<=qs.length - 1):∃ t,(t < ps.length\/t=0)/\turnL ps t=qs:=by
 have hl:ps.length=qs.length:=by rw [<- Z6 ps a,h,Z6]
 by_cases c:ps.length=0
 ·refine ⟨0,.inr rfl,?_⟩
  rw [ZcC,Y6.mp c]
  rw [hl] at c
  exact (Y6.mp c).symm
 ·have e:=ZiM (qs:=qs) (b:=b) (by lia)
  rw [<- h,ZaY ps (by lia) (by rw [hl];exact Ybg _ (by lia))] at e
  exact ⟨_,.inl (Ybg _ (by lia)),e⟩
noncomputable def Alt {α:Type} (k:Nat) (ps qs:List α):Prop:=if k=1\/k=2 then ps.Perm qs else if k=0 then ps=qs else ∃ t,(t < ps.length\/t=0)/\turnL ps t=qs
theorem ZiY {k:Nat} {ps qs:List Wr} (h:arr k ps=arr k qs):Alt k ps qs:=by
 unfold Alt
 by_cases c:k=1\/k=2
 ·rw [if_pos c];exact (Zas k ps).symm.trans ((List.Perm.of_eq h).trans (Zas k qs))
 ·rw [if_neg c]
  unfold arr at h
  rw [if_neg c,if_neg c] at h
  by_cases c0:k=0
  ·rw [if_pos c0] at h ⊢
   rw [if_pos c0] at h;exact h
  ·rw [if_neg c0,if_neg c0] at h
   rw [if_neg c0]
   exact turn_of h (Zbq _) (Zbq _)
end
section
variable {α β:Type}
theorem Zco {x:α}:∀ {l m:List α},m∈ins x l ↔ ∃ p s,l=p++s/\m=p++x::s
 | [], m=>by
  constructor
  ·intro h;simp [ins] at h;exact ⟨[],[],rfl,h⟩
  ·rintro ⟨p,s,e,rfl⟩
   obtain ⟨rfl,rfl⟩:=List.append_eq_nil_iff.mp e.symm
   simp [ins]
 | y :: l,m=>by
  constructor
  ·intro h
   simp only [ins,Yt,Yk] at h
   rcases h with h | ⟨k,hk,h⟩
   ·exact ⟨[],y::l,rfl,h⟩
   ·obtain ⟨p,s,rfl,rfl⟩:=Zco.mp hk
    exact ⟨y::p,s,rfl,h.symm⟩
  ·rintro ⟨p,s,e,rfl⟩
   rw [e]
   exact ZfD x p s
theorem ZdQ {f:α->β} (hf:∀ a b,f a=f b->a=b):∀ {l:List α},l.Nodup->(l.map f).Nodup
 | [],_=>by simp
 | a :: l,h=>by
  rw [YQ] at h
  rw [Yu,YQ]
  refine ⟨fun hm=>?_,ZdQ hf h.2⟩
  obtain ⟨b,hb,e⟩:=Yk.mp hm
  exact h.1 (by rw [hf _ _ e.symm];exact hb)
theorem ZeO {x:α}:∀ {l:List α},x ∉ l->(ins x l).Nodup
 | [],_=>by simp [ins]
 | y :: l,h=>by
  simp only [Yt,not_or] at h
  rw [ins,YQ]
  refine ⟨fun hm=>?_,ZdQ (fun a b e=>by simpa using e) (ZeO h.2)⟩
  obtain ⟨k,_,e⟩:=Yk.mp hm
  exact h.1 (by injection e with e1 _;exact e1.symm)
theorem Zgh [DecidableEq α] {x:α} {l m:List α} (hx:x ∉ l) (h:m∈ins x l):m.erase x=l:=by
 obtain ⟨p,s,rfl,rfl⟩:=Zco.mp h
 rw [YK,not_or] at hx
 rw [List.erase_append_right _ hx.1,List.erase_cons_head]
theorem Zbw {f:α->List β}:∀ {l:List α},l.Nodup->(∀ x∈l,(f x).Nodup)->(∀ x∈l,∀ y∈l,∀ z,z∈f x->z∈f y->x=y)->(l.flatMap f).Nodup
 | [],_,_,_=>by simp
 | a :: l,nd,h1,h2=>by
  rw [YQ] at nd
  rw [List.flatMap_cons,List.nodup_append]
  refine ⟨h1 a YG,Zbw nd.2 (fun x hx=>h1 x (YF _ hx)) fun x hx y hy=>h2 x (YF _ hx) y (YF _ hy),fun z hz w hw e=>?_⟩
  subst e
  obtain ⟨y,hy,hz2⟩:=List.mem_flatMap.mp hw
  have:=h2 a YG y (YF _ hy) z hz hz2
  subst this
  exact nd.1 hy
theorem Zb4 [DecidableEq α]:∀ {l:List α},l.Nodup->(Zad l).Nodup
 | [],_=>by simp [Zad]
 | x :: l,h=>by
  rw [YQ] at h
  have nx:∀ m∈Zad l,x ∉ m:=fun m hm hx=>h.1 ((Zat hm).mem_iff.mp hx)
  exact Zbw (Zb4 h.2) (fun m hm=>ZeO (nx m hm)) fun m hm m' hm' z hz hz'=>by rw [<- Zgh (nx m hm) hz,Zgh (nx m' hm') hz']
theorem Zff (f:α->β) (x:α):∀ l:List α,(ins x l).map (List.map f)=ins (f x) (l.map f)
 | []=>rfl
 | y :: l=>by
  simp only [ins,Yu,YO]
  rw [<- Zff f x l,YO]
  rfl
theorem Zc4 (f:α->β):∀ l:List α,(Zad l).map (List.map f)=Zad (l.map f)
 | []=>rfl
 | x :: l=>by
  rw [Zad,Yu,Zad,<- Zc4 f l,List.flatMap_map,List.map_flatMap]
  congr 1
  funext m
  exact Zff f x m
theorem Zg2 (p:β->Bool) (f:α->List β):∀ l:List α,(l.flatMap f).countP p=(l.map fun x=>(f x).countP p).sum
 | []=>rfl
 | a::l=>by rw [List.flatMap_cons,List.countP_append,Zg2 p f l];rfl
noncomputable def outs [DecidableEq α] (x:α):List α->List (List α)
 | []=>[]
 | y::ys=>(if y=x then [ys] else [])++(outs x ys).map (y::·)
theorem Zgv [DecidableEq α] (x:α):∀ ys:List α,(outs x ys).length=ys.countP fun y=>decide (y=x)
 | []=>rfl
 | y :: ys=>by
  rw [outs,Yh,Yb,Zgv x ys,List.countP_cons]
  by_cases h:y=x
  ·simp [h];lia
  ·simp [h]
theorem Ze4 [DecidableEq α] {x:α}:∀ {ys m:List α},m∈outs x ys->ys.Perm (x::m)
 | [],m,h=>by cases h
 | y :: ys,m,h=>by
  rw [outs,YK] at h
  rcases h with h | h
  ·by_cases e:y=x
   ·rw [if_pos e] at h
    rw [Yv.mp h,e]
   ·rw [if_neg e] at h;cases h
  ·obtain ⟨k,hk,rfl⟩:=Yk.mp h
   exact ((Ze4 hk).cons y).trans (.swap x y k)
theorem ZgY [DecidableEq α] (x:α):∀ (m ys:List α),(ins x m).countP (fun z=>decide (z=ys))=(outs x ys).countP fun z=>decide (z=m)
 | [],[]=>by simp [ins,outs]
 | [], y::ys=>by
  simp only [ins,outs,List.countP_cons,List.countP_nil,List.countP_append,List.countP_map]
  have h0:(outs x ys).countP ((fun z=>decide (z=[])) ∘ fun z=>y::z)=0:=List.countP_eq_zero.mpr fun z _=>by simp
  rw [h0]
  by_cases e:y=x
  ·subst e
   cases ys with
   | nil=>simp
   | cons a b=>simp
  ·have:¬ ([x]=y::ys):=fun h=>e (by injection h with h1 _;exact h1.symm)
   simp [e,this]
 | a :: m,[]=>by
  simp only [ins,outs,List.countP_cons,List.countP_nil,List.countP_map]
  have h0:(ins x m).countP ((fun z=>decide (z=[])) ∘ fun z=>a::z)=0:=List.countP_eq_zero.mpr fun z _=>by simp
  rw [h0]
  simp
 | a :: m, y::ys=>by
  simp only [ins,outs,List.countP_cons,List.countP_append,List.countP_map]
  by_cases hay:a=y
  ·subst hay
   have e1:(ins x m).countP ((fun z=>decide (z=a::ys)) ∘ fun z=>a::z)=(ins x m).countP fun z=>decide (z=ys):=by congr 1;funext z;simp
   have e2:(outs x ys).countP ((fun z=>decide (z=a::m)) ∘ fun z=>a::z)=(outs x ys).countP fun z=>decide (z=m):=by congr 1;funext z;simp
   rw [e1,e2,ZgY x m ys]
   by_cases h:a=x
   ·subst h
    by_cases h2:a::m=ys
    ·simp [h2];lia
    ·have:¬ ys=a::m:=fun q=>h2 q.symm
     simp [h2,this]
   ·have:¬ (x::a::m=a::ys):=fun q=>h (by injection q with q1 _;exact q1.symm)
    simp [h,this]
  ·have e1:(ins x m).countP ((fun z=>decide (z=y::ys)) ∘ fun z=>a::z)=0:=List.countP_eq_zero.mpr fun z _=>by simp [hay]
   have e2:(outs x ys).countP ((fun z=>decide (z=a::m)) ∘ fun z=>y::z)=0:=List.countP_eq_zero.mpr fun z _=>by simp [Ne.symm hay]
   rw [e1,e2]
   by_cases h:y=x
   ·subst h
    by_cases h2:a::m=ys
    ·simp [h2]
    ·have:¬ ys=a::m:=fun q=>h2 q.symm
     simp [h2,this]
   ·have:¬ (x::a::m=y::ys):=fun q=>h (by injection q with q1 _;exact q1.symm)
    simp [h,this]
theorem ZgJ [DecidableEq α] (a:α) (L:List α):∀ M:List α,(M.countP fun z=>decide (z=a)) + (M.map fun z=>L.countP fun m=>decide (m=z)).sum=(M.map fun z=>(a::L).countP fun m=>decide (m=z)).sum
 | []=>rfl
 | b :: M=>by
  have ih:=ZgJ a L M
  simp only [Yu,List.sum_cons,List.countP_cons] at ih ⊢
  by_cases h:b=a
  ·subst h;simp only [decide_true,if_true];lia
  ·have h2:¬ a=b:=fun q=>h q.symm
   simp only [h,h2,decide_false,Yah,YaH];lia
theorem Zg0 [DecidableEq α] (M:List α):∀ L:List α,(L.map fun m=>M.countP fun z=>decide (z=m)).sum=(M.map fun z=>L.countP fun m=>decide (m=z)).sum
 | []=>by
  induction M with
  | nil=>rfl
  | cons a M ih=>simpa using ih
 | a :: L=>by
  rw [Yu,List.sum_cons,Zg0 M L]
  exact ZgJ a L M
noncomputable def Zdu [DecidableEq α]:List α->Nat
 | []=>1
 | x::xs=>(1 + xs.countP fun y=>decide (y=x)) * Zdu xs
theorem Zfp (f:α->Nat) (c:Nat):∀ l:List α,(∀ x∈l,f x=c)->(l.map f).sum=l.length * c
 | [],_=>by simp
 | a::l,h=>by rw [Yu,List.sum_cons,Zfp f c l fun x hx=>h x (YF _ hx),h a YG,List.length_cons,Nat.succ_mul,Nat.add_comm]
theorem ZeI [DecidableEq α]:∀ {xs ys:List α},ys.Perm xs->(Zad xs).countP (fun z=>decide (z=ys))=Zdu xs
 | [],ys,h=>by rw [h.eq_nil];simp [Zad,Zdu]
 | x :: l,ys,h=>by
  have e:((Zad l).map fun m=>(ins x m).countP fun z=>decide (z=ys))=(Zad l).map fun m=>(outs x ys).countP fun z=>decide (z=m):=Yap fun m _=>ZgY x m ys
  rw [Zad,Zg2,e,Zg0,Zfp _ (Zdu l) _ fun z hz=>?_]
  ·rw [Zgv,h.countP_eq,List.countP_cons,Zdu]
   simp only [decide_true,if_true]
   rw [Nat.add_comm]
  ·have:z.Perm l:=((Ze4 hz).symm.trans h).cons_inv
   exact ZeI this
end
noncomputable def dig (k:Nat):Str:=⟨#[48 + k]⟩
noncomputable def umS (s:Str):Str:=⟨s.cps.pop⟩
noncomputable def mkS (c:Str) (k:Nat):Str:=c++dig k
theorem ZjR (c:Str) (k:Nat):(mkS c k).cps=c.cps.push (48 + k):=by
 show (c.cps++#[48 + k])=_
 rw [Array.append_singleton]
theorem umS_mk (c:Str) (k:Nat):umS (mkS c k)=c:=by
 unfold umS
 rw [ZjR,Array.pop_push]
mutual
noncomputable def Wr.um:Wr->Wr
 | .nothing=>.nothing
 | .bead c=>.bead (umS c)
 | .side b f=>.side b f.um
 | .pair f g=>.pair f.um g.um
 | .many k ps=>.many k (umL ps)
noncomputable def umL:List Wr->List Wr
 | []=>[]
 | w::ws=>w.um::umL ws
end
theorem Zda:∀ ws:List Wr,umL ws=ws.map Wr.um
 | []=>rfl
 | w::ws=>by rw [umL,Zda ws];rfl
mutual
noncomputable def Wr.nms:Wr->List Str
 | .nothing=>[]
 | .bead c=>[c]
 | .side _ f=>f.nms
 | .pair f g=>f.nms++g.nms
 | .many _ ps=>nmsL ps
noncomputable def nmsL:List Wr->List Str
 | []=>[]
 | w::ws=>w.nms++nmsL ws
end
theorem Zbd:∀ ws:List Wr,nmsL ws=ws.flatMap Wr.nms
 | []=>rfl
 | w::ws=>by rw [nmsL,Zbd ws];rfl
theorem Zjx {ps qs:List Wr} (p:ps.Perm qs):(nmsL ps).Perm (nmsL qs):=by
 rw [Zbd,Zbd]
 exact p.flatMap_right _
mutual
theorem Wr.um_nrm:∀ w:Wr,w.um.nrm=w.nrm
 | .nothing=>rfl
 | .bead _=>rfl
 | .side _ f=>by simp only [Wr.um,Wr.nrm,f.um_nrm]
 | .pair f g=>by simp only [Wr.um,Wr.nrm,f.um_nrm,g.um_nrm]
 | .many k ps=>by simp only [Wr.um,Wr.nrm,ZfW ps]
theorem ZfW:∀ ws:List Wr,nrmL (umL ws)=nrmL ws
 | []=>rfl
 | w::ws=>by simp only [umL,nrmL,w.um_nrm,ZfW ws]
end
theorem Alk.map {k:Nat} {ps qs:List Wr} (F:Wr->Wr) (a:Alk k ps qs):Alk k (ps.map F) (qs.map F):=by
 unfold Alk at a ⊢
 by_cases c:k=1\/k=2
 ·rw [if_pos c] at a ⊢;exact a.map F
 ·rw [if_neg c] at a ⊢
  by_cases c0:k=0
  ·rw [if_pos c0] at a ⊢;rw [a]
  ·rw [if_neg c0] at a ⊢
   rcases a with a | ⟨r,hr,a⟩
   ·exact .inl (by rw [a])
   ·refine .inr ⟨r,by rw [Yb];exact hr,?_⟩
    rw [a];unfold turnL;rw [Ym,Yaf,Y5]
theorem alk_arr (k:Nat) (ps:List Wr):Alk k ps (arr k ps):=by
 unfold Alk
 by_cases c:k=1\/k=2
 ·rw [if_pos c];exact (Zas k ps).symm
 ·rw [if_neg c]
  unfold arr
  rw [if_neg c]
  by_cases c0:k=0
  ·rw [if_pos c0,if_pos c0]
  ·rw [if_neg c0,if_neg c0]
   by_cases h:0 < ps.length
   ·obtain ⟨r,hr,e⟩:=ZeY h
    exact .inr ⟨r,hr,e⟩
   ·refine .inl ?_
    have:ps=[]:=Y6.mp (by lia)
    subst this
    rfl
mutual
theorem Wr.um_pl:∀ v:Wr,v.nrm=true->v.pl.um.pl=v.um.pl
 | .nothing,_=>rfl
 | .bead _,_=>rfl
 | .side b f,h=>by simp only [Wr.nrm] at h;simp only [Wr.pl,Wr.um,f.um_pl h]
 | .pair f g,h=>by simp only [Wr.nrm,Yc] at h;simp only [Wr.pl,Wr.um,f.um_pl h.1,g.um_pl h.2]
 | .many k ps,h=>by
  simp only [Wr.nrm,Yc] at h
  simp only [Wr.pl,Wr.um]
  congr 1
  have e:∀ L:List Wr,plnL (umL L)=L.map fun x=>x.um.pl:=fun L=>by rw [ZM,Zda,YO];rfl
  have i:=umL_pl ps h.2
  rw [e,e,<- i]
  refine Zdp ?_ ((alk_arr k (plnL ps)).map _)
  have:=Zcg (umL ps) (by rw [ZfW];exact h.2)
  rw [e,<- i] at this
  exact this
theorem umL_pl:∀ ws:List Wr,nrmL ws=true->(plnL ws).map (fun x=>x.um.pl)=ws.map fun x=>x.um.pl
 | [],_=>rfl
 | w :: ws,h=>by
  simp only [nrmL,Yc] at h
  rw [plnL,Yu,Yu,w.um_pl h.1,umL_pl ws h.2]
end
mutual
theorem Wr.nms_pl:∀ v:Wr,v.pl.nms.Perm v.nms
 | .nothing=>List.Perm.refl _
 | .bead _=>List.Perm.refl _
 | .side _ f=>by simp only [Wr.pl,Wr.nms];exact f.nms_pl
 | .pair f g=>by simp only [Wr.pl,Wr.nms];exact f.nms_pl.append g.nms_pl
 | .many k ps=>by simp only [Wr.pl,Wr.nms];exact (Zjx (Zas k _)).trans (Zjp ps)
theorem Zjp:∀ ws:List Wr,(nmsL (plnL ws)).Perm (nmsL ws)
 | []=>List.Perm.refl _
 | w::ws=>by simp only [plnL,nmsL];exact w.nms_pl.append (Zjp ws)
end
noncomputable section
theorem ZiO {α β:Type} (f:α->β) {a m:List β} (h:a.Perm m):∀ {l:List α},l.map f=a->∃ p:List α,p.Perm l/\p.map f=m:=by
 induction h with
 | nil=>intro l e;exact ⟨l,List.Perm.refl _,e⟩
 | cons x _ ih =>
  intro l e
  cases l with
  | nil=>cases e
  | cons b l =>
   rw [Yu] at e
   injection e with e1 e2
   obtain ⟨p,hp,ep⟩:=ih e2
   exact ⟨b::p,hp.cons b,by rw [Yu,ep,e1]⟩
 | swap x y r =>
  intro l e
  cases l with
  | nil=>cases e
  | cons b l =>
   cases l with
   | nil=>simp at e
   | cons c l =>
    simp only [Yu,Y1] at e
    exact ⟨c::b::l,.swap b c l,by simp only [Yu,e.1,e.2.1,e.2.2]⟩
 | trans _ _ i1 i2 =>
  intro l e
  obtain ⟨p,hp,ep⟩:=i1 e
  obtain ⟨q,hq,eq⟩:=i2 ep
  exact ⟨q,hq.trans hp,eq⟩
noncomputable def arrs (k:Nat) (us:List Wr):List (List Wr):=if k=1\/k=2 then Zad us else if k=0 then [us] else (List.range (max us.length 1)).map (turnL us)
theorem Zbh {k:Nat} {us p:List Wr} (h:p∈arrs k us):Alk k us p/\p.Perm us:=by
 unfold arrs at h
 unfold Alk
 by_cases c:k=1\/k=2
 ·rw [if_pos c] at h ⊢
  exact ⟨(Zat h).symm,Zat h⟩
 ·rw [if_neg c] at h ⊢
  by_cases c0:k=0
  ·rw [if_pos c0] at h ⊢
   rw [Yv.mp h]
   exact ⟨rfl,List.Perm.refl _⟩
  ·rw [if_neg c0] at h ⊢
   obtain ⟨r,hr,rfl⟩:=Yk.mp h
   rw [Yad] at hr
   refine ⟨?_,ZN us r⟩
   by_cases hn:us.length=0
   ·rw [Y6.mp hn]
    exact .inl (by simp [turnL])
   ·exact .inr ⟨r,by lia,rfl⟩
theorem ZgQ {k:Nat} {us vs:List Wr} (hn:nrmL us=true):(∃ p∈arrs k us,plnL vs=plnL p) ↔ arr k (plnL vs)=arr k (plnL us):=by
 constructor
 ·rintro ⟨p,hp,e⟩
  have a:=(Zbh hp).1.map Wr.pl
  rw [e,ZM p,ZM us]
  refine Zdp ?_ a
  rw [<- ZM];exact Zcg us hn
 ·intro e
  have a:=ZiY e.symm
  unfold Alt at a
  unfold arrs
  by_cases c:k=1\/k=2
  ·rw [if_pos c] at a ⊢
   obtain ⟨p,hp,ep⟩:=ZiO Wr.pl a (ZM us).symm
   exact ⟨p,Zdx hp,by rw [ZM p,ep]⟩
  ·rw [if_neg c] at a ⊢
   by_cases c0:k=0
   ·rw [if_pos c0] at a ⊢
    exact ⟨us,Yv.mpr rfl,a.symm⟩
   ·rw [if_neg c0] at a ⊢
    obtain ⟨t,ht,e⟩:=a
    rw [ZM us,Yb] at ht
    refine ⟨turnL us t,Yk.mpr ⟨t,Yad.mpr (by lia),rfl⟩,?_⟩
    rw [<- e,ZM,ZM]
    unfold turnL
    rw [Ym,Yaf,Y5]
mutual
noncomputable def Wr.E:Wr->Wr->List Wr
 | .nothing,u=>match u with | .nothing=>[.nothing] | _=>[]
 | .bead c,u=>match u with | .bead d=>if umS d=c then [.bead d] else [] | _=>[]
 | .side b f,u=>match u with | .side b' g=>if b=b' then (f.E g).map (.side b) else [] | _=>[]
 | .pair f g,u=>match u with | .pair f' g'=>(f.E f').flatMap fun x=>(g.E g').map (.pair x) | _=>[]
 | .many k ws,u=>match u with | .many k' us=>if k=k' then ((arrs k us).flatMap fun p=>EL ws p).map (.many k) else [] | _=>[]
noncomputable def EL:List Wr->List Wr->List (List Wr)
 | [],us=>match us with | []=>[[]] | _=>[]
 | w::ws,us=>match us with | u::us=>(w.E u).flatMap fun x=>(EL ws us).map (x::·) | []=>[]
end
mutual
theorem Wr.mem_E:∀ (w u v:Wr),u.nrm=true->(v∈w.E u ↔ v.um=w/\v.pl=u.pl)
 | .nothing,u,v,_=>by cases u <;> cases v <;> simp [Wr.E,Wr.um,Wr.pl]
 | .bead c, u,v,_=>by
  cases u with
  | bead d =>
   cases v with
   | bead e =>
    simp only [Wr.E,Wr.um,Wr.pl,Wr.bead.injEq]
    by_cases h:umS d=c
    ·rw [if_pos h,Yv,Wr.bead.injEq]
     exact ⟨fun q=>by subst q;exact ⟨h,rfl⟩,fun q=>q.2⟩
    ·rw [if_neg h]
     exact ⟨fun q=>(by cases q),fun q=>absurd (by rw [<- q.2];exact q.1) h⟩
   | _ =>
    simp only [Wr.E,Wr.um]
    by_cases h:umS d=c
    ·rw [if_pos h];simp
    ·rw [if_neg h];simp
  | _=>cases v <;> simp [Wr.E,Wr.um,Wr.pl]
 | .side b f, u,v,h=>by
  cases u with
  | side b' g =>
   simp only [Wr.nrm] at h
   have ih:=fun x=>f.mem_E g x h
   cases v with
   | side b2 x =>
    simp only [Wr.E,Wr.um,Wr.pl,Wr.side.injEq]
    by_cases e:b=b'
    ·rw [if_pos e,Yk]
     constructor
     ·rintro ⟨y,hy,q⟩
      injection q with q1 q2
      subst q2
      have:=(ih y).mp hy
      exact ⟨⟨q1.symm,this.1⟩,by rw [<- q1];exact e,this.2⟩
     ·rintro ⟨⟨q1,q2⟩,q3,q4⟩
      exact ⟨x,(ih x).mpr ⟨q2,q4⟩,by rw [q1]⟩
    ·rw [if_neg e]
     exact ⟨fun q=>(by cases q),fun ⟨⟨q1,_⟩,q3,_⟩=>absurd (q1.symm.trans q3) e⟩
   | _ =>
    simp only [Wr.E,Wr.um]
    by_cases e:b=b'
    ·rw [if_pos e];simp
    ·rw [if_neg e];simp
  | _=>cases v <;> simp [Wr.E,Wr.um,Wr.pl]
 | .pair f g,u,v,h=>by
  cases u with
  | pair f' g' =>
   simp only [Wr.nrm,Yc] at h
   have i1:=fun x=>f.mem_E f' x h.1
   have i2:=fun x=>g.mem_E g' x h.2
   cases v with
   | pair x y =>
    simp only [Wr.E,Wr.um,Wr.pl,Wr.pair.injEq,List.mem_flatMap,Yk]
    constructor
    ·rintro ⟨a,ha,b,hb,q1,q2⟩
     subst q1 q2
     have:=(i1 a).mp ha
     have:=(i2 b).mp hb
     simp_all
    ·rintro ⟨⟨q1,q2⟩,q3,q4⟩
     exact ⟨x,(i1 x).mpr ⟨q1,q3⟩,y,(i2 y).mpr ⟨q2,q4⟩,rfl,rfl⟩
   | _=>simp [Wr.E,Wr.um]
  | _=>cases v <;> simp [Wr.E,Wr.um,Wr.pl]
 | .many k ws,u,v,h=>by
  cases u with
  | many k' us =>
   simp only [Wr.nrm,Yc] at h
   cases v with
   | many k2 vs =>
    simp only [Wr.E,Wr.um,Wr.pl,Wr.many.injEq]
    by_cases e:k=k'
    ·subst e
     rw [if_pos rfl,Yk]
     constructor
     ·rintro ⟨y,hy,q⟩
      injection q with q1 q2
      subst q1 q2
      obtain ⟨p,hp,hy⟩:=List.mem_flatMap.mp hy
      obtain ⟨h1,h2⟩:=(Ze8 ws p y (Zbj (Zbh hp).2.symm h.2)).mp hy
      exact ⟨⟨rfl,h1⟩,rfl,(ZgQ h.2).mp ⟨p,hp,h2⟩⟩
     ·rintro ⟨⟨q1,q2⟩,q3,q4⟩
      subst q1
      obtain ⟨p,hp,h2⟩:=(ZgQ h.2).mpr q4
      exact ⟨vs,List.mem_flatMap.mpr ⟨p,hp,(Ze8 ws p vs (Zbj (Zbh hp).2.symm h.2)).mpr ⟨q2,h2⟩⟩,rfl⟩
    ·rw [if_neg e]
     exact ⟨fun q=>(by cases q),fun ⟨⟨q1,_⟩,q3,_⟩=>absurd (q1.symm.trans q3) e⟩
   | _ =>
    simp only [Wr.E,Wr.um]
    by_cases e:k=k'
    ·rw [if_pos e];simp
    ·rw [if_neg e];simp
  | _=>cases v <;> simp [Wr.E,Wr.um,Wr.pl]
theorem Ze8 : ∀ (ws us vs:List Wr),nrmL us=true->(vs∈EL ws us ↔ umL vs=ws/\plnL vs=plnL us)
 | [],us,vs,_=>by cases us <;> cases vs <;> simp [EL,umL,plnL]
 | w :: ws, us,vs,h=>by
  cases us with
  | nil=>cases vs <;> simp [EL,umL,plnL]
  | cons u us =>
   simp only [nrmL,Yc] at h
   have i1:=fun x=>w.mem_E u x h.1
   have i2:=fun x=>Ze8 ws us x h.2
   cases vs with
   | nil=>simp [EL,umL]
   | cons v vs =>
    simp only [EL,umL,plnL,Y1,List.mem_flatMap,Yk]
    constructor
    ·rintro ⟨a,ha,b,hb,q1,q2⟩
     subst q1 q2
     have:=(i1 a).mp ha
     have:=(i2 b).mp hb
     simp_all
    ·rintro ⟨⟨q1,q2⟩,q3,q4⟩
     exact ⟨v,(i1 v).mpr ⟨q1,q3⟩,vs,(i2 vs).mpr ⟨q2,q4⟩,rfl,rfl⟩
end
end
noncomputable section
open Classical in
theorem Zjo:∀ {xs:List Wr},gdL xs=true->ZbI xs=Zdu xs
 | [],_=>rfl
 | x :: xs,h=>by
  simp only [gdL,Yc] at h
  rw [ZbI,Zdu,Zjo h.2]
  congr 2
  unfold cntW
  refine List.countP_congr fun y hy=>?_
  rw [Zcq (ZaW h.2 hy) h.1]
  simp
mutual
noncomputable def Wr.full:Wr->Prop
 | .nothing=>True
 | .bead _=>True
 | .side _ f=>f.full
 | .pair f g=>f.full/\g.full
 | .many _ ps=>ZdH ps
noncomputable def ZdH:List Wr->Prop
 | []=>True
 | w::ws=>w.nms≠[]/\w.full/\ZdH ws
end
theorem ZbK:∀ {ws:List Wr},ZdH ws ↔ ∀ w∈ws,w.nms≠[]/\w.full
 | []=>by simp [ZdH]
 | w :: ws=>by
  rw [ZdH,ZbK (ws:=ws)]
  simp only [Yt,forall_eq_or_imp]
  exact ⟨fun ⟨a,b,c⟩=>⟨⟨a,b⟩,c⟩,fun ⟨⟨a,b⟩,c⟩=>⟨a,b,c⟩⟩
section
variable {α β:Type}
theorem Zg3 {f:α->List β}:∀ {l:List α},(l.flatMap f).Nodup->∀ x∈l,∀ y∈l,∀ c,c∈f x->c∈f y->x=y
 | [],_,x,hx,_,_,_,_,_=>by cases hx
 | a :: l,nd,x,hx,y,hy,c,h1,h2=>by
  rw [List.flatMap_cons,List.nodup_append] at nd
  have far:∀ z∈l,c∈f z->c ∉ f a:=fun z hz hc ha=>nd.2.2 c ha c (List.mem_flatMap.mpr ⟨z,hz,hc⟩) rfl
  rcases Yt.mp hx with e1 | hx1
  ·rcases Yt.mp hy with e2 | hy1
   ·rw [e1,e2]
   ·exact absurd (by rw [<- e1];exact h1) (far y hy1 h2)
  ·rcases Yt.mp hy with e2 | hy1
   ·exact absurd (by rw [<- e2];exact h2) (far x hx1 h1)
   ·exact Zg3 nd.2.1 x hx1 y hy1 c h1 h2
theorem ZiV {f:α->List β}:∀ {l:List α},(l.flatMap f).Nodup->(∀ x∈l,f x≠[])->l.Nodup/\∀ x∈l,(f x).Nodup
 | [],_,_=>⟨List.nodup_nil,fun x h=>by cases h⟩
 | a :: l,nd,h=>by
  rw [List.flatMap_cons,List.nodup_append] at nd
  obtain ⟨i1,i2⟩:=ZiV nd.2.1 fun x hx=>h x (YF _ hx)
  refine ⟨YQ.mpr ⟨fun ha=>?_,i1⟩,fun x hx=>?_⟩
  ·obtain ⟨c,hc⟩:=List.exists_mem_of_ne_nil _ (h a YG)
   exact nd.2.2 c hc c (List.mem_flatMap.mpr ⟨a,ha,hc⟩) rfl
  ·rcases Yt.mp hx with rfl | hx
   ·exact nd.1
   ·exact i2 x hx
theorem Zeu {f:α->β}:∀ {l:List α},(∀ a∈l,∀ b∈l,f a=f b->a=b)->l.Nodup->(l.map f).Nodup
 | [],_,_=>by simp
 | a :: l,hf,h=>by
  rw [YQ] at h
  rw [Yu,YQ]
  refine ⟨fun hm=>?_,Zeu (fun x hx y hy=>hf x (YF _ hx) y (YF _ hy)) h.2⟩
  obtain ⟨b,hb,e⟩:=Yk.mp hm
  exact h.1 (by rw [hf a YG b (YF _ hb) e.symm];exact hb)
theorem ZeU {f:α->β} {S:α->Prop} (hf:∀ a b,S a->S b->f a=f b->a=b):∀ {l m:List α},(∀ x∈l,S x)->(∀ x∈m,S x)->l.map f=m.map f->l=m
 | [],[],_,_,_=>rfl
 | [],_::_,_,_,e=>by cases e
 | _::_,[],_,_,e=>by cases e
 | a :: l,b::m,h1,h2,e=>by
  rw [Yu,Yu] at e
  injection e with e1 e2
  rw [hf a b (h1 a YG) (h2 b YG) e1,ZeU hf (fun x hx=>h1 x (YF _ hx)) (fun x hx=>h2 x (YF _ hx)) e2]
theorem Zh5 (p:α->Bool) (c:Nat):∀ l:List α,(l.map fun x=>if p x=true then c else 0).sum=l.countP p * c
 | []=>by simp
 | a :: l=>by
  rw [Yu,List.sum_cons,Zh5 p c l,List.countP_cons]
  by_cases h:p a=true
  ·rw [if_pos h,if_pos h,Nat.add_mul,Nat.one_mul,Nat.add_comm]
  ·rw [if_neg h,if_neg h,Nat.zero_add,Nat.add_zero]
theorem Zgq (f:α->List β):∀ l:List α,(l.flatMap f).length=(l.map fun x=>(f x).length).sum
 | []=>rfl
 | a::l=>by rw [List.flatMap_cons,Yh,Zgq f l];rfl
end
theorem turn_inj {us:List Wr} (nd:us.Nodup) {r t:Nat} (hr:r < us.length) (ht:t < us.length) (e:turnL us r=turnL us t):r=t:=by
 have h1:=Zby us hr (i:=0) (by lia)
 have h2:=Zby us ht (i:=0) (by lia)
 rw [e,h2,Nat.add_zero,Nat.add_zero,YaN hr,YaN ht,Ye hr,Ye ht] at h1
 exact ((List.getElem_inj nd).mp (Y0 h1)).symm
open Classical in
theorem Zhx {k:Nat} {us:List Wr} (nd:us.Nodup):(arrs k us).Nodup:=by
 unfold arrs
 by_cases c:k=1\/k=2
 ·rw [if_pos c];exact Zb4 nd
 ·rw [if_neg c]
  by_cases c0:k=0
  ·rw [if_pos c0];simp
  ·rw [if_neg c0]
   refine Zeu (fun a ha b hb e=>?_) List.nodup_range
   rw [Yad] at ha hb
   by_cases h:us.length=0
   ·lia
   ·exact turn_inj nd (by lia) (by lia) e
theorem ZhM {n t:Nat} (ht:t < n):(List.range n).map (fun r=>(t + r) % n)=turnL (List.range n) t:=by
 refine YbL fun i=>?_
 by_cases hi:i < n
 ·rw [Yr,YbC hi,Zby _ (by rw [Yab];exact ht) (by rw [Yab];exact hi),Yab,YbC (Ybg _ (by lia))]
  rfl
 ·rw [YT (by rw [Yb,Yab];lia),YT (by rw [Z6,Yab];lia)]
open Classical in
theorem arrs_cnt {k:Nat} {us:List Wr} {F:Wr->Wr} {ys:List Wr} (hk:k<=3) (gx:gdL (us.map F)=true) (gy:gdL ys=true) (e:arr k (us.map F)=arr k ys):(arrs k us).countP (fun p=>decide (p.map F=ys))=gath k ys:=by
 have a:=ZiY e
 unfold Alt at a
 unfold arrs gath
 by_cases c:k=1\/k=2
 ·rw [if_pos c] at a
  rw [if_pos c,if_pos c]
  have e1:(Zad us).countP (fun p=>decide (p.map F=ys))=((Zad us).map (List.map F)).countP fun z=>decide (z=ys):=by rw [List.countP_map];rfl
  rw [e1,Zc4,ZeI a.symm,<- Zjo gx,ZbY a gx]
 ·rw [if_neg c] at a
  rw [if_neg c,if_neg c]
  by_cases c0:k=0
  ·rw [if_pos c0] at a
   rw [if_pos c0,if_pos c0]
   simp [a]
  ·rw [if_neg c0] at a
   rw [if_neg c0,if_neg c0]
   obtain ⟨t,ht,et⟩:=a
   have hl:ys.length=us.length:=by rw [<- et,Z6,Yb]
   rw [Yb] at ht
   have et2:∀ r,(turnL us r).map F=turnL (us.map F) r:=fun r=>by unfold turnL;rw [Ym,Yaf,Y5]
   rw [List.countP_map]
   by_cases h0:us.length=0
   ·have h1:=Y6.mp h0
    subst h1
    have h2:ys=[]:=Y6.mp (by rw [hl];rfl)
    subst h2
    simp [turnsN,turnL,List.range_succ]
   ·have hm:max us.length 1=us.length:=by lia
    rw [hm]
    have ht:t < us.length:=by lia
    have e3:(List.range us.length).countP ((fun p=>decide (p.map F=ys)) ∘ turnL us)=(List.range us.length).countP fun r=>decide (turnL (us.map F) r=ys):=by
     congr 1
     funext r
     show decide ((turnL us r).map F=ys)=_
     rw [et2]
    rw [e3,<- (ZN (List.range us.length) t).countP_eq,<- ZhM ht,List.countP_map]
    have e4:(List.range us.length).countP ((fun r=>decide (turnL (us.map F) r=ys)) ∘ fun r=>(t + r) % us.length)=(List.range us.length).countP fun r=>ZaK (turnL ys r) ys:=by
     refine List.countP_congr fun r hr=>?_
     rw [Yad] at hr
     have e5:turnL ys r=turnL (us.map F) ((t + r) % us.length):=by
      rw [<- et,ZaY _ (by rw [Yb];exact ht) (by rw [Yb];exact hr),Yb]
     rw [Zch (Zba (ZN ys r).symm gy) gy,e5]
     simp
    rw [e4]
    unfold turnsN
    rw [hl]
    have h1:0 < (List.range us.length).countP fun r=>ZaK (turnL ys r) ys:=by
     rw [List.countP_pos_iff]
     exact ⟨0,Yad.mpr (by lia),by rw [ZcC];exact (Zch gy gy).mpr rfl⟩
    lia
end
noncomputable section
theorem pl_injOn {us:List Wr} (nd:(nmsL us).Nodup) (hf:ZdH us):∀ x∈us,∀ y∈us,x.pl=y.pl->x=y:=fun x hx y hy e=>by
 rw [Zbd] at nd
 obtain ⟨c,hc⟩:=List.exists_mem_of_ne_nil _ (ZbK.mp hf x hx).1
 have h2:c∈y.nms:=by
  have:=x.nms_pl.mem_iff.mpr hc
  rw [e] at this
  exact y.nms_pl.mem_iff.mp this
 exact Zg3 nd x hx y hy c hc h2
mutual
theorem Wr.nrm_pl:∀ w:Wr,w.pl.nrm=w.nrm
 | .nothing=>rfl
 | .bead _=>rfl
 | .side _ f=>by simp only [Wr.pl,Wr.nrm,f.nrm_pl]
 | .pair f g=>by simp only [Wr.pl,Wr.nrm,f.nrm_pl,g.nrm_pl]
 | .many k ps=>by
  simp only [Wr.pl,Wr.nrm]
  congr 1
  rw [<- ZiG ps,YaQ]
  exact ⟨Zbj (Zas k _),Zbj (Zas k _).symm⟩
theorem ZiG:∀ ws:List Wr,nrmL (plnL ws)=nrmL ws
 | []=>rfl
 | w::ws=>by simp only [plnL,nrmL,w.nrm_pl,ZiG ws]
end
theorem E_none {w u:Wr} (hu:u.nrm=true) (h:w.pl≠u.um.pl):w.E u=[]:=by
 rcases Yaw (w.E u) with e | ⟨l,v,e⟩
 ·exact e
 ·exfalso
  have hv:v∈w.E u:=by rw [e];simp
  obtain ⟨h1,h2⟩:=(w.mem_E u v hu).mp hv
  refine h ?_
  have hvn:v.nrm=true:=by
   rw [<- v.nrm_pl,h2,u.nrm_pl];exact hu
  rw [<- h1,<- v.um_pl hvn,h2,u.um_pl hu]
theorem pick_nd {ws:List Wr} {A:List Wr} {B:List (List Wr)} (h1:A.Nodup) (h2:B.Nodup):(A.flatMap fun x=>B.map (x::·)).Nodup:=by
 refine Zbw h1 (fun x _=>ZdQ (fun a b e=>by simpa using e) h2) fun x _ y _ z hz hz'=>?_
 obtain ⟨a,_,rfl⟩:=Yk.mp hz
 obtain ⟨b,_,e⟩:=Yk.mp hz'
 injection e with e1 _
 exact e1.symm
theorem ZgC {α β γ:Type} (A:List α) (B:List β) (f:α->β->γ):(A.flatMap fun x=>B.map (f x)).length=A.length * B.length:=ZcQ _ _ A fun x _=>Yb _
open Classical in
mutual
theorem Wr.cnt_E:∀ (w u:Wr),w.gd=true->u.gd=true->u.um.gd=true->u.nms.Nodup->u.full->(w.E u).Nodup/\(w.pl=u.um.pl->(w.E u).length=w.pl.ways)
 | .nothing,u,_,_,_,_,_=>by
  cases u <;> simp [Wr.E,Wr.pl,Wr.um,Wr.ways]
 | .bead c,u,_,_,_,_,_=>by
  cases u with
  | bead d =>
   simp only [Wr.E,Wr.pl,Wr.um,Wr.ways,Wr.bead.injEq]
   by_cases h:umS d=c
   ·rw [if_pos h];simp
   ·rw [if_neg h];exact ⟨List.nodup_nil,fun e=>absurd e.symm h⟩
  | _=>simp [Wr.E,Wr.pl,Wr.um]
 | .side b f,u,hw,hu,hm,nd,fl=>by
  cases u with
  | side b' g =>
   simp only [Wr.gd] at hw hu
   simp only [Wr.um,Wr.gd] at hm
   simp only [Wr.nms] at nd
   simp only [Wr.full] at fl
   obtain ⟨i1,i2⟩:=f.cnt_E g hw hu hm nd fl
   simp only [Wr.E,Wr.pl,Wr.um,Wr.ways,Wr.side.injEq]
   by_cases h:b=b'
   ·rw [if_pos h]
    exact ⟨ZdQ (fun x y e=>by injection e) i1,fun e=>by rw [Yb,i2 e.2,Nat.mul_one]⟩
   ·rw [if_neg h];exact ⟨List.nodup_nil,fun e=>absurd e.1 h⟩
  | _=>simp [Wr.E,Wr.pl,Wr.um]
 | .pair f g,u,hw,hu,hm,nd,fl=>by
  cases u with
  | pair f' g' =>
   simp only [Wr.gd,Yc] at hw hu
   simp only [Wr.um,Wr.gd,Yc] at hm
   simp only [Wr.nms,List.nodup_append] at nd
   simp only [Wr.full] at fl
   obtain ⟨i1,i2⟩:=f.cnt_E f' hw.1 hu.1 hm.1 nd.1 fl.1
   obtain ⟨j1,j2⟩:=g.cnt_E g' hw.2 hu.2 hm.2 nd.2.1 fl.2
   simp only [Wr.E,Wr.pl,Wr.um,Wr.ways,Wr.pair.injEq]
   refine ⟨Zbw i1 (fun x _=>ZdQ (fun a b e=>by injection e) j1) fun x _ y _ z hz hz'=>?_,fun e=>by rw [ZgC,i2 e.1,j2 e.2,Nat.mul_one]⟩
   obtain ⟨a,_,rfl⟩:=Yk.mp hz
   obtain ⟨b,_,e⟩:=Yk.mp hz'
   injection e with e1 _
   exact e1.symm
  | _=>simp [Wr.E,Wr.pl,Wr.um]
 | .many k ws,u,hw,hu,hm,nd,fl=>by
  cases u with
  | many k' us =>
   simp only [Wr.gd,Yc,YC] at hw hu
   simp only [Wr.um,Wr.gd,Yc,YC] at hm
   simp only [Wr.nms] at nd
   simp only [Wr.full] at fl
   have gU:gdL (us.map fun x=>x.um.pl)=true:=by
    have:=Zb7 (umL us) hm.2
    rw [ZM,Zda,YO] at this
    exact this
   have nl:=nd
   rw [Zbd] at nl
   have fm:=ZbK.mp fl
   obtain ⟨n1,n2⟩:=ZiV nl fun x hx=>(fm x hx).1
   have cl:∀ p,p.Perm us->(EL ws p).Nodup/\(EL ws p).length=if decide (p.map (fun x=>x.um.pl)=plnL ws)=true then ZaQ (plnL ws) else 0:=fun p hp =>
    cnt_EL ws p hw.2 fun x hx=>by
     have hx:=hp.mem_iff.mp hx
     exact ⟨ZaW hu.2 hx,ZaW hm.2 (by rw [Zda];exact Yk.mpr ⟨x,hx,rfl⟩),n2 x hx,(fm x hx).2⟩
   simp only [Wr.E]
   by_cases h:k=k'
   ·subst h
    rw [if_pos rfl]
    refine ⟨ZdQ (fun x y e=>by injection e) (Zbw (Zhx n1) (fun p hp=>(cl p (Zbh hp).2).1) fun p hp p' hp' z hz hz'=>?_),fun e=>?_⟩
    ·have q1:=((Ze8 ws p z (Zbj (Zbh hp).2.symm (Zcb us hu.2))).mp hz).2
     have q2:=((Ze8 ws p' z (Zbj (Zbh hp').2.symm (Zcb us hu.2))).mp hz').2
     rw [q1,ZM,ZM] at q2
     exact ZeU (S:=fun x=>x∈us) (fun a b ha hb e=>pl_injOn nd fl a ha b hb e) (fun x hx=>(Zbh hp).2.mem_iff.mp hx) (fun x hx=>(Zbh hp').2.mem_iff.mp hx) q2
    ·rw [ZgM hw.2,Yb,Zgq]
     have e1:((arrs k us).map fun p=>(EL ws p).length)=(arrs k us).map fun p=>if decide (p.map (fun x=>x.um.pl)=plnL ws)=true then ZaQ (plnL ws) else 0:=Yap fun p hp=>(cl p (Zbh hp).2).2
     have ea:arr k (us.map fun x=>x.um.pl)=arr k (plnL ws):=by
      simp only [Wr.pl,Wr.um,Wr.many.injEq,true_and] at e
      rw [e,ZM,Zda,YO];rfl
     rw [e1,Zh5,arrs_cnt hw.1.1 gU (Zb7 ws hw.2) ea,Nat.mul_comm]
   ·rw [if_neg h]
    refine ⟨List.nodup_nil,fun e=>?_⟩
    simp only [Wr.pl,Wr.um,Wr.many.injEq] at e
    exact absurd e.1 h
  | _=>simp [Wr.E,Wr.pl,Wr.um]
theorem cnt_EL:∀ (ws us:List Wr),gdL ws=true->(∀ u∈us,u.gd=true/\u.um.gd=true/\u.nms.Nodup/\u.full)->(EL ws us).Nodup/\(EL ws us).length=if decide (us.map (fun x=>x.um.pl)=plnL ws)=true then ZaQ (plnL ws) else 0
 | [],us,_,_=>by cases us <;> simp [EL,plnL,ZaQ]
 | w :: ws,us,hw,hu=>by
  cases us with
  | nil=>simp [EL,plnL]
  | cons u us =>
   simp only [gdL,Yc] at hw
   obtain ⟨u1,u2,u3,u4⟩:=hu u YG
   obtain ⟨i1,i2⟩:=w.cnt_E u hw.1 u1 u2 u3 u4
   obtain ⟨j1,j2⟩:=cnt_EL ws us hw.2 fun x hx=>hu x (YF _ hx)
   simp only [EL]
   refine ⟨pick_nd (ws:=ws) i1 j1,?_⟩
   rw [ZgC,j2]
   simp only [Yu,plnL,Y1,ZaQ]
   by_cases h:w.pl=u.um.pl
   ·rw [i2 h]
    by_cases h2:us.map (fun x=>x.um.pl)=plnL ws
    ·simp [h,h2]
    ·simp [h,h2]
   ·rw [E_none (u.gd_nrm u1) h]
    have:¬ u.um.pl=w.pl:=fun q=>h q.symm
    simp [this]
end
end
noncomputable section
mutual
noncomputable def Wr.mk:Wr->List Nat->Wr
 | .nothing,_=>.nothing
 | .bead c,o=>.bead (mkS c (o.headD 0))
 | .side b f,o=>.side b (f.mk o)
 | .pair f g,o=>.pair (f.mk (o.take f.size)) (g.mk (o.drop f.size))
 | .many k ps,o=>.many k (mkL ps o)
noncomputable def mkL:List Wr->List Nat->List Wr
 | [],_=>[]
 | w::ws,o=>w.mk (o.take w.size)::mkL ws (o.drop w.size)
end
mutual
theorem Wr.um_mk:∀ (w:Wr) (o:List Nat),(w.mk o).um=w
 | .nothing,_=>rfl
 | .bead c,o=>by simp only [Wr.mk,Wr.um,umS_mk]
 | .side b f,o=>by simp only [Wr.mk,Wr.um,f.um_mk]
 | .pair f g,o=>by simp only [Wr.mk,Wr.um,f.um_mk,g.um_mk]
 | .many k ps,o=>by simp only [Wr.mk,Wr.um,umL_mk]
theorem umL_mk:∀ (ws:List Wr) (o:List Nat),umL (mkL ws o)=ws
 | [],_=>rfl
 | w::ws,o=>by simp only [mkL,umL,w.um_mk,umL_mk]
end
mutual
theorem Wr.nms_len:∀ w:Wr,w.nms.length=w.size
 | .nothing=>rfl
 | .bead c=>rfl
 | .side b f=>by simp only [Wr.nms,Wr.size,f.nms_len]
 | .pair f g=>by simp only [Wr.nms,Wr.size,Yh,f.nms_len,g.nms_len];lia
 | .many k ps=>by simp only [Wr.nms,Wr.size,ZgH]
theorem ZgH:∀ ws:List Wr,(nmsL ws).length=sizeL ws
 | []=>rfl
 | w::ws=>by simp only [nmsL,sizeL,Yh,w.nms_len,ZgH ws]
end
theorem Zcm {cs ds:List Str} {o:List Nat} (h:cs.length<=o.length):List.zipWith mkS (cs++ds) o=List.zipWith mkS cs (o.take cs.length)++List.zipWith mkS ds (o.drop cs.length):=by
 conv=>lhs;rw [<- Yas cs.length o]
 rw [List.zipWith_append (by rw [YJ];lia)]
mutual
theorem Wr.nms_mk:∀ (w:Wr) (o:List Nat),o.length=w.size->(w.mk o).nms=List.zipWith mkS w.nms o
 | .nothing,_,_=>by simp [Wr.mk,Wr.nms]
 | .bead c,o,h=>by
  match o,h with
  | [k],_=>rfl
 | .side b f,o,h=>by simp only [Wr.size] at h;simp only [Wr.mk,Wr.nms,f.nms_mk o h]
 | .pair f g,o,h=>by
  simp only [Wr.size] at h
  have l1:=f.nms_len
  simp only [Wr.mk,Wr.nms]
  rw [Zcm (by lia),l1,f.nms_mk _ (by rw [YJ];lia),g.nms_mk _ (by rw [YR];lia)]
 | .many k ps,o,h=>by simp only [Wr.size] at h;simp only [Wr.mk,Wr.nms,ZiN ps o h]
theorem ZiN:∀ (ws:List Wr) (o:List Nat),o.length=sizeL ws->nmsL (mkL ws o)=List.zipWith mkS (nmsL ws) o
 | [],_,_=>by simp [mkL,nmsL]
 | w :: ws,o,h=>by
  simp only [sizeL] at h
  have l1:=w.nms_len
  simp only [mkL,nmsL]
  rw [Zcm (by lia),l1,w.nms_mk _ (by rw [YJ];lia),ZiN ws _ (by rw [YR];lia)]
end
noncomputable def Zdw (s:Str):Nat:=s.cps.back?.getD 0 - 48
theorem ZiD (c:Str) (k:Nat):Zdw (mkS c k)=k:=by
 unfold Zdw
 rw [ZjR,Array.back?_push]
 simp
theorem ZgL:∀ {cs:List Str} {o:List Nat},o.length=cs.length->(List.zipWith mkS cs o).map Zdw=o
 | [],[],_=>rfl
 | c :: cs,k::o,h=>by
  simp only [List.zipWith_cons_cons,Yu,ZiD]
  rw [ZgL (by simpa using h)]
theorem map_nd {α β:Type} (f:α->β):∀ {l:List α},(l.map f).Nodup->l.Nodup
 | [],_=>List.nodup_nil
 | a :: l,h=>by
  rw [Yu,YQ] at h
  exact YQ.mpr ⟨fun q=>h.1 (Yk.mpr ⟨a,q,rfl⟩),map_nd f h.2⟩
mutual
theorem Wr.of_nms:∀ (v w:Wr) (o:List Nat),v.um=w->o.length=w.size->v.nms=List.zipWith mkS w.nms o->v=w.mk o
 | .nothing,w,o,h,_,_=>by subst h;rfl
 | .bead d,w,o,h,hl,hn=>by
  subst h
  match o,hl with
  | [k],_ =>
   simp only [Wr.nms,Wr.um,List.zipWith_cons_cons,List.zipWith_nil_left,Y1,Ycn] at hn
   simp only [Wr.um,Wr.mk,List.headD_cons]
   rw [<- hn]
 | .side b f,w,o,h,hl,hn=>by
  subst h
  simp only [Wr.um,Wr.size] at hl
  simp only [Wr.nms,Wr.um] at hn
  simp only [Wr.um,Wr.mk]
  rw [<- f.of_nms f.um o rfl hl hn]
 | .pair f g,w,o,h,hl,hn=>by
  subst h
  simp only [Wr.um,Wr.size] at hl
  simp only [Wr.nms,Wr.um] at hn
  have l1:=f.um.nms_len
  have l2:=f.nms_len
  have l3:f.um.size=f.size:=f.um_size
  rw [Zcm (by lia)] at hn
  have l4:(List.zipWith mkS f.um.nms (o.take f.um.nms.length)).length=f.nms.length:=by rw [List.length_zipWith,YJ];lia
  obtain ⟨n1,n2⟩:=List.append_inj hn (by rw [l4])
  simp only [Wr.um,Wr.mk]
  rw [<- f.of_nms f.um _ rfl (by rw [YJ];lia) (by rw [<- l1];exact n1),<- g.of_nms g.um _ rfl (by rw [YR];lia) (by rw [<- l1];exact n2)]
 | .many k ps,w,o,h,hl,hn=>by
  subst h
  simp only [Wr.um,Wr.size] at hl
  simp only [Wr.nms,Wr.um] at hn
  simp only [Wr.um,Wr.mk]
  rw [<- ZjK ps (umL ps) o rfl hl hn]
theorem ZjK:∀ (vs ws:List Wr) (o:List Nat),umL vs=ws->o.length=sizeL ws->nmsL vs=List.zipWith mkS (nmsL ws) o->vs=mkL ws o
 | [],ws,o,h,_,_=>by subst h;rfl
 | f :: vs,ws,o,h,hl,hn=>by
  subst h
  simp only [umL,sizeL] at hl
  simp only [nmsL,umL] at hn
  have l1:=f.um.nms_len
  have l2:=f.nms_len
  have l3:f.um.size=f.size:=f.um_size
  rw [Zcm (by lia)] at hn
  have l4:(List.zipWith mkS f.um.nms (o.take f.um.nms.length)).length=f.nms.length:=by rw [List.length_zipWith,YJ];lia
  obtain ⟨n1,n2⟩:=List.append_inj hn (by rw [l4])
  simp only [umL,mkL]
  rw [<- f.of_nms f.um _ rfl (by rw [YJ];lia) (by rw [<- l1];exact n1),<- ZjK vs (umL vs) _ rfl (by rw [YR];lia) (by rw [<- l1];exact n2)]
theorem Wr.um_size:∀ w:Wr,w.um.size=w.size
 | .nothing=>rfl
 | .bead c=>rfl
 | .side b f=>by simp only [Wr.um,Wr.size,f.um_size]
 | .pair f g=>by simp only [Wr.um,Wr.size,f.um_size,g.um_size]
 | .many k ps=>by simp only [Wr.um,Wr.size,Zha]
theorem Zha:∀ ws:List Wr,sizeL (umL ws)=sizeL ws
 | []=>rfl
 | w::ws=>by simp only [umL,sizeL,w.um_size,Zha ws]
end
theorem Zg9:∀ {ns cs:List Str},ns.map umS=cs->(∀ n∈ns,∃ c k,n=mkS c k)->ns=List.zipWith mkS cs (ns.map Zdw)
 | [],cs,h,_=>by subst h;rfl
 | n :: ns,cs,h,hk=>by
  subst h
  obtain ⟨c,k,e⟩:=hk n YG
  simp only [Yu,List.zipWith_cons_cons]
  rw [<- Zg9 rfl fun m hm=>hk m (YF _ hm)]
  rw [e,umS_mk,ZiD]
mutual
theorem Wr.nms_um:∀ w:Wr,w.um.nms=w.nms.map umS
 | .nothing=>rfl
 | .bead c=>rfl
 | .side b f=>by simp only [Wr.um,Wr.nms,f.nms_um]
 | .pair f g=>by simp only [Wr.um,Wr.nms,f.nms_um,g.nms_um,Ym]
 | .many k ps=>by simp only [Wr.um,Wr.nms,ZjT]
theorem ZjT:∀ ws:List Wr,nmsL (umL ws)=(nmsL ws).map umS
 | []=>rfl
 | w::ws=>by simp only [umL,nmsL,w.nms_um,ZjT ws,Ym]
end
theorem zip_mk:∀ {cs:List Str} {o:List Nat} {n:Str},n∈List.zipWith mkS cs o->∃ c k,n=mkS c k
 | [],_,n,h=>by simp at h
 | _::_,[],n,h=>by simp at h
 | c :: cs,k::o,n,h=>by
  rw [List.zipWith_cons_cons] at h
  rcases Yt.mp h with rfl | h
  ·exact ⟨c,k,rfl⟩
  ·exact zip_mk h
open Classical in
theorem Zhg {w:Wr} {L o:List Nat} (hw:w.gd=true) (hL:L.Nodup) (hl:L.length=w.size) (hg:∀ o∈Zad L,(w.mk o).gd=true) (hf:∀ o∈Zad L,(w.mk o).full) (ho:o∈Zad L) :
  (Zad L).countP (fun p=>decide ((w.mk p).pl=(w.mk o).pl))=w.pl.ways:=by
 have len:∀ p∈Zad L,p.length=w.size:=fun p hp=>by rw [(Zat hp).length_eq];exact hl
 have lz:∀ p∈Zad L,(List.zipWith mkS w.nms p).map Zdw=p:=fun p hp=>ZgL (by rw [len p hp,w.nms_len])
 have nd:∀ p∈Zad L,(w.mk p).nms.Nodup:=fun p hp=>by
  rw [w.nms_mk p (len p hp)]
  refine map_nd Zdw ?_
  rw [lz p hp]
  exact (Zat hp).nodup_iff.mpr hL
 have hum:(w.mk o).um=w:=w.um_mk o
 have hnr:=(w.mk o).gd_nrm (hg o ho)
 obtain ⟨c1,c2⟩:=w.cnt_E (w.mk o) hw (hg o ho) (by rw [hum];exact hw) (nd o ho) (hf o ho)
 rw [<- c2 (by rw [hum]),List.countP_eq_length_filter]
 have inj:∀ p∈Zad L,∀ p'∈Zad L,w.mk p=w.mk p'->p=p':=fun p hp p' hp' e=>by
  rw [<- lz p hp,<- lz p' hp',<- w.nms_mk p (len p hp),<- w.nms_mk p' (len p' hp'),e]
 have m1:(((Zad L).filter fun p=>decide ((w.mk p).pl=(w.mk o).pl)).map (fun p=>w.mk p)).Nodup:=Zeu (fun a ha b hb e=>inj a (List.mem_filter.mp ha).1 b (List.mem_filter.mp hb).1 e) ((Zb4 hL).filter _)
 have same:∀ v,v∈((Zad L).filter fun p=>decide ((w.mk p).pl=(w.mk o).pl)).map (fun p=>w.mk p) ↔ v∈w.E (w.mk o):=fun v=>by
  rw [w.mem_E _ _ hnr]
  constructor
  ·intro h
   obtain ⟨p,hp,rfl⟩:=Yk.mp h
   exact ⟨w.um_mk p,by simpa using (List.mem_filter.mp hp).2⟩
  ·rintro ⟨h1,h2⟩
   have hpm:v.nms.Perm (List.zipWith mkS w.nms o):=by
    rw [<- w.nms_mk o (len o ho)]
    exact v.nms_pl.symm.trans (by rw [h2];exact (w.mk o).nms_pl)
   have hmk:∀ n∈v.nms,∃ c k,n=mkS c k:=fun n hn=>zip_mk (hpm.mem_iff.mp hn)
   have hz:v.nms=List.zipWith mkS w.nms (v.nms.map Zdw):=Zg9 (by rw [<- v.nms_um,h1]) hmk
   have hpo:(v.nms.map Zdw).Perm o:=by
    have:=hpm.map Zdw
    rw [lz o ho] at this
    exact this
   have hpL:v.nms.map Zdw∈Zad L:=Zdx (hpo.trans (Zat ho))
   have hv:v=w.mk (v.nms.map Zdw):=v.of_nms w _ h1 (len _ hpL) hz
   exact Yk.mpr ⟨_,List.mem_filter.mpr ⟨hpL,by rw [<- hv,h2];simp⟩,hv.symm⟩
 have l1:=ZcR m1 fun y hy=>(same y).mp hy
 have l2:=ZcR c1 fun y hy=>(same y).mpr hy
 rw [Yb] at l1 l2
 lia
theorem Zg4 {α β:Type} [DecidableEq β] (f:α->β) (c:Nat):∀ (ds:List β) (xs:List α),ds.Nodup->(∀ x∈xs,f x∈ds)->(∀ d∈ds,xs.countP (fun x=>decide (f x=d))=c)->xs.length=ds.length * c
 | [],xs,_,h,_=>by
  cases xs with
  | nil=>simp
  | cons x xs=>exact absurd (h x YG) (by simp)
 | d :: ds,xs,nd,h,hc=>by
  rw [YQ] at nd
  have ih:=Zg4 f c ds (xs.filter fun x=>decide (f x≠d)) nd.2 (fun x hx=>by
   obtain ⟨h1,h2⟩:=List.mem_filter.mp hx
   rcases Yt.mp (h x h1) with e | e
   ·simp [e] at h2
   ·exact e) fun e he=>by
    rw [List.countP_filter,<- hc e (YF _ he)]
    refine List.countP_congr fun x _=>?_
    have:e≠d:=fun q=>nd.1 (by rw [<- q];exact he)
    simp only [Yc,YC]
    exact ⟨fun q=>q.1,fun q=>⟨q,by rw [q];exact this⟩⟩
  have e1:=List.length_eq_countP_add_countP (fun x=>decide (f x=d)) (l:=xs)
  rw [hc d YG] at e1
  have e2:(xs.filter fun x=>decide (f x≠d)).length=xs.countP fun x=>¬ (decide (f x=d))=true:=by
   rw [<- List.countP_eq_length_filter]
   refine List.countP_congr fun x _=>?_
   simp
  rw [e2] at ih
  rw [e1,ih,List.length_cons,Nat.succ_mul,Nat.add_comm]
end
end L2
namespace My
open PySem L2
local macro_rules | `(tactic| walk_at "qd") => do
 let ls <- ("ZgN q_nm0 q_get0 q_varS q_nmS q_getS q_c q_op q_un q_tb q_bl q_int q_and q_or q_not q_andv q_notv q_if q_true q_nil Zfc q_const q_tup q_lst q_cb Zip q_callV Zg5 q_part q_sl q_bm0 q_bm q_next q_seq q_drop q_ret q_ifs q_asg q_par q_two q_aug q_for q_jof q_jargs q_ylr q_ylo q_yt q_yr1 q_yr2 q_yer q_yeo q_yet q_yz q_jrev q_comp q_gtup q_gcons q_gnil q_addi q_adds q_addt q_addr q_xi q_xi2 q_mul q_rep q_lti q_eqi q_eqs q_eqb q_eqt q_eqr q_nei q_nes q_neb q_net q_ner q_int_ q_inr_ q_ins_ q_ixs q_ix0 q_ix1 q_ix2 q_ixo q_ixr q_sls q_slt1 q_slo q_slr q_lens q_lent q_leno q_lenr q_min2 q_max2 q_maxl q_sum q_lot q_loo q_lor q_tot q_tor q_isl q_ist q_app q_pop q_extT q_ext q_setl q_tail q_neg q_tru q_trul q_trut q_trub q_isi q_idxC q_idxL q_yzg q_ysr q_yso q_yst q_yesr q_yeso q_yest q_exSt q_exSr q_ltDi q_ltDs q_ltDt q_ltDr q_sortF q_sortL q_minL q_pop0 Zi9 q_sortN".splitOn " ").toArray.mapM fun s => `(Lean.Parser.Tactic.simpLemma| ↓$(Lean.mkIdent (.mkSimple s)):ident)
 `(tactic| (try simp only [$ls,*,List.set_cons_zero,List.set_cons_succ,List.cons_append,List.nil_append]))
local macro_rules | `(tactic| walk_at "qg") => `(tactic| (walk_at "qd"; (try simp only [↓q_ixt, ↓q_slt]); walk_at "qd"))
local macro_rules | `(tactic| walk_at "qs") => `(tactic| (simp only [L2.aStart, Yu, Ya0, List.length_cons, List.length_nil, List.replicate, List.cons_append, List.nil_append, Nat.reduceAdd, Nat.reduceSub]))
local macro_rules | `(tactic| walk_at "qc") => `(tactic| (try simp only [L2.aCompStart, List.replicate, Yu, Ya0, List.getElem?_cons_zero, List.getElem?_cons_succ, Option.join_some, List.cons_append, List.nil_append]))
noncomputable def top (i:Nat):Stmt:=PySem.Challenge.pw_figurebook_k35_namings_by_all_orders.main.body.getD i (.Pass ⟨0,0,0,0⟩)
noncomputable abbrev s_qa:Stmt:=top 3
noncomputable abbrev s_qd:Stmt:=top 4
noncomputable abbrev s_qk:Stmt:=top 5
noncomputable abbrev s_q3:Stmt:=top 6
noncomputable abbrev s_qe:Stmt:=top 7
noncomputable abbrev s_qf:Stmt:=top 8
noncomputable abbrev s_qn:Stmt:=top 9
noncomputable abbrev s_q6:Stmt:=top 10
noncomputable abbrev s_q4:Stmt:=top 11
noncomputable abbrev s_qu:Stmt:=top 13
noncomputable abbrev s_qc:Stmt:=top 14
noncomputable abbrev s_q2:Stmt:=top 15
noncomputable abbrev s_q0:Stmt:=top 16
noncomputable abbrev s_q1:Stmt:=top 17
noncomputable abbrev s_q5:Stmt:=top 18
noncomputable abbrev s_qp:Stmt:=top 20
noncomputable abbrev s_qq:Stmt:=top 21
noncomputable abbrev s_qg:Stmt:=top 22
noncomputable abbrev s_qh:Stmt:=top 23
noncomputable abbrev s_qb:Stmt:=top 24
noncomputable abbrev s_qm:Stmt:=top 25
noncomputable abbrev s_qo:Stmt:=top 26
noncomputable abbrev s_qr:Stmt:=top 27
noncomputable abbrev s_qj:Stmt:=top 28
noncomputable abbrev s_q7:Stmt:=top 29
noncomputable abbrev s_q8:Stmt:=top 30
noncomputable abbrev s_q9:Stmt:=top 31
noncomputable abbrev s_ql:Stmt:=top 32
noncomputable abbrev s_qi:Stmt:=top 33
noncomputable abbrev s_qs:Stmt:=top 34
noncomputable abbrev s_qt:Stmt:=top 35
theorem ZfA:ZA ["writing","kind"] ["writing"] (defScope s_qa):=⟨rfl,rfl,rfl,by decide +kernel,rfl,by decide +kernel,by decide +kernel⟩
theorem Zhf:ZA ["kind","parts"] ["kind","parts"] (defScope s_qd):=⟨rfl,rfl,rfl,by decide +kernel,rfl,by decide +kernel,by decide +kernel⟩
theorem Zi6:ZA ["writing","deed"] ["writing","deed"] (defScope s_qk):=⟨rfl,rfl,rfl,by decide +kernel,rfl,by decide +kernel,by decide +kernel⟩
theorem ZdC:ZA ["whole","parts","deed","order","waiting","one","inner","told","many","first"] ["whole","parts","deed"] (defScope s_q3):=⟨rfl,rfl,rfl,by decide +kernel,rfl,by decide +kernel,by decide +kernel⟩
theorem ZhF:ZA ["figure"] ["figure"] (defScope s_qe):=⟨rfl,rfl,rfl,by decide +kernel,rfl,by decide +kernel,by decide +kernel⟩
theorem ZhP:ZA ["figure","sizes"] ["figure","sizes"] (defScope s_qf):=⟨rfl,rfl,rfl,by decide +kernel,rfl,by decide +kernel,by decide +kernel⟩
theorem ZhX:ZA ["figure","keys","size"] ["figure","keys"] (defScope s_qn):=⟨rfl,rfl,rfl,by decide +kernel,rfl,by decide +kernel,by decide +kernel⟩
theorem ZfN:ZA ["writing","told","kind","start","figure"] ["writing","told"] (defScope s_q6):=⟨rfl,rfl,rfl,by decide +kernel,rfl,by decide +kernel,by decide +kernel⟩
theorem ZdE:ZA ["keys","start","least","place","turned"] ["keys"] (defScope s_q4):=⟨rfl,rfl,rfl,by decide +kernel,rfl,by decide +kernel,by decide +kernel⟩
theorem sc_qu:ZA ["writing"] ["writing"] (defScope s_qu):=⟨rfl,rfl,rfl,by decide +kernel,rfl,by decide +kernel,by decide +kernel⟩
theorem ZhN:ZA ["writing"] ["writing"] (defScope s_qc):=⟨rfl,rfl,rfl,by decide +kernel,rfl,by decide +kernel,by decide +kernel⟩
theorem Zcx:ZA ["writing","told","ways","part","keys"] ["writing","told"] (defScope s_q2):=⟨rfl,rfl,rfl,by decide +kernel,rfl,by decide +kernel,by decide +kernel⟩
theorem ZbS:ZA ["keys","ways","twins","ordered","before","key"] ["keys"] (defScope s_q0):=⟨rfl,rfl,rfl,by decide +kernel,rfl,by decide +kernel,by decide +kernel⟩
theorem Zce:ZA ["keys","turns"] ["keys"] (defScope s_q1):=⟨rfl,rfl,rfl,by decide +kernel,rfl,by decide +kernel,by decide +kernel⟩
theorem ZeQ:ZA ["n","product","factor"] ["n"] (defScope s_q5):=⟨rfl,rfl,rfl,by decide +kernel,rfl,by decide +kernel,by decide +kernel⟩
theorem Zi3:ZA ["_law_script","_law_k"] ["_law_script","_law_k"] (defScope s_qp):=⟨rfl,rfl,rfl,by decide +kernel,rfl,by decide +kernel,by decide +kernel⟩
theorem Zjv:ZA ["_law_cells"] ["_law_cells"] (defScope s_qq):=⟨rfl,rfl,rfl,by decide +kernel,rfl,by decide +kernel,by decide +kernel⟩
theorem ZhD:ZA ["_law_cell_here","_law_many","_law_letters","_law_word","_law_k","_law_at","_law_found","_law_name"] ["_law_cell_here","_law_many"] (defScope s_qg):=⟨rfl,rfl,rfl,by decide +kernel,rfl,by decide +kernel,by decide +kernel⟩
theorem Zhi:ZA ["_law_stack","_law_many","_law_word","_law_took"] ["_law_stack","_law_many","_law_word"] (defScope s_qh):=⟨rfl,rfl,rfl,by decide +kernel,rfl,by decide +kernel,by decide +kernel⟩
theorem Zdt:ZA ["_law_figure"] ["_law_figure"] (defScope s_qb):=⟨rfl,rfl,rfl,by decide +kernel,rfl,by decide +kernel,by decide +kernel⟩
theorem Zjc:ZA ["_law_stack","_law_cell_here","_law_words","_law_most","_law_kind","_law_turn","_law_total"] ["_law_stack","_law_cell_here","_law_words","_law_most"] (defScope s_qm):=⟨rfl,rfl,rfl,by decide +kernel,rfl,by decide +kernel,by decide +kernel⟩
theorem Zft:ZA ["_law_figure"] ["_law_figure"] (defScope s_qo):=⟨rfl,rfl,rfl,by decide +kernel,rfl,by decide +kernel,by decide +kernel⟩
theorem Zgg:ZA ["_law_figure","_law_kinds","_law_head"] ["_law_figure"] (defScope s_qr):=⟨rfl,rfl,rfl,by decide +kernel,rfl,by decide +kernel,by decide +kernel⟩
theorem ZdU:ZA ["_law_figure","_law_parts","_law_turns"] ["_law_figure"] (defScope s_qj):=⟨rfl,rfl,rfl,by decide +kernel,rfl,by decide +kernel,by decide +kernel⟩
theorem Zdk:ZA ["_law_figure","_law_cells","_law_parts","_law_cell_here","_law_turn","_law_at"] ["_law_figure","_law_cells"] (defScope s_q7):=⟨rfl,rfl,rfl,by decide +kernel,rfl,by decide +kernel,by decide +kernel⟩
theorem ZfV:ZA ["_law_size_here","_law_found","_law_k","_law_longer","_law_order","_law_at"] ["_law_size_here"] (defScope s_q8):=⟨rfl,rfl,rfl,by decide +kernel,rfl,by decide +kernel,by decide +kernel⟩
theorem Zdq:ZA ["_law_figure","_law_order"] ["_law_figure","_law_order"] (defScope s_q9):=⟨rfl,rfl,rfl,by decide +kernel,rfl,by decide +kernel,by decide +kernel⟩
theorem Zh0:ZA ["_law_cells","_law_words","_law_word","_law_stack","_law_cell_here","_law_fresh"] ["_law_cells","_law_words","_law_word"] (defScope s_ql):=⟨rfl,rfl,rfl,by decide +kernel,rfl,by decide +kernel,by decide +kernel⟩
theorem ZhC:ZA ["_law_found","_law_due"] ["_law_found","_law_due"] (defScope s_qi):=⟨rfl,rfl,rfl,by decide +kernel,rfl,by decide +kernel,by decide +kernel⟩
theorem sc_qs:ZA ["_law_script","_law_made","_law_k","_law_cell_here"] ["_law_script"] (defScope s_qs):=⟨rfl,rfl,rfl,by decide +kernel,rfl,by decide +kernel,by decide +kernel⟩
theorem sc_qt:ZA ["_law_script","_law_words","_law_writing","_law_shaken_here","_law_orders_here","_law_seen","_law_order","_law_named_so"] ["_law_script"] (defScope s_qt):=⟨rfl,rfl,rfl,by decide +kernel,rfl,by decide +kernel,by decide +kernel⟩
/-- what the top has written: each def of the text,its names;what is not the text's own -/
structure TX (K:YFr) (mg:Str->Option Value) (f_qa f_qd f_qk f_q3 f_qe f_qf f_qn f_q6 f_q4 f_qu f_qc f_q2 f_q0 f_q1 f_q5 f_qp f_qq f_qg f_qh f_qb f_qm f_qo f_qr f_qj f_q7 f_q8 f_q9 f_ql f_qi f_qs f_qt t_q6 c_q6 t_qj c_qj a_KINDS a_MANY:Addr) (d_qa d_qd d_qk d_q3 d_qe d_qf d_qn d_q6 d_q4 d_qu d_qc d_q2 d_q0 d_q1 d_q5 d_qp d_qq d_qg d_qh d_qb d_qm d_qo d_qr d_qj d_q7 d_q8 d_q9 d_ql d_qi d_qs d_qt:FuncData):Prop where
 F_qa:Fun K "parts_of" "parts_of" s_qa f_qa d_qa
 B_qa:Zao K d_qa ["writing"] []
 M_qa:mg "parts_of"=some (.ref f_qa)
 F_qd:Fun K "made_of" "made_of" s_qd f_qd d_qd
 B_qd:Zao K d_qd ["kind","parts"] []
 M_qd:mg "made_of"=some (.ref f_qd)
 F_qk:Fun K "folded" "folded" s_qk f_qk d_qk
 B_qk:Zao K d_qk ["writing","deed"] []
 M_qk:mg "folded"=some (.ref f_qk)
 F_q3:Fun K "folded_over" "folded_over" s_q3 f_q3 d_q3
 B_q3:Zao K d_q3 ["whole","parts","deed"] []
 M_q3:mg "folded_over"=some (.ref f_q3)
 F_qe:Fun K "size_of" "size_of" s_qe f_qe d_qe
 B_qe:Zao K d_qe ["figure"] []
 M_qe:mg "size_of"=some (.ref f_qe)
 F_qf:Fun K "size_by" "size_by" s_qf f_qf d_qf
 B_qf:Zao K d_qf ["figure","sizes"] []
 M_qf:mg "size_by"=some (.ref f_qf)
 F_qn:Fun K "key_by" "key_by" s_qn f_qn d_qn
 B_qn:Zao K d_qn ["figure","keys"] []
 M_qn:mg "key_by"=some (.ref f_qn)
 F_q6:Fun K "plain_by" "plain_by" s_q6 f_q6 d_q6
 B_q6:Zao K d_q6 ["writing","told"] []
 M_q6:mg "plain_by"=some (.ref f_q6)
 C_q6:d_q6.code=.ref c_q6
 H_q6:PySem.W.codeHdIn K c_q6 t_q6=true
 Z_q6:mainGlobals≠t_q6
 F_q4:Fun K "least_start" "least_start" s_q4 f_q4 d_q4
 B_q4:Zao K d_q4 ["keys"] []
 M_q4:mg "least_start"=some (.ref f_q4)
 F_qu:Fun K "own" "own" s_qu f_qu d_qu
 B_qu:Zao K d_qu ["writing"] []
 M_qu:mg "own"=some (.ref f_qu)
 F_qc:Fun K "namings" "namings" s_qc f_qc d_qc
 B_qc:Zao K d_qc ["writing"] []
 M_qc:mg "namings"=some (.ref f_qc)
 F_q2:Fun K "own_with_plain" "own_with_plain" s_q2 f_q2 d_q2
 B_q2:Zao K d_q2 ["writing","told"] []
 M_q2:mg "own_with_plain"=some (.ref f_q2)
 F_q0:Fun K "pourings_to_itself" "pourings_to_itself" s_q0 f_q0 d_q0
 B_q0:Zao K d_q0 ["keys"] []
 M_q0:mg "pourings_to_itself"=some (.ref f_q0)
 F_q1:Fun K "turns_to_itself" "turns_to_itself" s_q1 f_q1 d_q1
 B_q1:Zao K d_q1 ["keys"] []
 M_q1:mg "turns_to_itself"=some (.ref f_q1)
 F_q5:Fun K "factorial" "factorial" s_q5 f_q5 d_q5
 B_q5:Zao K d_q5 ["n"] []
 M_q5:mg "factorial"=some (.ref f_q5)
 F_qp:Fun K "_law_cell" "_law_cell" s_qp f_qp d_qp
 B_qp:Zao K d_qp ["_law_script","_law_k"] []
 M_qp:mg "_law_cell"=some (.ref f_qp)
 F_qq:Fun K "_law_next" "_law_next" s_qq f_qq d_qq
 B_qq:Zao K d_qq ["_law_cells"] []
 M_qq:mg "_law_next"=some (.ref f_qq)
 F_qg:Fun K "_law_names" "_law_names" s_qg f_qg d_qg
 B_qg:Zao K d_qg ["_law_cell_here","_law_many"] []
 M_qg:mg "_law_names"=some (.ref f_qg)
 F_qh:Fun K "_law_group" "_law_group" s_qh f_qh d_qh
 B_qh:Zao K d_qh ["_law_stack","_law_many","_law_word"] []
 M_qh:mg "_law_group"=some (.ref f_qh)
 F_qb:Fun K "_law_tuples" "_law_tuples" s_qb f_qb d_qb
 B_qb:Zao K d_qb ["_law_figure"] []
 M_qb:mg "_law_tuples"=some (.ref f_qb)
 F_qm:Fun K "_law_deed" "_law_deed" s_qm f_qm d_qm
 B_qm:Zao K d_qm ["_law_stack","_law_cell_here","_law_words","_law_most"] []
 M_qm:mg "_law_deed"=some (.ref f_qm)
 F_qo:Fun K "_law_size" "_law_size" s_qo f_qo d_qo
 B_qo:Zao K d_qo ["_law_figure"] []
 M_qo:mg "_law_size"=some (.ref f_qo)
 F_qr:Fun K "_law_key" "_law_key" s_qr f_qr d_qr
 B_qr:Zao K d_qr ["_law_figure"] []
 M_qr:mg "_law_key"=some (.ref f_qr)
 F_qj:Fun K "_law_plain" "_law_plain" s_qj f_qj d_qj
 B_qj:Zao K d_qj ["_law_figure"] []
 M_qj:mg "_law_plain"=some (.ref f_qj)
 C_qj:d_qj.code=.ref c_qj
 H_qj:PySem.W.codeHdIn K c_qj t_qj=true
 Z_qj:mainGlobals≠t_qj
 F_q7:Fun K "_law_shaken" "_law_shaken" s_q7 f_q7 d_q7
 B_q7:Zao K d_q7 ["_law_figure","_law_cells"] []
 M_q7:mg "_law_shaken"=some (.ref f_q7)
 F_q8:Fun K "_law_orders" "_law_orders" s_q8 f_q8 d_q8
 B_q8:Zao K d_q8 ["_law_size_here"] []
 M_q8:mg "_law_orders"=some (.ref f_q8)
 F_q9:Fun K "_law_marked" "_law_marked" s_q9 f_q9 d_q9
 B_q9:Zao K d_q9 ["_law_figure","_law_order"] []
 M_q9:mg "_law_marked"=some (.ref f_q9)
 F_ql:Fun K "_law_five" "_law_five" s_ql f_ql d_ql
 B_ql:Zao K d_ql ["_law_cells","_law_words","_law_word"] []
 M_ql:mg "_law_five"=some (.ref f_ql)
 F_qi:Fun K "_law_right" "_law_right" s_qi f_qi d_qi
 B_qi:Zao K d_qi ["_law_found","_law_due"] []
 M_qi:mg "_law_right"=some (.ref f_qi)
 F_qs:Fun K "_law_mix" "_law_mix" s_qs f_qs d_qs
 B_qs:Zao K d_qs ["_law_script"] []
 M_qs:mg "_law_mix"=some (.ref f_qs)
 F_qt:Fun K "law" "law" s_qt f_qt d_qt
 B_qt:Zao K d_qt ["_law_script"] []
 M_qt:mg "law"=some (.ref f_qt)
 n_all:mg "all"=none
 n_any:mg "any"=none
 n_bool:mg "bool"=none
 n_enumerate:mg "enumerate"=none
 n_int:mg "int"=none
 n_isinstance:mg "isinstance"=none
 n_len:mg "len"=none
 n_list:mg "list"=none
 n_max:mg "max"=none
 n_min:mg "min"=none
 n_range:mg "range"=none
 n_reversed:mg "reversed"=none
 n_sorted:mg "sorted"=none
 n_str:mg "str"=none
 n_sum:mg "sum"=none
 n_tuple:mg "tuple"=none
 n_zip:mg "zip"=none
 c_KINDS:∃ u,mg "KINDS"=some u/\RelV (.ref a_KINDS) u
 q_KINDS:∀ H,SqT K H a_KINDS [.str "nothing",.str "bead",.str "left",.str "right",.str "pair",.str "row",.str "bag",.str "choice",.str "ring"]
 y_KINDS:∀ H,tyV K "tuple" (.ref a_KINDS) H
 c_MANY:∃ u,mg "MANY"=some u/\RelV (.ref a_MANY) u
 q_MANY:∀ H,SqT K H a_MANY [.str "row",.str "bag",.str "choice",.str "ring"]
 y_MANY:∀ H,tyV K "tuple" (.ref a_MANY) H
variable {P:Program} {w:World} {K:YFr} {mg:Str->Option Value} {base:Heap} {f_qa f_qd f_qk f_q3 f_qe f_qf f_qn f_q6 f_q4 f_qu f_qc f_q2 f_q0 f_q1 f_q5 f_qp f_qq f_qg f_qh f_qb f_qm f_qo f_qr f_qj f_q7 f_q8 f_q9 f_ql f_qi f_qs f_qt t_q6 c_q6 t_qj c_qj a_KINDS a_MANY:Addr} {d_qa d_qd d_qk d_q3 d_qe d_qf d_qn d_q6 d_q4 d_qu d_qc d_q2 d_q0 d_q1 d_q5 d_qp d_qq d_qg d_qh d_qb d_qm d_qo d_qr d_qj d_q7 d_q8 d_q9 d_ql d_qi d_qs d_qt:FuncData} (T:TX K mg f_qa f_qd f_qk f_q3 f_qe f_qf f_qn f_q6 f_q4 f_qu f_qc f_q2 f_q0 f_q1 f_q5 f_qp f_qq f_qg f_qh f_qb f_qm f_qo f_qr f_qj f_q7 f_q8 f_q9 f_ql f_qi f_qs f_qt t_q6 c_q6 t_qj c_qj a_KINDS a_MANY d_qa d_qd d_qk d_q3 d_qe d_qf d_qn d_q6 d_q4 d_qu d_qc d_q2 d_q0 d_q1 d_q5 d_qp d_qq d_qg d_qh d_qb d_qm d_qo d_qr d_qj d_q7 d_q8 d_q9 d_ql d_qi d_qs d_qt)
noncomputable def Zfk:ASp:=fun us A Q=>∃ w:Wr,us=[w.toU]/\Q (.tup (w.parts.map Wr.toU)) A
section
include T
theorem ZfU:FnOk P w K mg base CX0 1 f_qa d_qa ["writing"] (spOf K Zfk):=by
 refine' Fun.okA T.F_qa (sc:=?sc) (body:=?bd) ?hs ?hb ZfA ?hB ?hS
 case hs=>conv=>lhs;whnf
 case hb=>conv=>lhs;whnf
 case hB=>exact fun S cdv A outer s H E hr=>⟨_,(Zg (Zz (i:=1) S.nd rfl (Or.inl rfl) (ZR o_ix (pv 0) Zh (fun _ _=>rfl)))
   (Zg (Zar (Zs o_in (pv 1) (pe_gv (by rfl) T.c_MANY) (by with_unfolding_all rfl)) (Zl (ZE (ZR o_ix (pv 0) Zh (fun _ _=>rfl)))) ZG)
   (Zg (Zar (Zs (Zbf hr) (pv 1) ZS (Z2 _)) (Zl (ZE (ZW Ze))) ZG)
   (Zl (ZE (ZK Za3 (pv 0) (ZO Zh) Z1)))))),(Zn (Zx (Zk ZQ Zb Zi) Zj)
   (Zn (ZZ (Zt (Zk Zb3 Zb (ab_c fun H=>.tup (T.q_MANY H) (.cons (.str _) (.cons (.str _) (.cons (.str _) (.cons (.str _) .nil))))))) (ZD (Zk ZQ Zb Zi)) ZF)
   (Zn (ZZ (Zt (Zk Zbg Zb ZT)) (ZD (ZY Zf)) ZF)
   (ZD (ZaV Zah Zb (ZP Zi) ZC)))))⟩
 rintro us A Q ⟨w,rfl,q⟩
 refine ⟨rfl,?_⟩
 walk_at "qs"
 rcases w.kinds with ⟨c,rfl⟩ | ⟨k,ps,rfl⟩ | hf
 ·rw [Wr.toU]
  walk_at "qd"
  refine ⟨rfl,rfl,ZB rfl ?_⟩
  walk_at "qd"
  refine iteTt rfl ⟨by decide,fg q⟩
 ·rw [Wr.toU_many]
  walk_at "qd"
  exact ⟨rfl,rfl,iteTt (ZbV k) (fg q)⟩
 ·rw [Wr.toU_few hf]
  walk_at "qd"
  refine ⟨rfl,rfl,ZB (Zbx hf.2) ?_⟩
  walk_at "qd"
  exact ZB (ZbJ hf.1) (fg q)
end
noncomputable def Zd1 (val:Wr->U):ASp:=fun us A Q=>∃ (w:Wr) (l:Addr),us=[w.toU,.ref l]/\A l=some (.lst (w.parts.map val))/\w.ok=true/\w.tups<=200/\Q (val w) A
noncomputable def encW (w:Wr):U:=.tup [w.toU,.int (w.parts.length:Nat)]
noncomputable def Zcf (val:Wr->U) (C:AHp->Prop) (Dw:Wr->Prop):ASp:=fun us A Q=>∃ (w:Wr) (l:Addr),us=[w.toU,.ref l]/\A l=some (.lst (w.parts.map val))/\w.ok=true/\w.tups<=200/\Dw w/\C A/\Q (val w) A
noncomputable def asp_foC (val:Wr->U) (C:AHp->Prop) (Dw:Wr->Prop) (fp fd:Addr):ASp:=fun us A Q=>∃ w:Wr,us=[w.toU,.ref fp,.ref fd]/\w.ok=true/\w.tups<=200/\(∀ v∈w.post,Dw v)/\C A/\Q (val w) A
noncomputable def ZfK (val:Wr->U) (C:AHp->Prop) (Dw:Wr->Prop) (fd:Addr):ASp:=fun us A Q=>∃ w:Wr,us=[w.toU,.ref fd]/\w.ok=true/\w.tups<=200/\(∀ v∈w.post,Dw v)/\C A/\Q (val w) A
section
include T
theorem Zc1 (k:Nat) {val:Wr->U} {C:AHp->Prop} {Dw:Wr->Prop} (hst:∀ A A',Ext A A'->C A->C A') {fp fd:Addr} {dp dd:FuncData} {pp pd:List Str} (G_parts:FnOk P w K mg base CX0 k fp dp pp (spOf K Zfk)) (hk_parts:PySem.W.keepIn K (.ref fp)=true) (hb_parts:Zao K dp pp [])
  (G_deed:FnOk P w K mg base CX0 k fd dd pd (spOf K (Zcf val C Dw))) (hk_deed:PySem.W.keepIn K (.ref fd)=true) (hb_deed:Zao K dd pd []):FnOk P w K mg base CX0 (k + 1) f_q3 d_q3 ["whole","parts","deed"] (spOf K (asp_foC val C Dw fp fd)):=by
 refine' Fun.okA T.F_q3 (sc:=?sc2) (body:=?bd2) ?hs2 ?hb2 ZdC ?hB2 ?hS2
 case hs2=>conv=>lhs;whnf
 case hb2=>conv=>lhs;whnf
 case hB2=>exact fun S cdv A outer s H E hr=>⟨_,(Zg (Zz (i:=3) S.nd rfl (Or.inl rfl) (ZaD Ze))
   (Zg (Zz (i:=4) S.nd rfl (Or.inl rfl) (ZaD (Za (pv 0) Ze)))
   (Zg (ps_while Y2 (pt_truth (pv 4) (fun _=>rfl)) (Zg (Zz (i:=5) S.nd rfl (Or.inl rfl) (pe_bm0 YY Ybv Ybw mt_pop (pv 4)))
   (Zg (Zz (i:=6) S.nd rfl (Or.inl rfl) (ZgS (G_parts.mono (by first | decide | lia)) hr (pv 1) hk_parts hb_parts .nil Z7 (Za (pv 5) Ze)))
   (Zg (ZcE (Zdy YY Yax Yay ZbB (pv 3) (Za (ZW (Za (pv 5) (Za (Zw Zbe (by rfl) T.n_len (by decide +kernel) (Za (pv 6) Ze)) Ze))) Ze)))
   (Zl (ZcE (Zdy YY PySem.F.slot_list_extend PySem.F.type_list_extend mt_extS (pv 4) (Za (pv 6) Ze))))))))
   (Zg (Zz (i:=7) S.nd rfl (Or.inl rfl) (ZaD Ze))
   (Zg (Zbz Y2 rfl (pj_rev rfl (by rfl) T.n_reversed (pv 3)) (ZgZ (n:=2) rfl (ZaT (ZH (i:=5) S.nd rfl (Or.inl rfl)) (ZaT (ZH (i:=8) S.nd rfl (Or.inl rfl)) ZcD)))
   (Zg (Zz (i:=9) S.nd rfl (Or.inl rfl) (ZL o_sub (Zw Zbe (by rfl) T.n_len (by decide +kernel) (Za (pv 7) Ze)) (pv 8)))
   (Zl (ps_asg (ZaD (Za (ZgS (G_deed.mono (by first | decide | lia)) hr (pv 2) hk_deed hb_deed .nil Z7 (Za (pv 5) (Za (ZK Za3 (pv 7) (ZO (pv 9)) Z1) Ze))) Ze)) (pg_tail (pv 7) (ZO (pv 9)))))))
   (Zl (ZE (ZR o_ix (pv 7) Zh (fun _ _=>rfl))))))))),(Zn (Zx (ZaC Zf) Zj)
   (Zn (Zx (ZaC (Zc Zb Zf)) Zj)
   (Zn (ab_while (ab_tru Zb) (Zn (Zx (ab_bm0 Za9 ab_mpop Zb) Zj)
   (Zn (Zx (Zg8 Zb (Zc Zb Zf)) Zj)
   (Zn (Zcr (Zei Za9 Zdb Zb (Zc (ZY (Zc Zb (Zc (Z4 ZaE (Zc Zb Zf)) Zf))) Zf)))
   (Zcr (Zei Za9 ab_mextS Zb (Zc Zb Zf)))))))
   (Zn (Zx (ZaC Zf) Zj)
   (Zn (Zbt (ab_jrev Zb) (ZcF (ZaU Zj (ZaU Zj Zcu)))
   (Zn (Zx (Zk ZgA (Z4 ZaE (Zc Zb Zf)) Zb) Zj)
   (Zx (ZaC (Zc (Zg8 Zb (Zc Zb (Zc (ZaV Zah Zb (ZP Zb) ZC) Zf))) Zf)) (ab_tail Zb (ZP Zb)))))
   (ZD (Zk ZQ Zb Zi)))))))⟩
 rintro us A Q ⟨w,rfl,hok,ht,hDw,hC,q⟩
 refine ⟨rfl,?_⟩
 walk_at "qs"
 walk_at "qd"
 refine ⟨by decide,fun o ho=>?_⟩
 walk_at "qd"
 refine ⟨tup1,fun wt hwt=>?_⟩
 walk_at "qd"
 have hne:o≠wt:=fun e=>by rw [e,Zd] at hwt;cases hwt
 have hw0:A wt=none:=by rw [Zm (Ne.symm hne)] at hwt;exact hwt
 refine while_A (fun ρ A2=>∃ (ws1 ws2:List Wr) (x5 x6:Option U),ρ=[some w.toU,some (.ref fp),some (.ref fd),some (.ref o),some (.ref wt),x5,x6,none,none,none]/\Ext A A2/\A2 o=some (.lst (ws1.map encW))/\A2 wt=some (.lst (ws2.map Wr.toU))/\ws1++(Za8 ws2).reverse=w.post.reverse)
  (fun ρ A2=>match A2 o with | some (.lst us)=>1000 - us.length | _=>0) ⟨[],[w],_,_,rfl,(Ext.new ho).trans (Ext.new hwt),by rw [Zm hne,Zd];rfl,by rw [Zd];rfl,by simp [Za8]⟩ ?_
 ·rintro ρ A2 ⟨ws1,ws2,x5,x6,rfl,he,h1,h2,hord⟩
  have hlen:ws1.length + Zp ws2=w.tups:=by
   have e:=congrArg List.length hord
   rw [Yh,Yaq,Yaq,Zc3,w.post_len] at e
   exact e
  walk_at "qd"
  refine ⟨_,h2,iteB (fun hb=>?_) fun hb=>?_⟩
  ·refine wh_goA ?_
   obtain ⟨ws0,x,rfl⟩:∃ ws0 x,ws2=ws0++[x]:=by
    rcases Yaw ws2 with rfl | ⟨a,b,rfl⟩
    ·cases hb
    ·exact ⟨a,b,by simp⟩
   rw [Zo] at hlen
   simp only [Zp] at hlen
   have hx:=x.tups_pos
   have hxp:=x.parts_tups
   have hl0:=ZaO ws0
   have hlp:=ZaO x.parts
   walk_at "qd"
   refine ⟨⟨_,h2⟩,ws0.map Wr.toU,x.toU,by rw [h2,Ym];rfl,?_⟩
   walk_at "qd"
   refine ⟨trivial,x,rfl,?_⟩
   walk_at "qd"
   have h1':updA A2 wt (.lst (ws0.map Wr.toU)) o=some (.lst (ws1.map encW)):=by rw [Zm hne];exact h1
   refine ⟨⟨_,h1'⟩,tup2,_,h1',Zbc (by rw [Yb];lia),?_⟩
   have h2':updA (updA A2 wt (.lst (ws0.map Wr.toU))) o (.lst (ws1.map encW++[.tup [x.toU,.int (x.parts.map Wr.toU).length]])) wt=some (.lst (ws0.map Wr.toU)):=by rw [Zm (Ne.symm hne),Zd]
   refine ⟨⟨_,h2'⟩,_,h2',Zr (by rw [Yb,Yb];lia),?_⟩
   refine ⟨⟨ws1++[x],ws0++x.parts,_,_,rfl,?_,?_,?_,?_⟩,?_⟩
   ·intro b u hb
    rw [Zm (neA hb hw0),Zm (neA hb ho),Zm (neA hb hw0)];exact he b u hb
   ·rw [Zm hne,Zd,Ym,Yb];rfl
   ·rw [Zd,Ym]
   ·rw [<- hord,Zc9,Zc9]
    simp [Za8,Wr.post_eq x]
   ·rw [Zm hne,Zd,h1]
    show 1000 - (ws1.map encW++[_]).length < 1000 - (ws1.map encW).length
    rw [Yh,List.length_singleton,Yb]
    lia
  ·have e2:ws2=[]:=by simpa using hb
   subst e2
   simp only [Za8,List.reverse_nil,Y8] at hord
   subst hord
   walk_at "qd"
   refine ⟨by decide,fun td htd=>?_⟩
   walk_at "qd"
   have h1t:updA A2 td (.lst []) o=some (.lst (w.post.reverse.map encW)):=by rw [Zm (neA h1 htd)];exact h1
   refine ⟨o,_,rfl,h1t,?_⟩
   have htA:A td=none:=by
    cases e:A td with
    | none=>rfl
    | some v=>rw [he td v e] at htd;cases htd
   have hot:o≠td:=neA h1 htd
   refine for_revA (w.post.reverse.map encW) (fun k ρ A3=>∃ (S:List Wr) (x5 x6 x8 x9:Option U),ρ=[some w.toU,some (.ref fp),some (.ref fd),some (.ref o),some (.ref wt),x5,x6,some (.ref td),x8,x9]/\Ext A A3/\A3 o=some (.lst (w.post.reverse.map encW))/\A3 td=some (.lst (S.map val))/\S.length<=k/\Run S (w.post.drop k) [w])
    ⟨[],_,_,_,_,rfl,he.trans (Ext.new htd),h1t,by rw [Zd];rfl,Yg _,by simpa using w.run_all⟩ (fun k ρ A3 _ ⟨_,_,_,_,_,_,_,h,_⟩=>h) ?_ ?_
   ·rintro k u ρ A3 hu ⟨S,y5,y6,y8,y9,rfl,he3,h3,ht3,hSl,run⟩
    rw [<- YbX,List.reverse_reverse,Yr] at hu
    obtain ⟨y,hy,rfl⟩:=Yak.mp hu
    have hmem:=w.post_mem y (Yn hy) hok
    obtain ⟨hkl,e⟩:=Yp.mp hy
    rw [w.post_len] at hkl
    rw [YaM (by rw [w.post_len];exact hkl),e] at run
    obtain ⟨S0,rfl,run⟩:=run
    rw [Yh] at hSl
    unfold encW
    walk_at "qd"
    refine ⟨rfl,?_⟩
    walk_at "qd"
    refine ⟨_,ht3,?_⟩
    walk_at "qd"
    refine ⟨trivial,?_⟩
    have efst:(((S0++y.parts).map val).length:Int) - ((y.parts.length:Nat):Int)=((S0.length:Nat):Int):=by rw [Yb,Yh];lia
    refine ⟨_,ht3,fun l2 hl2=>?_⟩
    rw [efst]
    refine ⟨y,l2,rfl,by rw [Zd,Ym];rw [show ((S0.length:Nat):Int)=(((S0.map val).length:Nat):Int) from by rw [Yb],Zik],hmem.1,by lia,hDw y (Yn hy),hst _ _ (he3.trans (Ext.new hl2)) hC,tup1,fun l3 hl3=>?_⟩
    have n3:A3 l2=none:=hl2
    have n4:A3 l3=none:=by
     cases e:A3 l3 with
     | none=>rfl
     | some v=>rw [Zm (neA e n3)] at hl3;rw [e] at hl3;cases hl3
    have d2:td≠l2:=neA ht3 n3
    have d3:td≠l3:=neA ht3 n4
    have ht5:updA (updA A3 l2 (.lst (cutU ((S0++y.parts).map val) (some ((S0.length:Nat):Int)) none))) l3 (.lst [val y]) td=some (.lst ((S0++y.parts).map val)):=by rw [Zm d3,Zm d2];exact ht3
    refine ⟨td,l3,_,[val y],_,rfl,rfl,rfl,ht5,Zd,d3,by lia,by rw [Yb,Yh];lia,Zr (by rw [Yb,Yh,List.length_singleton];lia),S0++[y],_,_,_,_,rfl,?_,?_,?_,?_,run⟩
    ·intro b u hb
     rw [Zm (neA hb htA),Zm (neA (he3 b u hb) n4),Zm (neA (he3 b u hb) n3)];exact he3 b u hb
    ·rw [Zm hot,Zm (neA h3 n4),Zm (neA h3 n3)];exact h3
    ·rw [Zd,Int.toNat_natCast,Ym,Ym,List.take_left' (by rw [Yb])];rfl
    ·rw [Yh,List.length_singleton];lia
   ·rintro ρ A3 ⟨S,y5,y6,y8,y9,rfl,he3,h3,ht3,hSl,run⟩
    rw [Yb,Yaq,List.drop_length] at run
    obtain rfl:S=[w]:=run
    walk_at "qd"
    exact ⟨_,_,ht3,Zau (j:=0) rfl,fgx he3 q⟩
theorem ZdN (k:Nat) (hk:1<=k) {val:Wr->U} {C:AHp->Prop} {Dw:Wr->Prop} (hst:∀ A A',Ext A A'->C A->C A') {fd:Addr} {dd:FuncData} {pd:List Str} (G_deed:FnOk P w K mg base CX0 k fd dd pd (spOf K (Zcf val C Dw))) (hk_deed:PySem.W.keepIn K (.ref fd)=true) (hb_deed:Zao K dd pd []):FnOk P w K mg base CX0 (k + 2) f_qk d_qk ["writing","deed"] (spOf K (ZfK val C Dw fd)):=by
 have G_q3:=Zc1 (P:=P) (w:=w) (base:=base) T k hst ((ZfU (P:=P) (w:=w) (base:=base) T).mono hk) T.F_qa.kp T.B_qa G_deed hk_deed hb_deed
 refine' Fun.okA T.F_qk (sc:=?sc3) (body:=?bd3) ?hs3 ?hb3 Zi6 ?hB3 ?hS3
 case hs3=>conv=>lhs;whnf
 case hb3=>conv=>lhs;whnf
 case hB3=>exact fun S cdv A outer s H E hr=>⟨_,(Zl (ZE (Zu (G_q3.mono (by first | decide | lia)) hr (by rfl) T.M_q3 T.F_q3.kp T.B_q3 .nil Z7 (Za (pv 0) (Za (Zc8 (v:=.ref f_qa) (by rfl) T.M_qa rfl) (Za (pv 1) Ze)))))),(ZD (Zv (Zc Zb (Zc Zju (Zc Zb Zf)))))⟩
 rintro us A Q ⟨w,rfl,hok,ht,hDw,hC,q⟩
 refine ⟨rfl,?_⟩
 walk_at "qs"
 walk_at "qd"
 exact ⟨w,rfl,hok,ht,hDw,hC,fg q⟩
end
section
include T
theorem ZiJ:FnOk P w K mg base CX0 1 f_qn d_qn ["figure","keys"] (spOf K (Zd1 Wr.keyU)):=by
 refine' Fun.okA T.F_qn (sc:=?sc4) (body:=?bd4) ?hs4 ?hb4 ZhX ?hB4 ?hS4
 case hs4=>conv=>lhs;whnf
 case hb4=>conv=>lhs;whnf
 case hB4=>exact fun S cdv A outer s H E hr=>⟨_,(Zg (Zar (Zs (Zbf hr) (ZR o_ix (pv 0) Zh (fun _ _=>rfl)) ZS (Z2 _)) (Zl (ZE (ZW (Za Zh (Za (Zdy YbY YbZ Yb0 Zjz (pe_gv (by rfl) T.c_KINDS) (Za ZS Ze)) (Za (ZR o_ix (pv 0) Zh (fun _ _=>rfl)) Ze)))))) ZG)
   (Zg (Zz (i:=2) S.nd rfl (Or.inl rfl) (Zw (Zez rfl) (by rfl) T.n_sum (by decide +kernel) (Za (ZaF (ts:=["key"]) (frs':=[]) (cl:=[]) rfl ⟨rfl,rfl,(by decide +kernel),(by decide +kernel),(fun _ z=>nomatch z),(ZV rfl rfl),(fun _ z=>nomatch z)⟩ (ZaH (pv 1)) (fun _ _ _ _=>ZH (i:=0) nd1 rfl (Or.inl rfl) (.inr rfl)) (fun _ _ _ _=>Z3) (fun _ _ _ _=>by exact (ZR (k_ix K rfl) (pv 0) Zh (fun _ _=>rfl)))) Ze)))
   (Zl (ZE (ZL Z0 (ZW (Za (pv 2) (Za (Zdy YbY YbZ Yb0 Zjz (pe_gv (by rfl) T.c_KINDS) (Za (ZR o_ix (pv 0) Zh (fun _ _=>rfl)) Ze)) Ze))) (Zaj Za6 (by rfl) T.n_tuple (by decide +kernel) (Za (pv 1) Ze))))))),(Zn (ZZ (Zt (Zk Zbg (Zk ZQ Zb Zi) ZT)) (ZD (ZY (Zc Zi (Zc (Zh6 ["nothing","bead","left","right","pair","row","bag","choice","ring"] T.y_KINDS T.q_KINDS (Zc ZT Zf)) (Zc (Zk ZQ Zb Zi) Zf))))) ZF)
   (Zn (Zx (Z4 ZcK (Zc (Zak (ZaI Zab Zb) Zj Zal (Zk ZQ Zb Zi)) Zf)) Zj)
   (ZD (Zk ZX (ZY (Zc Zb (Zc (Zh6 ["nothing","bead","left","right","pair","row","bag","choice","ring"] T.y_KINDS T.q_KINDS (Zc (Zk ZQ Zb Zi) Zf)) Zf))) (Z4 ZaL (Zc Zb Zf))))))⟩
 rintro us A Q ⟨w,l,rfl,hl,hok,ht,q⟩
 refine ⟨rfl,?_⟩
 walk_at "qs"
 have hpt:=w.parts_tups
 have hpl:=ZaO w.parts
 rcases bead_or w with ⟨c,rfl⟩ | hb
 ·rw [Wr.toU]
  walk_at "qd"
  refine iteTt rfl ?_
  walk_at "qd"
  refine ⟨_,1,rfl,(Wr.bead c).kidx_at.1,(Wr.bead c).kidx_at.2,?_⟩
  walk_at "qd"
  exact ⟨tup3,fg q⟩
 ·obtain ⟨rest,e⟩:∃ rest,w.toU=.tup (.str w.name::rest):=by
   rcases w.kinds with ⟨c,rfl⟩ | ⟨k,ps,rfl⟩ | hf
   ·exact absurd rfl (hb c)
   ·exact ⟨_,Wr.toU_many k ps⟩
   ·exact ⟨_,Wr.toU_few hf⟩
  rw [e]
  walk_at "qd"
  refine ZB (ZbJ hb) ?_
  walk_at "qd"
  refine ⟨⟨_,hl⟩,fun p hp=>?_⟩
  walk_at "qc"
  refine Zbn w.parts Wr.keyU (fun w=>.int (w.size:Nat)) hp (by lia) (fun k A2 _ he=>⟨_,he _ _ hl,rfl⟩) (fun x A2 hx he Cy hc=>?_) ?_
  ·obtain ⟨r,e2⟩:=x.keyU_head
   rw [e2]
   walk_at "qd"
   exact hc
  ·walk_at "qd"
   refine ⟨w.parts.map fun w=>((w.size:Nat):Int),by rw [Zd,YO];rfl,?_⟩
   walk_at "qd"
   refine ⟨w.name,w.kidx,rfl,w.kidx_at.1,w.kidx_at.2,tup2,_,Ext.new hp _ _ hl,?_⟩
   walk_at "qd"
   refine ⟨Zr (by simp only [List.length_cons,List.length_nil,Yb];lia),fgx (Ext.new hp) ?_⟩
   rw [ZbO,<- w.size_parts hb]
   rw [w.keyU_parts hb] at q
   exact q
end
theorem Zes {ws:List Wr}:okL ws=true ↔ ∀ w∈ws,w.ok=true:=by
 induction ws with
 | nil=>simp [okL]
 | cons w ws ih=>simp [okL,ih]
theorem Zet {ws:List Wr} {n:Nat}:depL ws<=n ↔ ∀ w∈ws,w.dep<=n:=by
 induction ws with
 | nil=>simp [depL]
 | cons w ws ih=>simp only [depL,List.forall_mem_cons,<- ih];lia
theorem ZeV:∀ {xs:List PyData},(∀ x∈xs,x.canLay0=true)->PyData.canLayAll0 xs=true
 | [],_=>rfl
 | x::xs,h=>by simp only [PyData.canLayAll0,Yc];exact ⟨h x (.head _),ZeV fun a ha=>h a (.tail _ ha)⟩
theorem kd_ok {vs:List Wr} (h:okL vs=true) (hd:depL vs<=95):(kdL Wr.keyD vs).canLay0=true/\(kdL Wr.keyD vs).depth<=190:=by
 unfold kdL
 constructor
 ·simp only [PyData.canLay0]
  exact ZeV fun x hx=>by obtain ⟨w,hw,rfl⟩:=Yk.mp hx;exact w.canK (Zes.mp h w hw)
 ·simp only [PyData.depth]
  have:=Zjt vs
  rw [Zbl] at this
  lia
theorem kd_lt (vs ws:List Wr):okLt (kdL Wr.keyD vs) (kdL Wr.keyD ws)=true:=by
 unfold kdL
 simp only [okLt]
 have:=okKL vs ws
 rw [Zbl,Zbl] at this
 exact this
theorem kd_du {A:AHp} {p:Addr} {vs:List Wr} (h:A p=some (.lst (vs.map Wr.keyU))):DU A (.ref p) (kdL Wr.keyD vs):=by
 have e:∀ vs:List Wr,DUs A (vs.map Wr.keyU) (vs.map Wr.keyD):=by
  intro vs
  induction vs with
  | nil=>exact .nil
  | cons v vs ih=>exact .cons v.duK ih
 exact .lst h (e vs)
theorem ZfZ {ws:List Wr} (i:Nat) (h:okL ws=true):okL (turnL ws i)=true:=Zes.mpr fun w hw=>Zes.mp h w ((ZN ws i).mem_iff.mp hw)
theorem Zed {ws:List Wr} {n:Nat} (i:Nat) (h:depL ws<=n):depL (turnL ws i)<=n:=Zet.mpr fun w hw=>Zet.mp h w ((ZN ws i).mem_iff.mp hw)
theorem ZbT {xs:List U} {k:Nat} (h:k<=xs.length):cutU xs (some (k:Int)) none=xs.drop k:=by
 unfold cutU
 rw [HT.sIx_nat,HT.sIx_none,Ya6 h,Yal (by rw [YR];lia)]
theorem ZdG {xs:List U} {k:Nat} (h:k<=xs.length):cutU xs none (some (k:Int))=xs.take k:=by
 unfold cutU
 rw [HT.sIx_nat,HT.sIx_none,Ya6 h,YaB,Nat.sub_zero]
noncomputable def Zit:ASp:=fun us A Q=>∃ (l:Addr) (ws:List Wr),us=[.ref l]/\A l=some (.lst (ws.map Wr.keyU))/\okL ws=true/\ws.length<=1000/\depL ws<=95/\Q (.int (bestT Wr.keyD ws:Nat)) A
noncomputable def asp_made:ASp:=fun us A Q=>∃ (l:Addr) (w:Wr),us=[.str w.name,.ref l]/\A l=some (.lst (w.parts.map Wr.toU))/\w.ok=true/\(∀ c,w≠.bead c)/\w.parts.length<=1000/\Q w.toU A
section
include T
theorem ok_least:FnOk P w K mg base CX0 1 f_q4 d_q4 ["keys"] (spOf K Zit):=by
 refine' Fun.okA T.F_q4 (sc:=?sc5) (body:=?bd5) ?hs5 ?hb5 ZdE ?hB5 ?hS5
 case hs5=>conv=>lhs;whnf
 case hb5=>conv=>lhs;whnf
 case hB5=>exact fun S cdv A outer s H E hr=>⟨_,(Zg (Zz (i:=1) S.nd rfl (Or.inl rfl) Zh)
   (Zg (Zz (i:=2) S.nd rfl (Or.inl rfl) (pv 0))
   (Zg (Zbz Y2 rfl (Ze1 rfl T.n_range (Za Zh (Za (Zw Zbe (by rfl) T.n_len (by decide +kernel) (Za (pv 0) Ze)) Ze))) (ZH (i:=3) S.nd rfl (Or.inl rfl))
   (Zg (Zz (i:=4) S.nd rfl (Or.inl rfl) (ZL Z0 (ZK Za3 (pv 0) (ZO (pv 3)) Z1) (ZK Za3 (pv 0) Z1 (ZO (pv 3)))))
   (Zl (Zar (Zs (o_ltD hr) (pv 4) (pv 2) (Z2 _)) (Zg (Zz (i:=1) S.nd rfl (Or.inl rfl) (pv 3))
   (Zl (Zz (i:=2) S.nd rfl (Or.inl rfl) (pv 4)))) ZG))))
   (Zl (ZE (pv 1)))))),(Zn (Zx Zi Zj)
   (Zn (Zx Zb Zj)
   (Zn (Zbt (Zgk (Zc Zi (Zc (Z4 ZaE (Zc Zb Zf)) Zf))) Zj
   (Zn (Zx (Zk ZX (ZaV Zah Zb (ZP Zb) ZC) (ZaV Zah Zb ZC (ZP Zb))) Zj)
   (ZZ (Zt (Zk ab_ltD Zb Zb)) (Zn (Zx Zb Zj)
   (Zx Zb Zj)) ZF)))
   (ZD Zb))))⟩
 rintro us A Q ⟨l,ws,rfl,hl,hok,hn,hd,q⟩
 refine ⟨rfl,?_⟩
 walk_at "qs"
 walk_at "qd"
 refine ⟨_,hl,⟨by decide,by decide,by rw [Yb];lia,by rw [Yb];lia⟩,?_⟩
 rw [Yb]
 have en:((ws.length:Int) - 1).toNat=ws.length - 1:=by lia
 rw [en]
 refine Zfv (fun k ρ A2=>∃ (x3 x4:Option U) (p:Addr),ρ=[some (.ref l),some (.int (argBest (fun i j=>ltv (kdL Wr.keyD (turnL ws i)) (kdL Wr.keyD (turnL ws j))) k:Nat)),some (.ref p),x3,x4]/\Ext A A2 /\
  A2 p=some (.lst ((turnL ws (argBest (fun i j=>ltv (kdL Wr.keyD (turnL ws i)) (kdL Wr.keyD (turnL ws j))) k)).map Wr.keyU))) ⟨_,_,l,rfl,Ext.refl A,by rw [hl];show _=some (AO.lst ((ws.drop 0++ws.take 0).map Wr.keyU));simp⟩ ?_ ?_
 ·rintro k ρ A2 hk ⟨x3,x4,p,rfl,hE,hp⟩
  have hb:=Zbq (lt:=fun i j=>ltv (kdL Wr.keyD (turnL ws i)) (kdL Wr.keyD (turnL ws j))) k
  have ek:(1:Int) + (k:Int)=((k + 1:Nat):Int):=by lia
  rw [ek]
  walk_at "qd"
  have hl2:=hE _ _ hl
  refine ⟨_,hl2,fun p1 hp1=>⟨_,by rw [Zm (neA hl2 hp1)];exact hl2,fun p2 hp2=>?_⟩⟩
  rw [ZbT (by rw [Yb];lia)] at hp2 ⊢
  rw [ZdG (by rw [Yb];lia)]
  have n12:p1≠p2:=neA Zd hp2
  have hp2A:A2 p2=none:=by rw [Zm (Ne.symm n12)] at hp2;exact hp2
  refine ⟨_,_,by rw [Zm n12,Zd],Zd,Zr (by simp;lia),fun p3 hp3=>?_⟩
  have n13:p1≠p3:=fun e=>by rw [<- e,Zm n12,Zd] at hp3;cases hp3
  have n23:p2≠p3:=neA Zd hp3
  have hp3A:A2 p3=none:=by rw [Zm (Ne.symm n23),Zm (Ne.symm n13)] at hp3;exact hp3
  have et:(ws.map Wr.keyU).drop (k + 1)++(ws.map Wr.keyU).take (k + 1)=(turnL ws (k + 1)).map Wr.keyU:=by unfold turnL;rw [Ym,Yaf,Y5]
  rw [et]
  have e1:Ext A2 (updA (updA (updA A2 p1 (.lst ((ws.map Wr.keyU).drop (k + 1)))) p2 (.lst ((ws.map Wr.keyU).take (k + 1)))) p3 (.lst ((turnL ws (k + 1)).map Wr.keyU))):=(Ext.new hp1).trans ((Ext.new hp2).trans (Ext.new hp3))
  have a3:(updA (updA (updA A2 p1 (.lst ((ws.map Wr.keyU).drop (k + 1)))) p2 (.lst ((ws.map Wr.keyU).take (k + 1)))) p3 (.lst ((turnL ws (k + 1)).map Wr.keyU))) p3=some (.lst ((turnL ws (k + 1)).map Wr.keyU)):=Zd
  generalize (updA (updA (updA A2 p1 (.lst ((ws.map Wr.keyU).drop (k + 1)))) p2 (.lst ((ws.map Wr.keyU).take (k + 1)))) p3 (.lst ((turnL ws (k + 1)).map Wr.keyU)))=A3 at e1 a3 ⊢
  have o1:=kd_ok (ZfZ (k + 1) hok) (Zed (k + 1) hd)
  have o2:=kd_ok (ZfZ (argBest (fun i j=>ltv (kdL Wr.keyD (turnL ws i)) (kdL Wr.keyD (turnL ws j))) k) hok) (Zed (argBest (fun i j=>ltv (kdL Wr.keyD (turnL ws i)) (kdL Wr.keyD (turnL ws j))) k) hd)
  refine ⟨kdL Wr.keyD (turnL ws (k + 1)),kdL Wr.keyD (turnL ws (argBest (fun i j=>ltv (kdL Wr.keyD (turnL ws i)) (kdL Wr.keyD (turnL ws j))) k)),kd_du a3,kd_du (e1 _ _ hp),o1.1,o2.1,kd_lt _ _,o1.2,o2.2,?_⟩
  by_cases c:ltv (kdL Wr.keyD (turnL ws (k + 1))) (kdL Wr.keyD (turnL ws (argBest (fun i j=>ltv (kdL Wr.keyD (turnL ws i)) (kdL Wr.keyD (turnL ws j))) k)))=true
  ·have eb:argBest (fun i j=>ltv (kdL Wr.keyD (turnL ws i)) (kdL Wr.keyD (turnL ws j))) (k + 1)=k + 1:=if_pos c
   rw [if_pos c]
   exact ⟨_,_,p3,by rw [eb],hE.trans e1,by rw [eb];exact a3⟩
  ·have eb:argBest (fun i j=>ltv (kdL Wr.keyD (turnL ws i)) (kdL Wr.keyD (turnL ws j))) (k + 1)=argBest (fun i j=>ltv (kdL Wr.keyD (turnL ws i)) (kdL Wr.keyD (turnL ws j))) k:=if_neg c
   rw [if_neg c]
   exact ⟨_,_,p,by rw [eb],hE.trans e1,by rw [eb];exact e1 _ _ hp⟩
 ·rintro ρ A2 ⟨x3,x4,p,rfl,hE,hp⟩
  walk_at "qd"
  exact fgx hE q
theorem ok_made:FnOk P w K mg base CX0 1 f_qd d_qd ["kind","parts"] (spOf K asp_made):=by
 refine' Fun.okA T.F_qd (sc:=?sc6) (body:=?bd6) ?hs6 ?hb6 Zhf ?hB6 ?hS6
 case hs6=>conv=>lhs;whnf
 case hb6=>conv=>lhs;whnf
 case hB6=>exact fun S cdv A outer s H E hr=>⟨_,(Zg (Zar (Zs o_in (pv 0) (pe_gv (by rfl) T.c_MANY) (by with_unfolding_all rfl)) (Zl (ZE (ZW (Za (pv 0) (Za (Zaj Za6 (by rfl) T.n_tuple (by decide +kernel) (Za (pv 1) Ze)) Ze))))) ZG)
   (Zl (ZE (ZL Z0 (ZW (Za (pv 0) Ze)) (Zaj Za6 (by rfl) T.n_tuple (by decide +kernel) (Za (pv 1) Ze)))))),(Zn (ZZ (Zt (Zk Zb3 Zb (ab_c fun H=>.tup (T.q_MANY H) (.cons (.str _) (.cons (.str _) (.cons (.str _) (.cons (.str _) .nil))))))) (ZD (ZY (Zc Zb (Zc (Z4 ZaL (Zc Zb Zf)) Zf)))) ZF)
   (ZD (Zk ZX (ZY (Zc Zb Zf)) (Z4 ZaL (Zc Zb Zf)))))⟩
 rintro us A Q ⟨l,w,rfl,hl,hok,hb,hn,q⟩
 refine ⟨rfl,?_⟩
 walk_at "qs"
 walk_at "qd"
 rcases w.kinds with ⟨c,rfl⟩ | ⟨k,ps,rfl⟩ | hf
 ·exact absurd rfl (hb c)
 ·refine ⟨rfl,rfl,iteTt (ZbV k) ⟨_,hl,tup2,fg ?_⟩⟩
  rw [Wr.toU_many] at q;exact q
 ·refine ⟨rfl,rfl,ZB (Zbx hf.2) ⟨tup1,_,hl,Zr (by rw [Yb];simp only [List.length_cons,List.length_nil];lia),fg ?_⟩⟩
  rw [Wr.toU_few hf] at q;exact q
end
noncomputable def Zfu:Pos:=⟨46,32,46,50⟩
noncomputable def gP (w:Wr):U:=.tup [w.pl.toU,w.pl.keyU]
noncomputable def gQ (w:Wr):U:=.tup [w.toU,w.keyU]
theorem Zgp {w:Wr} (h:w.few):inU (.str w.name) [.str "bag",.str "choice"]=false/\decide (w.name=Str.ofString "ring")=false:=by
 cases w with
 | nothing=>exact ⟨by decide +kernel,by decide +kernel⟩
 | bead c=>exact absurd rfl (h.1 c)
 | side b f =>
  cases b
  ·exact ⟨(by show inU (.str "left") [.str "bag",.str "choice"]=false;decide +kernel),(by show decide (("left":Str)=Str.ofString "ring")=false;decide +kernel)⟩
  ·exact ⟨(by show inU (.str "right") [.str "bag",.str "choice"]=false;decide +kernel),(by show decide (("right":Str)=Str.ofString "ring")=false;decide +kernel)⟩
 | pair f g=>exact ⟨(by show inU (.str "pair") [.str "bag",.str "choice"]=false;decide +kernel),(by show decide (("pair":Str)=Str.ofString "ring")=false;decide +kernel)⟩
 | many k ps=>exact absurd rfl (h.2 k ps)
noncomputable def Zf8 (t:Addr):ASp:=fun us A Q=>∃ (w:Wr) (l:Addr),us=[w.toU,.ref l]/\A l=some (.lst (w.parts.map gP))/\w.ok=true/\w.nrm=true/\w.tups<=200/\w.dep<=95/\w.parts.length < 64/\A t=some (tblO Zfu "plain_by.<locals>.<lambda>")/\Q (gP w) A
section
include T
theorem Zf3 (hBA_q6:base.BuiltinsAt mg t_q6):FnOk P w K mg base CX0 6 f_q6 d_q6 ["writing","told"] (spOf K (Zf8 t_q6)):=by
 have G_qn:=ZiJ (P:=P) (w:=w) (base:=base) T
 have G_q4:=ok_least (P:=P) (w:=w) (base:=base) T
 have G_qd:=ok_made (P:=P) (w:=w) (base:=base) T
 refine' Fun.okL T.F_q6 T.C_q6 (sc:=?sc7) (body:=?bd7) ?hs7 ?hb7 ZfN ?hB7 ?hS7
 case hs7=>conv=>lhs;whnf
 case hb7=>conv=>lhs;whnf
 case hB7=>exact fun S A outer s H E hr=>⟨_,(Zg (Zz (i:=2) S.nd rfl (Or.inl rfl) (ZR o_ix (pv 0) Zh (fun _ _=>rfl)))
   (Zg (Zar (Zs (Zbf hr) (pv 2) ZS (Z2 _)) (Zl (ZE (ZW (Za (pv 0) (Za (Zu (G_qn.mono (by first | decide | lia)) hr (by rfl) T.M_qn T.F_qn.kp T.B_qn .nil Z7 (Za (pv 0) (Za (ZaD Ze) Ze))) Ze))))) ZG)
   (Zg (Zar (Zs o_in (pv 2) (ZW (Za ZS (Za ZS Ze))) (by with_unfolding_all rfl)) (Zl (Zz (i:=1) S.nd rfl (Or.inl rfl) (pe_sortL (N:=["row"]) (y:="row") (qual:="plain_by.<locals>.<lambda>") hr (by rfl) T.n_sorted (pv 1) rfl T.H_q6 (by rfl) hBA_q6 T.Z_q6 (by show (Str.ofString "plain_by"++".<locals>."++"<lambda>":Str)=_;decide +kernel) ⟨rfl,rfl,rfl,by decide +kernel,rfl,by decide +kernel,by decide +kernel⟩ rfl rfl (fun _ _ _ _=>rfl) (fun fl c s H hr=>⟨_,(ZR (k_ix K rfl) (pv 0) Zh (fun _ _=>rfl)),(Zk ZQ Zb Zi)⟩)))) ZG)
   (Zg (Zar (Zs (Zbf hr) (pv 2) ZS (Z2 _)) (Zg (Zz (i:=3) S.nd rfl (Or.inl rfl) (Zu (G_q4.mono (by first | decide | lia)) hr (by rfl) T.M_q4 T.F_q4.kp T.B_q4 .nil Z7 (Za (ZaF (ts:=["part","key"]) (frs':=[]) (cl:=[]) rfl ⟨rfl,rfl,(by decide +kernel),(by decide +kernel),(fun _ z=>nomatch z),(ZV rfl rfl),(fun _ z=>nomatch z)⟩ (ZaH (pv 1)) (fun _ _ _ _=>Zf2 K rfl 2 rfl (ZaT (ZH (i:=0) (show List.Nodup (["part","key"]:List Str) from by decide +kernel) rfl (Or.inl rfl) (.inr rfl)) (ZaT (ZH (i:=1) (show List.Nodup (["part","key"]:List Str) from by decide +kernel) rfl (Or.inl rfl) (.inr rfl)) ZcD)) (by rfl) (by rfl)) (fun _ _ _ _=>Z3) (fun _ _ _ _=>by exact (pv 1))) Ze)))
   (Zl (Zz (i:=1) S.nd rfl (Or.inl rfl) (ZL Z0 (ZK Za3 (pv 1) (ZO (pv 3)) Z1) (ZK Za3 (pv 1) Z1 (ZO (pv 3))))))) ZG)
   (Zg (Zz (i:=4) S.nd rfl (Or.inl rfl) (Zu (G_qd.mono (by first | decide | lia)) hr (by rfl) T.M_qd T.F_qd.kp T.B_qd .nil Z7 (Za (pv 2) (Za (ZaF (ts:=["part","key"]) (frs':=[]) (cl:=[]) rfl ⟨rfl,rfl,(by decide +kernel),(by decide +kernel),(fun _ z=>nomatch z),(ZV rfl rfl),(fun _ z=>nomatch z)⟩ (ZaH (pv 1)) (fun _ _ _ _=>Zf2 K rfl 2 rfl (ZaT (ZH (i:=0) (show List.Nodup (["part","key"]:List Str) from by decide +kernel) rfl (Or.inl rfl) (.inr rfl)) (ZaT (ZH (i:=1) (show List.Nodup (["part","key"]:List Str) from by decide +kernel) rfl (Or.inl rfl) (.inr rfl)) ZcD)) (by rfl) (by rfl)) (fun _ _ _ _=>Z3) (fun _ _ _ _=>by exact (pv 0))) Ze))))
   (Zl (ZE (ZW (Za (pv 4) (Za (Zu (G_qn.mono (by first | decide | lia)) hr (by rfl) T.M_qn T.F_qn.kp T.B_qn .nil Z7 (Za (pv 4) (Za (ZaF (ts:=["part","key"]) (frs':=[]) (cl:=[]) rfl ⟨rfl,rfl,(by decide +kernel),(by decide +kernel),(fun _ z=>nomatch z),(ZV rfl rfl),(fun _ z=>nomatch z)⟩ (ZaH (pv 1)) (fun _ _ _ _=>Zf2 K rfl 2 rfl (ZaT (ZH (i:=0) (show List.Nodup (["part","key"]:List Str) from by decide +kernel) rfl (Or.inl rfl) (.inr rfl)) (ZaT (ZH (i:=1) (show List.Nodup (["part","key"]:List Str) from by decide +kernel) rfl (Or.inl rfl) (.inr rfl)) ZcD)) (by rfl) (by rfl)) (fun _ _ _ _=>Z3) (fun _ _ _ _=>by exact (pv 1))) Ze))) Ze)))))))))),(Zn (Zx (Zk ZQ Zb Zi) Zj)
   (Zn (ZZ (Zt (Zk Zbg Zb ZT)) (ZD (ZY (Zc Zb (Zc (Zv (Zc Zb (Zc (ZaC Zf) Zf))) Zf)))) ZF)
   (Zn (ZZ (Zt (Zk Zb3 Zb (ZY (Zc ZT (Zc ZT Zf))))) (Zx (ab_sortL Zb) Zj) ZF)
   (Zn (ZZ (Zt (Zk Zbg Zb ZT)) (Zn (Zx (Zv (Zc (Zak (ZaI Zab Zb) (ZcF (ZaU Zj (ZaU Zj Zcu))) Zal Zb) Zf)) Zj)
   (Zx (Zk ZX (ZaV Zah Zb (ZP Zb) ZC) (ZaV Zah Zb ZC (ZP Zb))) Zj)) ZF)
   (Zn (Zx (Zv (Zc Zb (Zc (Zak (ZaI Zab Zb) (ZcF (ZaU Zj (ZaU Zj Zcu))) Zal Zb) Zf))) Zj)
   (ZD (ZY (Zc Zb (Zc (Zv (Zc Zb (Zc (Zak (ZaI Zab Zb) (ZcF (ZaU Zj (ZaU Zj Zcu))) Zal Zb) Zf))) Zf)))))))))⟩
 rintro us A Q ⟨w,l,rfl,hl,hok,hnr,ht,hd,hn,hT,q⟩
 refine ⟨rfl,?_⟩
 walk_at "qs"
 rcases w.kinds with ⟨c,rfl⟩ | ⟨k,ps,rfl⟩ | hf
 ·rw [Wr.toU]
  walk_at "qd"
  refine iteTt rfl ⟨by decide,fun p hp=>⟨.bead c,p,by rw [Wr.toU],Zd,hok,ht,?_⟩⟩
  walk_at "qd"
  refine ⟨tup2,fgx (Ext.new hp) ?_⟩
  unfold gP at q
  simp only [Wr.pl,Wr.toU] at q
  exact q
 ·rw [Wr.toU_many]
  walk_at "qd"
  simp only [Wr.nrm,Yc,YC] at hnr
  have hl:A l=some (.lst (ps.map gP)):=hl
  have hn:ps.length < 64:=hn
  have hk3:=hnr.1
  have eg:ps.map gP=(plnL ps).map gQ:=by rw [ZM,YO];rfl
  have ed:((plnL ps).map gQ).map (fun u=>u.snd.dat)=(plnL ps).map Wr.keyD:=by
   rw [YO]
   exact Yap fun w _=>w.dat_key
  have hnl:(plnL ps).length=ps.length:=by rw [ZM,Yb]
  refine ZB (nbm k) ⟨by decide,rfl,rfl,?_⟩
  by_cases c:k=1\/k=2
  ·have nr : decide (Zaq k=Str.ofString "ring")=false:=by rcases c with rfl | rfl <;> decide +kernel
   refine iteTt (by rcases c with rfl | rfl <;> decide +kernel) ?_
   rw [eg] at hl
   refine ⟨l,(plnL ps).map gQ,U.snd,fun u=>u.snd.dat,rfl,hT,hl,by rw [Yb,hnl];exact hn,?_,?_,?_,?_,fun D hD=>?_⟩
   ·rw [ed,YO]
    have:∀ vs:List Wr,DUs A (vs.map (U.snd ∘ gQ)) (vs.map Wr.keyD):=by
     intro vs
     induction vs with
     | nil=>exact .nil
     | cons v vs ih=>exact .cons v.duK ih
    exact this _
   ·rw [ed]
    have hokL:okL (plnL ps)=true:=by rw [Zem];exact hok
    have hdL:depL (plnL ps)<=95:=by rw [ZbU];simp only [Wr.dep] at hd;lia
    refine ⟨fun d hd'=>?_,fun d hd' e he=>?_⟩
    ·obtain ⟨w,hw,rfl⟩:=Yk.mp hd'
     have:=Zet.mp hdL w hw
     have h2:=w.deepK
     exact ⟨w.canK (Zes.mp hokL w hw),by lia⟩
    ·obtain ⟨w,hw,rfl⟩:=Yk.mp hd'
     obtain ⟨v,hv,rfl⟩:=Yk.mp he
     exact w.okK v
   ·intro u hu
    obtain ⟨w,hw,rfl⟩:=Yk.mp hu
    show ZaA (w.keyU.dat)=true
    rw [w.dat_key]
    obtain ⟨r,e⟩:=w.keyD_head
    rw [e];rfl
   ·intro u hu
    obtain ⟨w,hw,rfl⟩:=Yk.mp hu
    walk_at "qs"
    unfold gQ
    walk_at "qg"
    first | exact ⟨rfl,Ext.refl A⟩ | exact ⟨_,rfl,rfl,Ext.refl A⟩
   ·refine ZB nr ?_
    rw [ed,(Zh1 (d:=Wr.nothing) true gQ).2 (fun x _=>x.plainK) fun x _ y _=>x.okK y]
    obtain ⟨x,rfl⟩:∃ x,x=D:=⟨D,rfl⟩
    have ea:srtK Wr.keyD Wr.nothing true (plnL ps)=arr k (plnL ps):=by unfold arr;rw [if_pos c]
    rw [ea]
    obtain ⟨vs,hvs⟩:∃ vs,vs=arr k (plnL ps):=⟨_,rfl⟩
    rw [<- hvs]
    obtain ⟨W,hWd⟩:∃ W,W=Wr.many k vs:=⟨_,rfl⟩
    have hWp:W=(Wr.many k ps).pl:=by rw [hWd,hvs,Wr.pl]
    have hE:Ext A (updA A x (.lst (vs.map gQ))):=Ext.new hD
    have hx:updA A x (.lst (vs.map gQ)) x=some (.lst (vs.map gQ)):=Zd
    generalize updA A x (.lst (vs.map gQ))=A1 at hE hx ⊢
    have hname:Zaq k=W.name:=by rw [hWd];rfl
    have hW:W.parts=vs:=by rw [hWd];rfl
    have hWok:W.ok=true:=by rw [hWp,Wr.pl_ok];exact hok
    have hWb:∀ c,W≠.bead c:=by rw [hWd];exact fun c z=>nomatch z
    have hWt:W.tups<=200:=by rw [hWp,Wr.pl_tups];exact ht
    have hvl:vs.length < 64:=by rw [hvs,(Zas k _).length_eq,hnl];exact hn
    have q:Q (.tup [W.toU,W.keyU]) A:=by rw [hWp];exact q
    walk_at "qd"
    refine ⟨⟨_,hx⟩,fun l1 h1=>?_⟩
    walk_at "qc"
    refine ZbC (vs.map gQ) (vs.map Wr.toU) (by rw [Yb,Yb]) h1 (by rw [Yb];lia) (fun k A2 _ he=>⟨_,he _ _ hx,rfl⟩) (fun k u y A2 hu hy he=>?_) ?_
    ·obtain ⟨v,hv,rfl⟩:=Zai hu
     rw [Yr,hv] at hy
     cases hy
     refine ⟨_,_,rfl,fun Cy hc=>?_⟩
     walk_at "qd"
     exact hc
    ·walk_at "qd"
     refine ⟨l1,W,by rw [hname],by rw [Zd,hW],hWok,hWb,by rw [hW];lia,?_⟩
     walk_at "qd"
     have hx1:updA A1 l1 (.lst (vs.map Wr.toU)) x=some (.lst (vs.map gQ)):=by rw [Zm (neA hx h1)];exact hx
     refine ⟨⟨_,hx1⟩,fun l2 h2=>?_⟩
     walk_at "qc"
     refine ZbC (vs.map gQ) (vs.map Wr.keyU) (by rw [Yb,Yb]) h2 (by rw [Yb];lia) (fun k A2 _ he=>⟨_,he _ _ hx1,rfl⟩) (fun k u y A2 hu hy he=>?_) ?_
     ·obtain ⟨v,hv,rfl⟩:=Zai hu
      rw [Yr,hv] at hy
      cases hy
      refine ⟨_,_,rfl,fun Cy hc=>?_⟩
      walk_at "qd"
      exact hc
     ·walk_at "qd"
      refine ⟨W,l2,rfl,by rw [Zd,hW],hWok,hWt,?_⟩
      walk_at "qd"
      exact ⟨tup2,fgx (hE.trans ((Ext.new h1).trans (Ext.new h2))) q⟩
  ·have k03 : k=0\/k=3:=by lia
   refine ZB (by rcases k03 with rfl | rfl <;> decide +kernel) ?_
   have hq:A l=some (.lst ((plnL ps).map gQ)):=by rw [<- eg];exact hl
   rcases k03 with rfl | rfl
   ·refine ZB (by decide +kernel) ?_
    obtain ⟨x,rfl⟩:∃ x,x=l:=⟨l,rfl⟩
    obtain ⟨A1,rfl⟩:∃ A1,A1=A:=⟨A,rfl⟩
    obtain ⟨vs,hvs⟩:∃ vs,vs=plnL ps:=⟨_,rfl⟩
    rw [<- hvs] at hq
    obtain ⟨W,hWd⟩:∃ W,W=Wr.many 0 vs:=⟨_,rfl⟩
    have hWp:W=(Wr.many 0 ps).pl:=by rw [hWd,hvs,Wr.pl];rfl
    have hE:Ext A1 A1:=Ext.refl _
    have hx:A1 x=some (.lst (vs.map gQ)):=hq
    have hname:Zaq 0=W.name:=by rw [hWd];rfl
    have hW:W.parts=vs:=by rw [hWd];rfl
    have hWok:W.ok=true:=by rw [hWp,Wr.pl_ok];exact hok
    have hWb:∀ c,W≠.bead c:=by rw [hWd];exact fun c z=>nomatch z
    have hWt:W.tups<=200:=by rw [hWp,Wr.pl_tups];exact ht
    have hvl:vs.length < 64:=by rw [hvs,hnl];exact hn
    have q:Q (.tup [W.toU,W.keyU]) A1:=by rw [hWp];exact q
    walk_at "qd"
    refine ⟨⟨_,hx⟩,fun l1 h1=>?_⟩
    walk_at "qc"
    refine ZbC (vs.map gQ) (vs.map Wr.toU) (by rw [Yb,Yb]) h1 (by rw [Yb];lia) (fun k A2 _ he=>⟨_,he _ _ hx,rfl⟩) (fun k u y A2 hu hy he=>?_) ?_
    ·obtain ⟨v,hv,rfl⟩:=Zai hu
     rw [Yr,hv] at hy
     cases hy
     refine ⟨_,_,rfl,fun Cy hc=>?_⟩
     walk_at "qd"
     exact hc
    ·walk_at "qd"
     refine ⟨l1,W,by rw [hname],by rw [Zd,hW],hWok,hWb,by rw [hW];lia,?_⟩
     walk_at "qd"
     have hx1:updA A1 l1 (.lst (vs.map Wr.toU)) x=some (.lst (vs.map gQ)):=by rw [Zm (neA hx h1)];exact hx
     refine ⟨⟨_,hx1⟩,fun l2 h2=>?_⟩
     walk_at "qc"
     refine ZbC (vs.map gQ) (vs.map Wr.keyU) (by rw [Yb,Yb]) h2 (by rw [Yb];lia) (fun k A2 _ he=>⟨_,he _ _ hx1,rfl⟩) (fun k u y A2 hu hy he=>?_) ?_
     ·obtain ⟨v,hv,rfl⟩:=Zai hu
      rw [Yr,hv] at hy
      cases hy
      refine ⟨_,_,rfl,fun Cy hc=>?_⟩
      walk_at "qd"
      exact hc
     ·walk_at "qd"
      refine ⟨W,l2,rfl,by rw [Zd,hW],hWok,hWt,?_⟩
      walk_at "qd"
      exact ⟨tup2,fgx (hE.trans ((Ext.new h1).trans (Ext.new h2))) q⟩
   ·refine iteTt (by decide +kernel) ?_
    walk_at "qd"
    refine ⟨⟨_,hq⟩,fun l0 h0=>?_⟩
    walk_at "qc"
    refine ZbC ((plnL ps).map gQ) ((plnL ps).map Wr.keyU) (by rw [Yb,Yb]) h0 (by rw [Yb];lia) (fun k A2 _ he=>⟨_,he _ _ hq,rfl⟩) (fun k u y A2 hu hy he=>?_) ?_
    ·obtain ⟨v,hv,rfl⟩:=Zai hu
     rw [Yr,hv] at hy
     cases hy
     refine ⟨_,_,rfl,fun Cy hc=>?_⟩
     walk_at "qd"
     exact hc
    ·walk_at "qd"
     refine ⟨l0,plnL ps,rfl,Zd,by rw [Zem];exact hok,by lia,by rw [ZbU];simp only [Wr.dep] at hd;lia,?_⟩
     walk_at "qd"
     have hbest:bestT Wr.keyD (plnL ps)<=(plnL ps).length:=by
      have:=Zbq (lt:=fun i j=>ltv (kdL Wr.keyD (turnL (plnL ps) i)) (kdL Wr.keyD (turnL (plnL ps) j))) ((plnL ps).length - 1)
      have c2:bestT Wr.keyD (plnL ps)<=(plnL ps).length - 1:=this
      lia
     have hq1:updA A l0 (.lst ((plnL ps).map Wr.keyU)) l=some (.lst ((plnL ps).map gQ)):=by rw [Zm (neA hq h0)];exact hq
     have hE0:Ext A (updA A l0 (.lst ((plnL ps).map Wr.keyU))):=Ext.new h0
     generalize updA A l0 (.lst ((plnL ps).map Wr.keyU))=A0 at hq1 hE0 ⊢
     refine ⟨_,hq1,fun p1 hp1=>⟨_,by rw [Zm (neA hq1 hp1)];exact hq1,fun p2 hp2=>?_⟩⟩
     rw [ZbT (by rw [Yb];exact hbest)] at hp2 ⊢
     rw [ZdG (by rw [Yb];exact hbest)]
     have n12:p1≠p2:=neA Zd hp2
     refine ⟨_,_,by rw [Zm n12,Zd],Zd,Zr (by simp;lia),fun x hx0=>?_⟩
     have et:((plnL ps).map gQ).drop (bestT Wr.keyD (plnL ps))++((plnL ps).map gQ).take (bestT Wr.keyD (plnL ps))=(Za5 Wr.keyD (plnL ps)).map gQ:=by unfold Za5 turnL;rw [Ym,Yaf,Y5]
     rw [et]
     have ea:Za5 Wr.keyD (plnL ps)=arr 3 (plnL ps):=by unfold arr;rw [if_neg (by lia),if_neg (by lia)]
     rw [ea]
     obtain ⟨vs,hvs⟩:∃ vs,vs=arr 3 (plnL ps):=⟨_,rfl⟩
     rw [<- hvs]
     obtain ⟨W,hWd⟩:∃ W,W=Wr.many 3 vs:=⟨_,rfl⟩
     have hWp:W=(Wr.many 3 ps).pl:=by rw [hWd,hvs,Wr.pl]
     have hE:=hE0.trans ((Ext.new (o:=.lst (((plnL ps).map gQ).drop (bestT Wr.keyD (plnL ps)))) hp1).trans ((Ext.new (o:=.lst (((plnL ps).map gQ).take (bestT Wr.keyD (plnL ps)))) hp2).trans (Ext.new (o:=.lst (vs.map gQ)) hx0)))
     have hx:updA (updA (updA A0 p1 (.lst (((plnL ps).map gQ).drop (bestT Wr.keyD (plnL ps))))) p2 (.lst (((plnL ps).map gQ).take (bestT Wr.keyD (plnL ps))))) x (.lst (vs.map gQ)) x=some (.lst (vs.map gQ)):=Zd
     generalize updA (updA (updA A0 p1 (.lst (((plnL ps).map gQ).drop (bestT Wr.keyD (plnL ps))))) p2 (.lst (((plnL ps).map gQ).take (bestT Wr.keyD (plnL ps))))) x (.lst (vs.map gQ))=A1 at hE hx ⊢
     have hname:Zaq 3=W.name:=by rw [hWd];rfl
     have hW:W.parts=vs:=by rw [hWd];rfl
     have hWok:W.ok=true:=by rw [hWp,Wr.pl_ok];exact hok
     have hWb:∀ c,W≠.bead c:=by rw [hWd];exact fun c z=>nomatch z
     have hWt:W.tups<=200:=by rw [hWp,Wr.pl_tups];exact ht
     have hvl:vs.length < 64:=by rw [hvs,(Zas 3 _).length_eq,hnl];exact hn
     have q:Q (.tup [W.toU,W.keyU]) A:=by rw [hWp];exact q
     walk_at "qd"
     refine ⟨⟨_,hx⟩,fun l1 h1=>?_⟩
     walk_at "qc"
     refine ZbC (vs.map gQ) (vs.map Wr.toU) (by rw [Yb,Yb]) h1 (by rw [Yb];lia) (fun k A2 _ he=>⟨_,he _ _ hx,rfl⟩) (fun k u y A2 hu hy he=>?_) ?_
     ·obtain ⟨v,hv,rfl⟩:=Zai hu
      rw [Yr,hv] at hy
      cases hy
      refine ⟨_,_,rfl,fun Cy hc=>?_⟩
      walk_at "qd"
      exact hc
     ·walk_at "qd"
      refine ⟨l1,W,by rw [hname],by rw [Zd,hW],hWok,hWb,by rw [hW];lia,?_⟩
      walk_at "qd"
      have hx1:updA A1 l1 (.lst (vs.map Wr.toU)) x=some (.lst (vs.map gQ)):=by rw [Zm (neA hx h1)];exact hx
      refine ⟨⟨_,hx1⟩,fun l2 h2=>?_⟩
      walk_at "qc"
      refine ZbC (vs.map gQ) (vs.map Wr.keyU) (by rw [Yb,Yb]) h2 (by rw [Yb];lia) (fun k A2 _ he=>⟨_,he _ _ hx1,rfl⟩) (fun k u y A2 hu hy he=>?_) ?_
      ·obtain ⟨v,hv,rfl⟩:=Zai hu
       rw [Yr,hv] at hy
       cases hy
       refine ⟨_,_,rfl,fun Cy hc=>?_⟩
       walk_at "qd"
       exact hc
      ·walk_at "qd"
       refine ⟨W,l2,rfl,by rw [Zd,hW],hWok,hWt,?_⟩
       walk_at "qd"
       exact ⟨tup2,fgx (hE.trans ((Ext.new h1).trans (Ext.new h2))) q⟩
 ·rw [Wr.toU_few hf]
  walk_at "qd"
  obtain ⟨f1,f2,f3⟩:=Wr.pl_few hf
  obtain ⟨n1,n2⟩:=Zgp hf
  refine ZB (ZbJ hf.1) ⟨by decide,rfl,rfl,ZB n1 (ZB n2 ?_)⟩
  obtain ⟨x,rfl⟩:∃ x,x=l:=⟨l,rfl⟩
  obtain ⟨A1,rfl⟩:∃ A1,A1=A:=⟨A,rfl⟩
  obtain ⟨vs,hvs⟩:∃ vs,vs=w.parts.map Wr.pl:=⟨_,rfl⟩
  obtain ⟨W,hWd⟩:∃ W,W=w.pl:=⟨_,rfl⟩
  have hE:Ext A1 A1:=Ext.refl _
  have hx:A1 x=some (.lst (vs.map gQ)):=by rw [hl,hvs,YO];rfl
  have hname:w.name=W.name:=by rw [hWd];exact f2.symm
  have hW:W.parts=vs:=by rw [hWd,hvs];exact f3
  have hWok:W.ok=true:=by rw [hWd,w.pl_ok];exact hok
  have hWb:∀ c,W≠.bead c:=by rw [hWd];exact f1.1
  have hWt:W.tups<=200:=by rw [hWd,w.pl_tups];exact ht
  have hvl:vs.length < 64:=by rw [hvs,Yb];exact hn
  have q:Q (.tup [W.toU,W.keyU]) A1:=by rw [hWd];exact q
  walk_at "qd"
  refine ⟨⟨_,hx⟩,fun l1 h1=>?_⟩
  walk_at "qc"
  refine ZbC (vs.map gQ) (vs.map Wr.toU) (by rw [Yb,Yb]) h1 (by rw [Yb];lia) (fun k A2 _ he=>⟨_,he _ _ hx,rfl⟩) (fun k u y A2 hu hy he=>?_) ?_
  ·obtain ⟨v,hv,rfl⟩:=Zai hu
   rw [Yr,hv] at hy
   cases hy
   refine ⟨_,_,rfl,fun Cy hc=>?_⟩
   walk_at "qd"
   exact hc
  ·walk_at "qd"
   refine ⟨l1,W,by rw [hname],by rw [Zd,hW],hWok,hWb,by rw [hW];lia,?_⟩
   walk_at "qd"
   have hx1:updA A1 l1 (.lst (vs.map Wr.toU)) x=some (.lst (vs.map gQ)):=by rw [Zm (neA hx h1)];exact hx
   refine ⟨⟨_,hx1⟩,fun l2 h2=>?_⟩
   walk_at "qc"
   refine ZbC (vs.map gQ) (vs.map Wr.keyU) (by rw [Yb,Yb]) h2 (by rw [Yb];lia) (fun k A2 _ he=>⟨_,he _ _ hx1,rfl⟩) (fun k u y A2 hu hy he=>?_) ?_
   ·obtain ⟨v,hv,rfl⟩:=Zai hu
    rw [Yr,hv] at hy
    cases hy
    refine ⟨_,_,rfl,fun Cy hc=>?_⟩
    walk_at "qd"
    exact hc
   ·walk_at "qd"
    refine ⟨W,l2,rfl,by rw [Zd,hW],hWok,hWt,?_⟩
    walk_at "qd"
    exact ⟨tup2,fgx (hE.trans ((Ext.new h1).trans (Ext.new h2))) q⟩
end
noncomputable def Cp (t:Addr) (A:AHp):Prop:=A t=some (tblO Zfu "plain_by.<locals>.<lambda>")
noncomputable def DwP (w:Wr):Prop:=w.nrm=true/\w.dep<=95/\w.parts.length < 64
theorem pby_of {K:YFr} {t:Addr} {vs:List V} {H:Hp} {Q:VK} {E:XK} (h:spOf K (Zcf gP (Cp t) DwP) vs H Q E):spOf K (Zf8 t) vs H Q E:=by
 obtain ⟨us,A,Q',r,g,⟨w,l,e,hl,hok,ht,⟨d1,d2,d3⟩,hC,q⟩,k⟩:=h
 exact ⟨us,A,Q',r,g,⟨w,l,e,hl,hok,d1,ht,d2,d3,hC,q⟩,k⟩
noncomputable def valO (w:Wr):U:=.tup [.int (w.pl.ways:Nat),gP w]
noncomputable def Zgu (f:List Wr->Nat):ASp:=fun us A Q=>∃ (l:Addr) (qs:List Wr),us=[.ref l]/\A l=some (.lst (qs.map Wr.keyU))/\gdL qs=true/\qs.length < 64/\depL qs<=95/\Q (.int (f qs:Nat)) A
noncomputable def DwO (w:Wr):Prop:=w.gd=true/\w.dep<=95
theorem kd_like (vs us:List Wr):PyData.eqv (.list (vs.map Wr.keyD)) (.list (us.map Wr.keyD))=ZaK vs us:=by
 rw [<- Zbl,<- Zbl,<- eqvKL vs us]
 simp only [PyData.eqv]
theorem kDUs {A:AHp}:∀ vs:List Wr,DUs A (vs.map Wr.keyU) (vs.map Wr.keyD)
 | []=>.nil
 | v::vs=>.cons v.duK (kDUs vs)
section
include T
theorem ok_pour:FnOk P w K mg base CX0 3 f_q0 d_q0 ["keys"] (spOf K (Zgu ZbI)):=by
 refine' Fun.okA T.F_q0 (sc:=?sc8) (body:=?bd8) ?hs8 ?hb8 ZbS ?hB8 ?hS8
 case hs8=>conv=>lhs;whnf
 case hb8=>conv=>lhs;whnf
 case hB8=>exact fun S cdv A outer s H E hr=>⟨_,(Zg (Zz (i:=1) S.nd rfl (Or.inl rfl) Zh)
   (Zg (Zz (i:=2) S.nd rfl (Or.inl rfl) Zh)
   (Zg (Zz (i:=3) S.nd rfl (Or.inl rfl) (Zw (c_sortN hr) (by rfl) T.n_sorted (by decide +kernel) (Za (pv 0) Ze)))
   (Zg (Zbz Y2 rfl (pj_zip (by rfl) T.n_zip (Za (pv 3) (Za (ZK Za3 (pv 3) (ZO Zh) Z1) Ze))) (ZgZ (n:=2) rfl (ZaT (ZH (i:=4) S.nd rfl (Or.inl rfl)) (ZaT (ZH (i:=5) S.nd rfl (Or.inl rfl)) ZcD)))
   (Zg (Zz (i:=2) S.nd rfl (Or.inl rfl) (pe_ifExp (Zs (Zbf hr) (pv 5) (pv 4) (Z2 _)) (ZL Z0 (pv 2) Zh) Zh))
   (Zl (Zfg (i:=1) S.nd rfl (Or.inl rfl) (pv 2) ZeL))))
   (Zl (ZE (pv 1))))))),(Zn (Zx Zi Zj)
   (Zn (Zx Zi Zj)
   (Zn (Zx (Z4 ab_sortN (Zc Zb Zf)) Zj)
   (Zn (Zbt (ZcP ab_yzip (Zc Zb (Zc (ZaV Zah Zb (ZP Zi) ZC) Zf))) (ZcF (ZaU Zj (ZaU Zj Zcu)))
   (Zn (Zx (ab_if (Zt (Zk Zbg Zb Zb)) (Zk ZX Zb Zi) Zi) Zj)
   (Ze3 Zb ZbM)))
   (ZD Zb)))))⟩
 rintro us A Q ⟨l,qs,rfl,hl,hg,hn,hd,q⟩
 refine ⟨rfl,?_⟩
 have hko:=Zey qs hg
 walk_at "qs"
 walk_at "qd"
 refine ⟨_,qs.map Wr.keyD,hl,by rw [Yb];exact hn,kDUs qs,?_,?_,fun D hD=>?_⟩
 ·refine ⟨fun d hd'=>?_,fun d hd' e he=>?_⟩
  ·obtain ⟨w,hw,rfl⟩:=Yk.mp hd'
   have:=ZaM hw
   have h2:=w.deepK
   exact ⟨w.canK (ZfE hko hw),by lia⟩
  ·obtain ⟨w,hw,rfl⟩:=Yk.mp hd'
   obtain ⟨v,hv,rfl⟩:=Yk.mp he
   exact w.okK v
 ·intro d hd'
  obtain ⟨w,hw,rfl⟩:=Yk.mp hd'
  obtain ⟨r,e⟩:=w.keyD_head
  rw [e];rfl
 rw [(Zh1 (d:=Wr.nothing) false Wr.keyU).2 (fun x _=>x.plainK) fun x _ y _=>x.okK y]
 have hperm:=Zcl (k:=Wr.keyD) (d:=Wr.nothing) (ws:=qs) false (fun x _=>x.plainK) fun x _ y _=>x.okK y
 have hrise:=Zhw (k:=Wr.keyD) (d:=Wr.nothing) (ws:=qs) (fun x _=>x.plainK) fun x _ y _=>x.okK y
 generalize srtK Wr.keyD Wr.nothing false qs=L at hperm hrise ⊢
 have hgL:=Zba hperm.symm hg
 have hlL:=hperm.length_eq
 have hpL:=ZbY hperm hgL
 have hdL:depL L<=95:=by rw [Zcn hperm];exact hd
 have e0:=Ext.new (o:=.lst (L.map Wr.keyU)) hD
 have a0:updA A D (.lst (L.map Wr.keyU)) D=some (.lst (L.map Wr.keyU)):=Zd
 generalize updA A D (.lst (L.map Wr.keyU))=A0 at e0 a0 ⊢
 walk_at "qd"
 refine ⟨_,a0,fun p hp=>?_⟩
 cases L with
 | nil =>
  have hz:cutU (([]:List Wr).map Wr.keyU) (some 1) none=[]:=by unfold cutU;simp
  rw [hz]
  have a1:=Ext.new (o:=.lst []) hp _ _ a0
  refine ⟨⟨_,_,a1,Zd⟩,?_⟩
  refine ZfH [] (fun k ρ A2=>ρ=[some (.ref l),some (.int 1),some (.int 1),some (.ref D),none,none]/\A2=updA A0 p (.lst [])) ⟨rfl,rfl⟩ ?_ ?_ ?_
  ·rintro k ρ A2 hk ⟨_,rfl⟩
   have:k=0:=by simpa using hk
   subst this
   exact ⟨_,_,a1,Zd,rfl⟩
  ·intro k u ρ A2 hu;simp at hu
  ·rintro ρ A2 ⟨rfl,rfl⟩
   walk_at "qd"
   rw [<- hpL] at q
   exact fgx (e0.trans (Ext.new hp)) q
 | cons x xs =>
  rw [Yu,ZeS]
  have e1:=Ext.new (o:=.lst (xs.map Wr.keyU)) hp
  have a1:=e1 _ _ a0
  have a2:updA A0 p (.lst (xs.map Wr.keyU)) p=some (.lst (xs.map Wr.keyU)):=Zd
  generalize updA A0 p (.lst (xs.map Wr.keyU))=A1 at e1 a1 a2 ⊢
  rw [Yu] at a1
  refine ⟨⟨_,_,a1,a2⟩,?_⟩
  have hzl:(zpU (x.keyU::xs.map Wr.keyU) (xs.map Wr.keyU)).length=xs.length:=by rw [Zi0];simp
  refine ZfH (zpU (x.keyU::xs.map Wr.keyU) (xs.map Wr.keyU)) (fun k ρ A2=>∃ (x4 x5:Option U) (y:Wr),(x::xs)[k]? = some y/\ρ=[some (.ref l),some (.int (ZbI ((x::xs).take (k + 1)).reverse:Nat)),some (.int (1 + cntW y ((x::xs).take k):Nat)),some (.ref D),x4,x5]/\A2=A1)
   ⟨_,_,x,rfl,rfl,rfl⟩ ?_ ?_ ?_
  ·rintro k ρ A2 hk ⟨x4,x5,y,_,_,rfl⟩
   exact ⟨_,_,a1,a2,rfl⟩
  ·rintro k u ρ A2 hu ⟨x4,x5,y,hy,rfl,rfl⟩
   have hkl:=(Yp.mp hu).1
   rw [hzl] at hkl
   obtain ⟨z,hz⟩:∃ z,(x::xs)[k + 1]? = some z:=⟨_,Ye (by simp;lia)⟩
   rw [Zfw] at hu
   have h1:(x.keyU::xs.map Wr.keyU)[k]? = some y.keyU:=by rw [<- Yu,Yr,hy];rfl
   have h2:(xs.map Wr.keyU)[k]? = some z.keyU:=by rw [Yr];simp at hz;rw [hz];rfl
   rw [h1,h2] at hu
   simp at hu
   subst hu
   have gy:=ZaW hgL (Yn hy)
   have gz:=ZaW hgL (Yn hz)
   have dz:=ZaM (Yn hz)
   have hcn:=cnt_next hgL hrise hy hz
   have hpt:=Zht hz
   have hc63:cntW z ((x::xs).take (k + 1))<=64:=YE (Zje _ _) (by rw [YJ];lia)
   walk_at "qd"
   refine ⟨rfl,?_⟩
   rw [q_eqK]
   refine eqK (z.gd_ok gz) (y.gd_ok gy) (by lia) ⟨_,rfl,iteB (fun hb=>?_) fun hb=>?_⟩
   ·rw [if_pos hb] at hcn
    have et:((1 + cntW y ((x::xs).take k):Nat):Int) + 1=((1 + cntW z ((x::xs).take (k + 1)):Nat):Int):=by rw [hcn];lia
    rw [et]
    refine ⟨Zbb (.inr ⟨by lia,by lia⟩),some y.keyU,some z.keyU,z,hz,?_,rfl⟩
    rw [hpt,Nat.mul_comm (1 + _),Int.natCast_mul]
   ·rw [if_neg (by rw [hb];decide)] at hcn
    refine ⟨Zbb (.inr ⟨by decide,by decide⟩),some y.keyU,some z.keyU,z,hz,?_,rfl⟩
    rw [hpt,hcn,Nat.add_zero,Nat.one_mul,Int.mul_one];rfl
  ·rintro ρ A2 ⟨x4,x5,y,hy,rfl,rfl⟩
   walk_at "qd"
   rw [hzl,Yal (by simp),ZbY (YaL (x::xs)) (Zba (YaL (x::xs)).symm hgL),hpL]
   exact fgx (e0.trans e1) q
theorem ok_turns:FnOk P w K mg base CX0 3 f_q1 d_q1 ["keys"] (spOf K (Zgu turnsN)):=by
 refine' Fun.okA T.F_q1 (sc:=?sc9) (body:=?bd9) ?hs9 ?hb9 Zce ?hB9 ?hS9
 case hs9=>conv=>lhs;whnf
 case hb9=>conv=>lhs;whnf
 case hB9=>exact fun S cdv A outer s H E hr=>⟨_,(Zg (Zee (i:=1) S.nd rfl (Or.inl rfl) (by with_unfolding_all rfl) (ts:=["place"]) (frs':=[("keys",0)]) (cl:=_) rfl ⟨(by rfl),rfl,(by decide +kernel),(by decide +kernel),(ZaG (by rfl) ZaS),(Zb0 (by rfl) (by rfl)),(ZaG ⟨(by rfl),(by first | exact .inl rfl | exact .inr rfl),(by first | exact .inl rfl | exact .inr rfl),(by rfl)⟩ ZaS)⟩ (ZbA rfl T.n_range (Za (Zw Zbe (by rfl) T.n_len (by decide +kernel) (Za (pv 0) Ze)) Ze)) (fun _ _ _ _=>ZH (i:=0) (show List.Nodup (["place","keys"]:List Str) from by decide +kernel) rfl (Or.inl rfl) (.inr rfl)) (fun _ _ _ _=>(pifs_one (Zs (k_eqD K rfl hr) (ZL (k_addW K rfl) (ZK (k_slW K rfl) (pv 1) (ZO (pv 0)) Z1) (ZK (k_slW K rfl) (pv 1) Z1 (ZO (pv 0)))) (pv 1) (Z2 _)))) (fun _ _ _ _=>by exact (pv 0)))
   (Zl (ZE (Zw (ZhZ rfl) (by rfl) T.n_max (by decide +kernel) (Za (Zw Zbe (by rfl) T.n_len (by decide +kernel) (Za (pv 1) Ze)) (Za Zh Ze)))))),(Zn (Zx (Zak (ZbZ (Zc (Z4 ZaE (Zc Zb Zf)) Zf)) Zj (Zt (Zk Zbg (Zk ZX (ZaV Zah Zb (ZP Zb) ZC) (ZaV Zah Zb ZC (ZP Zb))) Zb)) Zb) Zj)
   (ZD (Z4 Zjs (Zc (Z4 ZaE (Zc Zb Zf)) (Zc Zi Zf)))))⟩
 rintro us A Q ⟨l,qs,rfl,hl,hg,hn,hd,q⟩
 refine ⟨rfl,?_⟩
 walk_at "qs"
 walk_at "qd"
 refine ⟨_,hl,?_⟩
 rw [Yb,Int.toNat_natCast]
 refine ⟨by lia,by lia,fun l1 hl1=>?_⟩
 walk_at "qc"
 refine fix_all (f:=Wr.keyU) (g:=Wr.keyD) rfl (fun _ vs=>kDUs vs) (fun vs h1 h2=>kd_ok (Zey vs h1) h2) (fun vs us=>kd_like vs us) hg hd hl hl1 (by lia) (fun k h=>ZbT h) (fun k h=>ZdG h) fun ys A2 hys e a1=>?_
 walk_at "qd"
 refine ⟨_,a1,fgx e ?_⟩
 rw [hys]
 have:(max (((List.range qs.length).countP fun r=>ZaK (turnL qs r) qs:Nat):Int) 1)=((turnsN qs:Nat):Int):=by unfold turnsN;lia
 rw [this]
 exact q
end
noncomputable def asp_qu (t:Addr):ASp:=fun us A Q=>∃ w:Wr,us=[w.toU]/\w.gd=true/\w.tups<=95/\Cp t A/\Q (.int (w.pl.ways:Nat)) A
section
include T
theorem ZiA (hBA_q6:base.BuiltinsAt mg t_q6):FnOk P w K mg base CX0 8 f_q2 d_q2 ["writing","told"] (spOf K (Zcf valO (Cp t_q6) DwO)):=by
 have G_q6:=Zf3 (P:=P) (w:=w) (base:=base) T hBA_q6
 have G_q0:=ok_pour (P:=P) (w:=w) (base:=base) T
 have G_q1:=ok_turns (P:=P) (w:=w) (base:=base) T
 refine' Fun.okA T.F_q2 (sc:=?sc10) (body:=?bd10) ?hs10 ?hb10 Zcx ?hB10 ?hS10
 case hs10=>conv=>lhs;whnf
 case hb10=>conv=>lhs;whnf
 case hB10=>exact fun S cdv A outer s H E hr=>⟨_,(Zg (Zz (i:=2) S.nd rfl (Or.inl rfl) Zh)
   (Zg (Zbz Y2 rfl (ZaH (pv 1)) (ZH (i:=3) S.nd rfl (Or.inl rfl))
   (Zl (Zfg (i:=2) S.nd rfl (Or.inl rfl) (ZR o_ix (pv 3) Zh (fun _ _=>rfl)) ZeL)))
   (Zg (Zee (i:=4) S.nd rfl (Or.inl rfl) (by with_unfolding_all rfl) (ts:=["part"]) (frs':=[]) (cl:=[]) rfl ⟨rfl,rfl,(by decide +kernel),(by decide +kernel),(fun _ z=>nomatch z),(ZV rfl rfl),(fun _ z=>nomatch z)⟩ (ZaH (pv 1)) (fun _ _ _ _=>ZH (i:=0) nd1 rfl (Or.inl rfl) (.inr rfl)) (fun _ _ _ _=>Z3) (fun _ _ _ _=>by exact (ZR (k_ix K rfl) (ZR (k_ix K rfl) (pv 0) Zh (fun _ _=>rfl)) Zh (fun _ _=>rfl))))
   (Zg (Zar (Zs o_in (ZR o_ix (pv 0) Zh (fun _ _=>rfl)) (ZW (Za ZS (Za ZS Ze))) (by with_unfolding_all rfl)) (Zl (Zfg (i:=2) S.nd rfl (Or.inl rfl) (Zu (G_q0.mono (by first | decide | lia)) hr (by rfl) T.M_q0 T.F_q0.kp T.B_q0 .nil Z7 (Za (pv 4) Ze)) ZeL)) ZG)
   (Zg (Zar (Zs (Zbf hr) (ZR o_ix (pv 0) Zh (fun _ _=>rfl)) ZS (Z2 _)) (Zl (Zfg (i:=2) S.nd rfl (Or.inl rfl) (Zu (G_q1.mono (by first | decide | lia)) hr (by rfl) T.M_q1 T.F_q1.kp T.B_q1 .nil Z7 (Za (pv 4) Ze)) ZeL)) ZG)
   (Zl (ZE (ZW (Za (pv 2) (Za (Zu (G_q6.mono (by first | decide | lia)) hr (by rfl) T.M_q6 T.F_q6.kp T.B_q6 .nil Z7 (Za (pv 0) (Za (ZaF (ts:=["part"]) (frs':=[]) (cl:=[]) rfl ⟨rfl,rfl,(by decide +kernel),(by decide +kernel),(fun _ z=>nomatch z),(ZV rfl rfl),(fun _ z=>nomatch z)⟩ (ZaH (pv 1)) (fun _ _ _ _=>ZH (i:=0) nd1 rfl (Or.inl rfl) (.inr rfl)) (fun _ _ _ _=>Z3) (fun _ _ _ _=>by exact (ZR (k_ix K rfl) (pv 0) Zh (fun _ _=>rfl)))) Ze))) Ze)))))))))),(Zn (Zx Zi Zj)
   (Zn (Zbt (ZaI Zab Zb) Zj
   (Ze3 (Zk ZQ Zb Zi) ZbM))
   (Zn (Zx (Zak (ZaI Zab Zb) Zj Zal (Zk ZQ (Zk ZQ Zb Zi) Zi)) Zj)
   (Zn (ZZ (Zt (Zk Zb3 (Zk ZQ Zb Zi) (ZY (Zc ZT (Zc ZT Zf))))) (Ze3 (Zv (Zc Zb Zf)) ZbM) ZF)
   (Zn (ZZ (Zt (Zk Zbg (Zk ZQ Zb Zi) ZT)) (Ze3 (Zv (Zc Zb Zf)) ZbM) ZF)
   (ZD (ZY (Zc Zb (Zc (Zv (Zc Zb (Zc (Zak (ZaI Zab Zb) Zj Zal (Zk ZQ Zb Zi)) Zf))) Zf)))))))))⟩
 rintro us A Q ⟨w,l,rfl,hl,hok,ht,⟨hgd,hdw⟩,hC,q⟩
 refine ⟨rfl,?_⟩
 have hpt:=w.parts_tups
 have hpd:=w.parts_dep
 have hpl:=ZaO w.parts
 obtain ⟨hgp,hlp⟩:=w.gd_parts hgd
 have hgq:gdL (w.parts.map Wr.pl)=true:=by rw [<- ZM];exact Zb7 _ hgp
 have htq:Zp (w.parts.map Wr.pl)=Zp w.parts:=by rw [<- ZM];exact Zck _
 have hdq:depL (w.parts.map Wr.pl)=depL w.parts:=by rw [<- ZM];exact ZbU _
 have small:∀ k,ZaQ ((w.parts.map Wr.pl).take k)<=2 ^ 1200:=fun k=>by
  have e:=Yas k (w.parts.map Wr.pl)
  have h1:gdL ((w.parts.map Wr.pl).take k)=true:=by rw [<- e,Zan,Yc] at hgq;exact hgq.1
  refine Zfx h1 ?_
  have:=Zo ((w.parts.map Wr.pl).take k) ((w.parts.map Wr.pl).drop k)
  rw [e] at this
  lia
 walk_at "qs"
 walk_at "qd"
 refine ⟨⟨_,hl⟩,?_⟩
 refine Zeq (w.parts.map valO) (fun k ρ A2=>∃ x3,ρ=[some w.toU,some (.ref l),some (.int (ZaQ ((w.parts.map Wr.pl).take k):Nat)),x3,none]/\A2=A) ⟨_,rfl,rfl⟩ (fun k ρ A2 _ hq0=>by obtain ⟨_,_,e⟩:=hq0;rw [e];exact hl) ?_ ?_
 ·rintro k u ρ A2 hu ⟨x3,rfl,rfl⟩
  obtain ⟨p,hp,rfl⟩:=Zai hu
  have gp:=ZaW hgp (Yn hp)
  have tp:=Zaw (Yn hp)
  unfold valO
  walk_at "qd"
  refine ⟨ZcS (small k) (ZdJ (p.pl_gd gp) (by rw [p.pl_tups];lia)),some (valO p),?_,by trivial⟩
  have e:(w.parts.map Wr.pl)[k]? = some p.pl:=by rw [Yr,hp];rfl
  rw [YaK,e,Zfq,Option.toList_some]
  simp only [ZaQ,Nat.mul_one,Int.natCast_mul]
  rfl
 ·rintro ρ A2 ⟨x3,rfl,rfl⟩
  rw [Yb,Yal (by rw [Yb];exact Yg _)]
  walk_at "qd"
  refine ⟨⟨_,hl⟩,fun l1 hl1=>?_⟩
  walk_at "qc"
  refine Zbn w.parts valO (fun p=>p.pl.keyU) hl1 (by lia) (fun k A2 _ he=>⟨_,he _ _ hl,rfl⟩) (fun x A2 hx he Cy hc=>?_) ?_
  ·unfold valO gP
   walk_at "qd"
   exact hc
  ·have eK : w.parts.map (fun p=>p.pl.keyU)=(w.parts.map Wr.pl).map Wr.keyU:=by rw [YO];rfl
   rw [eK]
   have e1:=Ext.new (o:=.lst ((w.parts.map Wr.pl).map Wr.keyU)) hl1
   have a1:updA A2 l1 (.lst ((w.parts.map Wr.pl).map Wr.keyU)) l1=some (.lst ((w.parts.map Wr.pl).map Wr.keyU)):=Zd
   generalize updA A2 l1 (.lst ((w.parts.map Wr.pl).map Wr.keyU))=A1 at e1 a1 ⊢
   have fin:∀ N:Nat,N=w.pl.ways->(∃ us,A1 l=some (.lst us))/\∀ l2,A1 l2=none->aCL (jLst l) (ZbH 0) ZcA (aOp xIx (aVar 0) (aC (U.int 1))) l2 (fun x A3=>Zf8 t_q6 [w.toU,x] A3 fun x A4=>[.int (N:Int),x].length<=sizeLine/\Fg Q (U.tup [.int (N:Int),x]) A4) [none] (updA A1 l2 (.lst [])):=fun N hN=>by
    refine ⟨⟨_,e1 _ _ hl⟩,fun l2 hl2=>?_⟩
    refine Zbn w.parts valO gP hl2 (by lia) (fun k A2 _ he=>⟨_,he _ _ (e1 _ _ hl),rfl⟩) (fun x A2 hx he Cy hc=>?_) ?_
    ·unfold valO
     walk_at "qd"
     exact hc
    ·refine ⟨w,l2,rfl,Zd,hok,w.gd_nrm hgd,ht,hdw,hlp,(e1.trans (Ext.new hl2)) _ _ hC,tup2,fgx (e1.trans (Ext.new hl2)) ?_⟩
     rw [hN]
     exact q
   rcases w.kinds with ⟨c,rfl⟩ | ⟨k,ps,rfl⟩ | hf
   ·rw [Wr.toU] at fin ⊢
    walk_at "qd"
    refine ⟨tup2,rfl,rfl,ZB (by decide +kernel) (ZB (by decide +kernel) ?_)⟩
    exact fin _ rfl
   ·have hgk:=hgd
    simp only [Wr.gd,Yc,YC] at hgk
    have hw:=ZgM (k:=k) hgk.2
    have hL:ZaQ ((Wr.many k ps).parts.map Wr.pl)=ZaQ (plnL ps):=by rw [ZM];rfl
    have hQ:(Wr.many k ps).parts.map Wr.pl=plnL ps:=by rw [ZM];rfl
    rw [hL]
    rw [hQ] at a1 hgq hdq
    have hlq:(plnL ps).length < 64:=by rw [ZM,Yb];exact hgk.1.2
    have smL:ZaQ (plnL ps)<=2 ^ 1200:=by have:=small (Wr.many k ps).parts.length;rw [Yal (by rw [Yb];exact Yg _),hL] at this;exact this
    rw [Wr.toU_many] at fin ⊢
    walk_at "qd"
    refine ⟨tup2,rfl,rfl,?_⟩
    by_cases c:k=1\/k=2
    ·refine iteTt (by rcases c with h | h;all_goals (subst h;decide +kernel)) ⟨l1,plnL ps,rfl,a1,hgq,hlq,by lia,?_⟩
     walk_at "qd"
     refine ⟨ZcS smL (ZfS hlq),ZB (by rcases c with h | h;all_goals (subst h;decide +kernel)) ?_⟩
     rw [<- Int.natCast_mul]
     exact fin _ (by rw [hw];unfold gath;rw [if_pos c])
    ·refine ZB (by obtain h | h:k=0\/k=3:=(by lia);all_goals (subst h;decide +kernel)) ?_
     by_cases c0:k=0
     ·refine ZB (by subst c0;decide +kernel) ?_
      exact fin _ (by rw [hw];unfold gath;rw [if_neg c,if_pos c0,Nat.mul_one])
     ·obtain rfl:k=3:=by lia
      refine iteTt (by decide +kernel) ⟨l1,plnL ps,rfl,a1,hgq,hlq,by lia,?_⟩
      walk_at "qd"
      refine ⟨ZcS smL (YE (Zfl hlq) (pow64 (n:=1) (by decide))),?_⟩
      rw [<- Int.natCast_mul]
      exact fin _ (by rw [hw];unfold gath;rw [if_neg c,if_neg c0])
   ·obtain ⟨n1,n2⟩:=Zgp hf
    have hw:ZaQ (w.parts.map Wr.pl)=w.pl.ways:=by
     cases w with
     | nothing=>rfl
     | bead c=>exact absurd rfl (hf.1 c)
     | side b f=>rfl
     | pair f g=>rfl
     | many k ps=>exact absurd rfl (hf.2 k ps)
    rw [Wr.toU_few hf] at fin ⊢
    walk_at "qd"
    refine ⟨tup2,rfl,rfl,ZB n1 (ZB n2 ?_)⟩
    exact fin _ hw
theorem ok_qu (hBA_q6:base.BuiltinsAt mg t_q6):FnOk P w K mg base CX0 11 f_qu d_qu ["writing"] (spOf K (asp_qu t_q6)):=by
 have G_qk:=ZdN (P:=P) (w:=w) (base:=base) (C:=Cp t_q6) (Dw:=DwO) (val:=valO) T 8 (by decide) (fun A A' e h=>e _ _ h) (ZiA (P:=P) (w:=w) (base:=base) T hBA_q6) T.F_q2.kp T.B_q2
 refine' Fun.okA T.F_qu (sc:=?sc11) (body:=?bd11) ?hs11 ?hb11 sc_qu ?hB11 ?hS11
 case hs11=>conv=>lhs;whnf
 case hb11=>conv=>lhs;whnf
 case hB11=>exact fun S cdv A outer s H E hr=>⟨_,(Zl (ZE (ZR o_ix (Zu (G_qk.mono (by first | decide | lia)) hr (by rfl) T.M_qk T.F_qk.kp T.B_qk .nil Z7 (Za (pv 0) (Za (Zc8 (v:=.ref f_q2) (by rfl) T.M_q2 rfl) Ze))) Zh (fun _ _=>rfl)))),(ZD (Zk ZQ (Zv (Zc Zb (Zc Zju Zf))) Zi))⟩
 rintro us A Q ⟨w,rfl,hg,ht,hC,q⟩
 refine ⟨rfl,?_⟩
 have hd:=w.dep_le
 walk_at "qs"
 walk_at "qd"
 refine ⟨w,rfl,w.gd_ok hg,by lia,fun v hv=>?_,hC,?_⟩
 ·obtain ⟨h1,h2⟩:=w.gd_post v hv hg
  exact ⟨h1,by lia⟩
 ·unfold valO
  walk_at "qd"
  exact fg q
end
noncomputable def asp_cell:ASp:=fun us A Q=>∃ (a:Addr) (ns:List Int) (k:Int),us=[.ref a,.int k]/\A a=some (.lst (ns.map U.int))/\0<=k/\∀ z,Q (.int z) A
section
include T
theorem ok_cell:FnOk P w K mg base CX0 1 f_qp d_qp ["_law_script","_law_k"] (spOf K asp_cell):=by
 refine' Fun.okA T.F_qp (sc:=?sc12) (body:=?bd12) ?hs12 ?hb12 Zi3 ?hB12 ?hS12
 case hs12=>conv=>lhs;whnf
 case hb12=>conv=>lhs;whnf
 case hB12=>exact fun S cdv A outer s H E hr=>⟨_,(Zg (Zar (Zs o_lt (pv 1) (Zw Zbe (by rfl) T.n_len (by decide +kernel) (Za (pv 0) Ze)) (Z2 _)) (Zl (ZE (ZR o_ix (pv 0) (pv 1) (fun _ _=>rfl)))) ZG)
   (Zl (ZE Zh))),(Zn (ZZ (Zt (Zk ab_lt Zb (Z4 ZaE (Zc Zb Zf)))) (ZD (Zk ZQ Zb Zb)) ZF)
   (ZD Zi))⟩
 rintro us A Q ⟨a,ns,k,rfl,ha,hk,q⟩
 refine ⟨rfl,?_⟩
 walk_at "qs"
 walk_at "qd"
 refine ⟨_,ha,iteB (fun h=>?_) fun _=>fg (q 0)⟩
 have h':k < ns.length:=by simpa using h
 obtain ⟨z,h1,_⟩:=Ziu hk h'
 exact ⟨_,_,ha,h1,fg (q z)⟩
end
noncomputable def asp_mix:ASp:=fun us A Q=>∃ ns:List Int,us=[.rol (ns.map U.int)]/\ns.length<=63/\∀ (l:Addr) (ms:List Int),A l=none->ms.length<=63->Q (.ref l) (updA A l (.lst (ms.map U.int)))
noncomputable def Zjr:ASp:=fun us A Q=>∃ i:Int,us=[.int i,.int i]/\Q (.bl true) A
noncomputable def ZjD:ASp:=fun us A Q=>∃ c:Int,us=[.int c,.int 3]/\∀ (l:Addr) (ss:List Str),A l=none->ss.length=3->(∀ s∈ss,PyData.strOk s=true/\s.length<=30)->Q (.ref l) (updA A l (.lst (ss.map U.str)))
theorem ZbN {x y:Str} (h1:PyData.strOk x=true) (h2:PyData.strOk y=true):PyData.strOk (x++y)=true:=by
 show (x.cps++y.cps).all _=true
 unfold PyData.strOk at h1 h2
 rw [Array.all_append,h1,h2];rfl
theorem Zc7 {x:Str}:PyData.strOk x=true ↔ ∀ c∈x.cps.toList,(decide (c < 0x110000))=true:=by
 unfold PyData.strOk
 rw [<- Array.all_toList,YbQ]
theorem Zfs {x:Str} {lo hi:Option Int} (h:PyData.strOk x=true):PyData.strOk (cutS x lo hi)=true:=by
 rw [Zc7] at h ⊢
 intro c hc
 unfold cutS at hc
 exact h c (List.mem_of_mem_drop (List.mem_of_mem_take (by simpa using hc)))
theorem Zh8 {x:Str} {lo hi:Option Int}:(cutS x lo hi).length<=x.length:=by
 show (cutS x lo hi).cps.size<=x.cps.size
 unfold cutS
 simp only [Yj,YJ,YR,Array.length_toList]
 lia
noncomputable def lets:Str:="abcdefghijklmnopqrstuvwxyz"
theorem let_at {i:Int} (h0:0<=i) (h:i < 26):∃ c,atI lets.cps.toList i=some c/\PyData.strOk ⟨#[c]⟩=true:=by
 obtain ⟨ch,h1,h2⟩:=Zdr (xs:=lets.cps.toList) (i:=i) h0 (by show i < 26;lia)
 refine ⟨ch,h1,?_⟩
 have hm:=Yn h2
 rw [Zc7]
 intro c hc
 have:c=ch:=by simpa using hc
 subst this
 exact (Zc7 (x:=lets)).mp (by decide +kernel) c hm
section
include T
theorem ok_right:FnOk P w K mg base CX0 1 f_qi d_qi ["_law_found","_law_due"] (spOf K Zjr):=by
 refine' Fun.okA T.F_qi (sc:=?sc13) (body:=?bd13) ?hs13 ?hb13 ZhC ?hB13 ?hS13
 case hs13=>conv=>lhs;whnf
 case hb13=>conv=>lhs;whnf
 case hB13=>exact fun S cdv A outer s H E hr=>⟨_,(Zl (ZE (Zir (Zw c_isW (by rfl) T.n_isinstance (by decide +kernel) (Za (pv 0) (Za (pe_ty (T:="int") (by rfl) T.n_int (by decide +kernel)) Ze))) (Zir (pe_not (Zw c_isW (by rfl) T.n_isinstance (by decide +kernel) (Za (pv 0) (Za (pe_ty (T:="bool") (by rfl) T.n_bool (by decide +kernel)) Ze)))) (pe_one (Zf1 (Zbf hr) (pv 0) (pv 1) (Z2 _))))))),(ZD (ZfR (Z4 ab_isi (Zc Zb (Zc ab_ty Zf))) (ZfR (ab_notv (Z4 ab_isi (Zc Zb (Zc ab_ty Zf)))) (Zk Zbg Zb Zb))))⟩
 rintro us A Q ⟨i,rfl,q⟩
 refine ⟨rfl,?_⟩
 walk_at "qs"
 walk_at "qd"
 refine ⟨by decide,trivial,iteTt rfl ⟨by decide,trivial,iteTt rfl ?_⟩⟩
 simp only [decide_true]
 exact fg q
theorem ok_mix:FnOk P w K mg base CX0 1 f_qs d_qs ["_law_script"] (spOf K asp_mix):=by
 refine' Fun.okA T.F_qs (sc:=?sc14) (body:=?bd14) ?hs14 ?hb14 sc_qs ?hB14 ?hS14
 case hs14=>conv=>lhs;whnf
 case hb14=>conv=>lhs;whnf
 case hB14=>exact fun S cdv A outer s H E hr=>⟨_,(Zg (Zz (i:=1) S.nd rfl (Or.inl rfl) (ZaD Ze))
   (Zg (Zbz Y2 rfl (pj_enum (by rfl) T.n_enumerate (Za (pv 0) Ze)) (ZgZ (n:=2) rfl (ZaT (ZH (i:=2) S.nd rfl (Or.inl rfl)) (ZaT (ZH (i:=3) S.nd rfl (Or.inl rfl)) ZcD)))
   (Zl (ZcE (Zdy YY Yax Yay ZbB (pv 1) (Za (ZL ZbG (ZL Zdl (ZL ZbG (ZL Z0 (ZL Zdl (ZL ZbG (pv 3) (ZL o_pow Zh Zh)) Zh) (ZL Zdl Zh (pv 2))) Zh) Zh) Zh) Ze)))))
   (Zl (ZE (pv 1))))),(Zn (Zx (ZaC Zf) Zj)
   (Zn (Zbt (ZcP ab_yenum (Zc Zb Zf)) (ZcF (ZaU Zj (ZaU Zj Zcu)))
   (Zcr (Zei Za9 Zdb Zb (Zc (Zk Za4 (Zk Zde (Zk Za4 (Zk ZX (Zk Zde (Zk Za4 Zb (Zk Zgr Zi Zi)) Zi) (Zk Zde Zi Zb)) Zi) Zi) Zi) Zf))))
   (ZD Zb)))⟩
 rintro us A Q ⟨ns,rfl,hk,q⟩
 refine ⟨rfl,?_⟩
 walk_at "qs"
 walk_at "qd"
 refine ⟨by decide,fun p hp=>?_⟩
 walk_at "qd"
 refine Zii (us:=ns.map U.int) (fun k ρ A2=>∃ (ms:List Int) (x y:Option U),ρ=[some (.rol (ns.map U.int)),some (.ref p),x,y]/\A2=updA A p (.lst (ms.map U.int))/\ms.length=k) ⟨[],_,_,rfl,rfl,rfl⟩ ?_ ?_
 ·rintro k u ρ A2 hu ⟨ms,x,y,rfl,rfl,hm⟩
  have hkl:=(Yp.mp hu).1
  rw [Yb] at hkl
  obtain ⟨n,_,rfl⟩:=Zai hu
  walk_at "qd"
  exact ⟨rfl,⟨_,Zd⟩,⟨by decide,by decide,by decide⟩,by decide,Zbb (.inr ⟨by decide,by decide⟩),Zbb (.inl ⟨by decide,by decide⟩),by decide,Zbb (.inr ⟨by decide,by decide⟩),by decide,
   _, Zd,Zbc (by rw [Yb];lia),ms++[_],_,_,rfl,by rw [ZaJ,Ym];rfl,by rw [Yh,hm];rfl⟩
 ·rintro ρ A2 ⟨ms,x,y,rfl,rfl,hm⟩
  walk_at "qd"
  exact fg (q p ms hp (by rw [hm,Yb];exact hk))
end
section
include T
theorem ok_names:FnOk P w K mg base CX0 1 f_qg d_qg ["_law_cell_here","_law_many"] (spOf K ZjD):=by
 refine' Fun.okA T.F_qg (sc:=?sc15) (body:=?bd15) ?hs15 ?hb15 ZhD ?hB15 ?hS15
 case hs15=>conv=>lhs;whnf
 case hb15=>conv=>lhs;whnf
 case hB15=>exact fun S cdv A outer s H E hr=>⟨_,(Zg (Zz (i:=2) S.nd rfl (Or.inl rfl) ZS)
   (Zg (Zz (i:=3) S.nd rfl (Or.inl rfl) ZS)
   (Zg (Zbz Y2 rfl (ZbA rfl T.n_range (Za (ZL ZbG (pv 0) Zh) Ze)) (ZH (i:=4) S.nd rfl (Or.inl rfl))
   (Zl (Zz (i:=3) S.nd rfl (Or.inl rfl) (ZL Z0 (pv 3) (ZR o_ix (pv 2) (ZL ZbG (ZL ZbG (ZL Zdl (ZL Zdl (ZL Z0 (ZL ZbG (pv 0) (ZL o_pow Zh Zh)) (pv 4)) (ZL Z0 (pv 4) Zh)) Zh) Zh) Zh) (fun _ _=>rfl))))))
   (Zg (Zz (i:=5) S.nd rfl (Or.inl rfl) (ZL ZbG (ZL Ze7 (pv 0) Zh) (ZL Z0 (Zw Zbe (by rfl) T.n_len (by decide +kernel) (Za (pv 3) Ze)) Zh)))
   (Zg (Zz (i:=6) S.nd rfl (Or.inl rfl) (ZaD Ze))
   (Zg (Zbz Y2 rfl (ZbA rfl T.n_range (Za (pv 1) Ze)) (ZH (i:=4) S.nd rfl (Or.inl rfl))
   (Zg (Zz (i:=7) S.nd rfl (Or.inl rfl) (ZL Z0 (ZL Z0 (ZK Za3 (pv 3) Z1 (ZO (pv 5))) (ZR o_ix (pv 2) (ZL ZbG (ZL Z0 (ZL Ze7 (pv 0) Zh) (ZL Zdl Zh (pv 4))) Zh) (fun _ _=>rfl))) (ZK Za3 (pv 3) (ZO (pv 5)) Z1)))
   (Zg (Zar (Zs o_in (pv 7) (ZW (Zbm (xs:=["nothing","bead","or","by","row","bag","choice","ring","of","left","right"]) rfl)) (by with_unfolding_all rfl)) (Zl (Zz (i:=7) S.nd rfl (Or.inl rfl) (ZL Z0 (pv 7) ZS))) ZG)
   (Zl (ZcE (Zdy YY Yax Yay ZbB (pv 6) (Za (pv 7) Ze)))))))
   (Zl (ZE (pv 6))))))))),(Zn (Zx ZT Zj)
   (Zn (Zx ZT Zj)
   (Zn (Zbt (ZbZ (Zc (Zk Za4 Zb Zi) Zf)) Zj
   (Zx (Zk ZX Zb (Zk ZQ Zb (Zk Za4 (Zk Za4 (Zk Zde (Zk Zde (Zk ZX (Zk Za4 Zb (Zk Zgr Zi Zi)) Zb) (Zk ZX Zb Zi)) Zi) Zi) Zi))) Zj))
   (Zn (Zx (Zk Za4 (Zk Zfj Zb Zi) (Zk ZX (Z4 ZaE (Zc Zb Zf)) Zi)) Zj)
   (Zn (Zx (ZaC Zf) Zj)
   (Zn (Zbt (ZbZ (Zc Zb Zf)) Zj
   (Zn (Zx (Zk ZX (Zk ZX (ZaV Zah Zb ZC (ZP Zb)) (Zk ZQ Zb (Zk Za4 (Zk ZX (Zk Zfj Zb Zi) (Zk Zde Zi Zb)) Zi))) (ZaV Zah Zb (ZP Zb) ZC)) Zj)
   (Zn (ZZ (Zt (Zk Zb3 Zb (ZY Zbs))) (Zx (Zk ZX Zb ZT) Zj) ZF)
   (Zcr (Zei Za9 Zdb Zb (Zc Zb Zf))))))
   (ZD Zb)))))))⟩
 rintro us A Q ⟨c,rfl,q⟩
 refine ⟨rfl,?_⟩
 walk_at "qs"
 walk_at "qd"
 refine ⟨by decide,by lia,by lia,?_⟩
 have hlt:=YW c (show (0:Int) < 8 by decide)
 have hge:=YS c (show (8:Int)≠0 by decide)
 refine Zfv (fun k ρ A2=>∃ (w:Str) (x4:Option U),w.length=k/\PyData.strOk w=true/\ρ=[some (.int c),some (.int 3),some (.str lets),some (.str w),x4,none,none,none]/\A2=A) ⟨"",_,rfl,by decide +kernel,rfl,rfl⟩ ?_ ?_
 ·rintro k ρ A2 hk ⟨w,x4,hw,ho,rfl,rfl⟩
  walk_at "qd"
  have hk8:k < 8:=by lia
  obtain ⟨ch,h1,h2⟩:=let_at (YS ((c % 10 ^ Int.toNat 9 + (0 + (k:Int))) * (0 + (k:Int) + 7) * 48271 % 65521) (show (26:Int)≠0 by decide)) (YW _ (by decide))
  refine ⟨⟨by decide,by decide,by decide⟩,show (0:Int) < 10 ^ Int.toNat 9 by decide,Zbb (.inr ⟨by lia,by lia⟩),Zbb (.inr ⟨by decide,by decide⟩),by decide,by decide,Zr (show lets.length<=100000 by decide +kernel),_,h1,Zr (by show w.length + 1<=100000;lia),w++⟨#[ch]⟩,some (.int (0 + (k:Int))),?_,ZbN ho h2,rfl,trivial⟩
  rw [strLen_append,hw];rfl
 ·rintro ρ A2 ⟨w,x4,hw,ho,rfl,rfl⟩
  walk_at "qd"
  have hw8:w.length < 8:=by lia
  refine ⟨⟨by decide,by decide⟩,Zr (by lia),by lia,by decide,fun p hp=>⟨by decide,by decide,?_⟩⟩
  generalize c / 8 % ((w.length:Int) + 1)=at0
  refine Zfv (fun k ρ A3=>∃ (ss:List Str) (x4 x7:Option U),ss.length=k/\(∀ s∈ss,PyData.strOk s=true/\s.length<=30)/\ρ=[some (.int c),some (.int 3),some (.str lets),some (.str w),x4,some (.int at0),some (.ref p),x7]/\A3=updA A2 p (.lst (ss.map U.str))) ⟨[],_,_,rfl,(fun s z=>nomatch z),rfl,rfl⟩ ?_ ?_
  ·rintro k ρ A3 hk ⟨ss,x4,x7,hs,hso,rfl,rfl⟩
   have hk3:k < 3:=hk
   walk_at "qd"
   obtain ⟨ch,h1,h2⟩:=let_at (YS (c / 64 + 5 * (0 + (k:Int))) (show (26:Int)≠0 by decide)) (YW _ (by decide))
   have c1:=Zh8 (x:=w) (lo:=none) (hi:=some at0)
   have c2:=Zh8 (x:=w) (lo:=some at0) (hi:=none)
   have o1:=Zfs (lo:=none) (hi:=some at0) ho
   have o2:=Zfs (lo:=some at0) (hi:=none) ho
   have l1:(cutS w none (some at0)++⟨#[ch]⟩:Str).length=(cutS w none (some at0)).length + 1:=strLen_append _ _
   refine ⟨Zr (by lia),⟨by decide,by decide⟩,Zbb (.inl ⟨by decide,by decide⟩),by decide,Zr (show lets.length<=100000 by decide +kernel),_,h1,Zr (by show _ + 1<=100000;lia),Zr (by lia),Zr (by rw [l1];lia),?_⟩
   have o3:=ZbN (ZbN o1 h2) o2
   have l2:(cutS w none (some at0)++⟨#[ch]⟩++cutS w (some at0) none:Str).length<=20:=by rw [strLen_append,l1];lia
   generalize (cutS w none (some at0)++⟨#[ch]⟩++cutS w (some at0) none:Str)=name at o3 l2 ⊢
   refine ⟨by decide,rfl,rfl,iteB (fun _=>?_) fun _=>?_⟩
   ·have o4:PyData.strOk (name++"q")=true:=ZbN o3 (by decide +kernel)
    refine ⟨Zr (by show name.length + 1<=100000;lia),⟨_,Zd⟩,_,Zd,Zbc (by rw [Yb];lia),ss++[name++"q"],some (.int (0 + (k:Int))),some (.str (name++"q")),by rw [Yh,hs];rfl,?_,rfl,by rw [ZaJ,Ym];rfl⟩
    intro s hs'
    rcases YK.mp hs' with z | z
    ·exact hso s z
    ·rw [Yv.mp z];exact ⟨o4,by rw [strLen_append,show ("q":Str).length=1 from by decide +kernel];lia⟩
   ·refine ⟨⟨_,Zd⟩,_,Zd,Zbc (by rw [Yb];lia),ss++[name],some (.int (0 + (k:Int))),some (.str name),by rw [Yh,hs];rfl,?_,rfl,by rw [ZaJ,Ym];rfl⟩
    intro s hs'
    rcases YK.mp hs' with z | z
    ·exact hso s z
    ·rw [Yv.mp z];exact ⟨o3,by lia⟩
  ·rintro ρ A3 ⟨ss,x4,x7,hs,hso,rfl,rfl⟩
   walk_at "qd"
   exact fg (q p ss hp hs hso)
end
noncomputable def ZdY (n:Nat):ASp:=fun us A Q=>∃ w:Wr,us=[w.toU]/\w.dep<=n/\w.tups<=900/\Q (.int (w.tups:Nat)) A
/-- one step on the stack: what stands newly at its end,and what it adds -/
noncomputable def Nw (ss:List Str) (ws ws':List Wr):Prop:=(∃ ws0 y,ws'=ws0++[y]/\(∀ x∈ws0,x∈ws)/\(y∈ws\/(∃ s∈ss,y=.bead s)\/((∀ x∈y.parts,x∈ws\/x=.bead "ash")/\∀ c,y≠.bead c)))/\sizeL ws<=sizeL ws'/\(Zp ws' + sizeL ws<=Zp ws + 1 + sizeL ws'\/Zp ws'<=30)
theorem Nw.of {ss:List Str} {ws ws':List Wr} (h:Nw [] ws ws'):Nw ss ws ws':=by
 obtain ⟨⟨ws0,y,e,h1,h2⟩,h3⟩:=h
 refine ⟨⟨ws0,y,e,h1,?_⟩,h3⟩
 rcases h2 with h | ⟨s,hs,_⟩ | h
 ·exact .inl h
 ·cases hs
 ·exact .inr (.inr h)
theorem sizeL_app:∀ ws us:List Wr,sizeL (ws++us)=sizeL ws + sizeL us
 | [],us=>by simp [sizeL]
 | w::ws,us=>by simp only [List.cons_append,sizeL,sizeL_app ws us];lia
noncomputable def Zjl:ASp:=fun us A Q=>∃ (a:Addr) (m:Int) (k:Nat) (ws:List Wr),us=[.ref a,.int m,.str (Zaq k)]/\A a=some (.lst (ws.map Wr.toU))/\k<=3/\1<=m/\m<=5/\gdL ws=true/\ws.length<=60 /\
 ∀ (l:Addr) (ws':List Wr),A l=none->gdL ws'=true->ws'.length<=ws.length + 1->Zp ws'<=Zp ws + 2->Nw [] ws ws'->Q (.ref l) (updA A l (.lst (ws'.map Wr.toU)))
section
include T
theorem Zi8:∀ n:Nat,FnOk P w K mg base CX0 (n + 1) f_qb d_qb ["_law_figure"] (spOf K (ZdY n)):=by
 intro n
 induction n with
 | zero=>exact ZbX T.F_qb Zdt fun us A Q hq0=>by obtain ⟨w,_,hd,_⟩:=hq0;have:=w.dep_pos;lia
 | succ n ih =>
  have G_qb:=ih
  refine' Fun.okA T.F_qb (sc:=?sc16) (body:=?bd16) ?hs16 ?hb16 Zdt ?hB16 ?hS16
  case hs16=>conv=>lhs;whnf
  case hb16=>conv=>lhs;whnf
  case hB16=>exact fun S cdv A outer s H E hr=>⟨_,(Zg (Zar (Zs o_in (ZR o_ix (pv 0) Zh (fun _ _=>rfl)) (ZW (Zbm (xs:=["row","bag","choice","ring"]) rfl)) (by with_unfolding_all rfl)) (Zl (ZE (ZL Z0 Zh (Zw (Zez rfl) (by rfl) T.n_sum (by decide +kernel) (Za (ZaF (ts:=["_law_part"]) (frs':=[]) (cl:=[]) rfl ⟨rfl,rfl,(by decide +kernel),(by decide +kernel),(fun _ z=>nomatch z),(ZV rfl rfl),(fun _ z=>nomatch z)⟩ (ZaH (ZR o_ix (pv 0) Zh (fun _ _=>rfl))) (fun _ _ _ _=>ZH (i:=0) nd1 rfl (Or.inl rfl) (.inr rfl)) (fun _ _ _ _=>Z3) (fun _ _ _ _=>by exact (Zu (G_qb.mono (by first | decide | lia)) hr (by rfl) T.M_qb T.F_qb.kp T.B_qb .nil Z7 (Za (pv 0) Ze)))) Ze))))) ZG)
   (Zg (Zar (Zs (Zbf hr) (ZR o_ix (pv 0) Zh (fun _ _=>rfl)) ZS (Z2 _)) (Zl (ZE Zh)) ZG)
   (Zl (ZE (ZL Z0 Zh (Zw (Zez rfl) (by rfl) T.n_sum (by decide +kernel) (Za (ZaF (ts:=["_law_part"]) (frs':=[]) (cl:=[]) rfl ⟨rfl,rfl,(by decide +kernel),(by decide +kernel),(fun _ z=>nomatch z),(ZV rfl rfl),(fun _ z=>nomatch z)⟩ (ZaH (ZK Za3 (pv 0) (ZO Zh) Z1)) (fun _ _ _ _=>ZH (i:=0) nd1 rfl (Or.inl rfl) (.inr rfl)) (fun _ _ _ _=>Z3) (fun _ _ _ _=>by exact (Zu (G_qb.mono (by first | decide | lia)) hr (by rfl) T.M_qb T.F_qb.kp T.B_qb .nil Z7 (Za (pv 0) Ze)))) Ze))))))),(Zn (ZZ (Zt (Zk Zb3 (Zk ZQ Zb Zi) (ZY Zbs))) (ZD (Zk ZX Zi (Z4 ZcK (Zc (Zak (ZaI Zab (Zk ZQ Zb Zi)) Zj Zal (Zv (Zc Zb Zf))) Zf)))) ZF)
   (Zn (ZZ (Zt (Zk Zbg (Zk ZQ Zb Zi) ZT)) (ZD Zi) ZF)
   (ZD (Zk ZX Zi (Z4 ZcK (Zc (Zak (ZaI Zab (ZaV Zah Zb (ZP Zi) ZC)) Zj Zal (Zv (Zc Zb Zf))) Zf))))))⟩
  rintro us A Q ⟨w,rfl,hd,ht,q⟩
  refine ⟨rfl,?_⟩
  have hpd:=w.parts_dep
  have hpt:=w.parts_tups
  have hpl:=ZaO w.parts
  have go:∀ l,A l=none->w.tups=1 + Zp w.parts->aCL (jFix (w.parts.map Wr.toU)) (ZbH 0) ZcA (Zf4 (ZdY n) (Zeo (aVar 0) aNil)) l (fun x A2=>xSum [x] A2 fun z A3=>xAdd (.int 1) z A3 (Fg Q)) [none] (updA A l (.lst [])):=fun l hl e=>by
   refine Zbn w.parts Wr.toU (fun w=>.int (w.tups:Nat)) hl (by lia) (fun _ _ _ _=>rfl) (fun x A2 hx he Cy hc=>?_) ?_
   ·walk_at "qd"
    have:=ZaM hx
    have:=Zaw hx
    exact ⟨x,rfl,by lia,by lia,hc⟩
   ·walk_at "qd"
    refine ⟨w.parts.map fun w=>((w.tups:Nat):Int),by rw [Zd,YO];rfl,fgx (Ext.new hl) ?_⟩
    rw [Zga]
    rw [e] at q
    push_cast at q
    exact q
  walk_at "qs"
  rcases w.kinds with ⟨c,rfl⟩ | ⟨k,ps,rfl⟩ | hf
  ·rw [Wr.toU]
   walk_at "qd"
   refine ⟨by decide,rfl,rfl,ZB (by decide +kernel) ?_⟩
   exact iteTt rfl (fg q)
  ·rw [Wr.toU_many]
   walk_at "qd"
   refine ⟨by decide,rfl,rfl,iteTt (ZbV k) ?_⟩
   walk_at "qd"
   exact fun l hl=>go l hl (by simp [Wr.tups,Wr.parts])
  ·rw [Wr.toU_few hf]
   walk_at "qd"
   refine ⟨by decide,rfl,rfl,ZB (Zbx hf.2) ?_⟩
   refine ZB (ZbJ hf.1) ?_
   walk_at "qd"
   refine fun l hl=>go l hl ?_
   cases w with
   | bead c=>exact absurd rfl (hf.1 c)
   | many k ps=>exact absurd rfl (hf.2 k ps)
   | nothing=>rfl
   | side b f=>simp [Wr.tups,Wr.parts,Zp]
   | pair f g=>simp [Wr.tups,Wr.parts,Zp]
theorem ok_group:FnOk P w K mg base CX0 1 f_qh d_qh ["_law_stack","_law_many","_law_word"] (spOf K Zjl):=by
 refine' Fun.okA T.F_qh (sc:=?sc17) (body:=?bd17) ?hs17 ?hb17 Zhi ?hB17 ?hS17
 case hs17=>conv=>lhs;whnf
 case hb17=>conv=>lhs;whnf
 case hB17=>exact fun S cdv A outer s H E hr=>⟨_,(Zg (Zz (i:=3) S.nd rfl (Or.inl rfl) (ZK Za3 (pv 0) (ZO (Zw (ZhZ rfl) (by rfl) T.n_max (by decide +kernel) (Za Zh (Za (ZL o_sub (Zw Zbe (by rfl) T.n_len (by decide +kernel) (Za (pv 0) Ze)) (pv 1)) Ze)))) Z1))
   (Zg (Zar ((ZcG (Zs (Zbf hr) (pv 2) ZS (Z2 _)) (Zb9 (Zs (Zbf hr) (Zw Zbe (by rfl) T.n_len (by decide +kernel) (Za (pv 3) Ze)) Zh (Z2 _))))).pt (Zl (Zz (i:=3) S.nd rfl (Or.inl rfl) (ZaD (Za (ZW (Za ZS (Za ZS Ze))) Ze)))) ZG)
   (Zl (ZE (ZL Z0 (ZK Za3 (pv 0) Z1 (ZO (Zw (ZhZ rfl) (by rfl) T.n_max (by decide +kernel) (Za Zh (Za (ZL o_sub (Zw Zbe (by rfl) T.n_len (by decide +kernel) (Za (pv 0) Ze)) (pv 1)) Ze))))) (ZaD (Za (ZW (Za (pv 2) (Za (Zaj Za6 (by rfl) T.n_tuple (by decide +kernel) (Za (pv 3) Ze)) Ze))) Ze))))))),(Zn (Zx (ZaV Zah Zb (ZP (Z4 Zjs (Zc Zi (Zc (Zk ZgA (Z4 ZaE (Zc Zb Zf)) Zb) Zf)))) ZC) Zj)
   (Zn (ZZ (ZcH (Zt (Zk Zbg Zb ZT)) (Zt (Zk Zbg (Z4 ZaE (Zc Zb Zf)) Zi))) (Zx (ZaC (Zc (ZY (Zc ZT (Zc ZT Zf))) Zf)) Zj) ZF)
   (ZD (Zk ZX (ZaV Zah Zb ZC (ZP (Z4 Zjs (Zc Zi (Zc (Zk ZgA (Z4 ZaE (Zc Zb Zf)) Zb) Zf))))) (ZaC (Zc (ZY (Zc Zb (Zc (Z4 ZaL (Zc Zb Zf)) Zf))) Zf))))))⟩
 rintro us A Q ⟨a,m,k,ws,rfl,ha,hk,hm1,hm5,hg,hn,q⟩
 refine ⟨rfl,?_⟩
 walk_at "qs"
 walk_at "qd"
 refine ⟨_,ha,?_⟩
 walk_at "qd"
 refine ⟨_,ha,fun p1 hp1=>?_⟩
 rw [Yb]
 obtain ⟨j,hj,hjl,hjm⟩:∃ j:Nat,max 0 ((ws.length:Int) - m)=(j:Int)/\j<=ws.length/\ws.length - j<=5:=⟨(max 0 ((ws.length:Int) - m)).toNat,by lia,by lia,by lia⟩
 rw [hj,ZbT (by rw [Yb];exact hjl)]
 have hsp:=Yas j ws
 have hgs:gdL (ws.take j)=true/\gdL (ws.drop j)=true:=by rw [<- hsp,Zan,Yc] at hg;exact hg
 have hts:Zp (ws.take j) + Zp (ws.drop j)=Zp ws:=by rw [<- Zo,hsp]
 have hss:sizeL (ws.take j) + sizeL (ws.drop j)=sizeL ws:=by rw [<- sizeL_app,hsp]
 have hlt:(ws.take j).length=j:=by rw [YJ];lia
 have hld:(ws.drop j).length=ws.length - j:=YR
 have edr:(ws.map Wr.toU).drop j=(ws.drop j).map Wr.toU:=by rw [Yaf]
 rw [edr]
 have e1:=Ext.new (o:=.lst ((ws.drop j).map Wr.toU)) hp1
 have a1:updA A p1 (.lst ((ws.drop j).map Wr.toU)) p1=some (.lst ((ws.drop j).map Wr.toU)):=Zd
 generalize updA A p1 (.lst ((ws.drop j).map Wr.toU))=A1 at e1 a1 ⊢
 by_cases k3:k=3
 ·refine iteTt (by rw [k3];decide +kernel) ⟨_,a1,?_⟩
  rw [Yb]
  by_cases h0:(ws.drop j).length=0
  ·refine iteTt (YaA (by lia)) ⟨tup2,tup1,fun pt hpt0=>?_⟩
   obtain ⟨took,htk⟩:∃ took,took=[Wr.bead "ash"]:=⟨_,rfl⟩
   have eb:[U.tup [.str (Str.ofString "bead"),.str (Str.ofString "ash")]]=took.map Wr.toU:=by rw [htk];rfl
   rw [eb]
   have hE:=e1.trans (Ext.new (o:=.lst (took.map Wr.toU)) hpt0)
   have hpt:updA A1 pt (.lst (took.map Wr.toU)) pt=some (.lst (took.map Wr.toU)):=Zd
   generalize updA A1 pt (.lst (took.map Wr.toU))=A2 at hE hpt ⊢
   have htg:gdL took=true:=by rw [htk];decide +kernel
   have htl:took.length<=5:=by rw [htk];decide
   have htk1:Zp took=1:=by rw [htk];rfl
   have hsk1:sizeL took=1:=by rw [htk];rfl
   have htt:Zp (ws.take j) + Zp took<=Zp ws + 1:=by lia
   have htm:∀ x∈took,x∈ws\/x=.bead "ash":=fun x hx=>.inr (by rw [htk] at hx;exact Yv.mp hx)
   have hdr:ws.drop j=[]:=Y6.mp h0
   rw [hdr] at hss
   have hsz0:sizeL ([]:List Wr)=0:=rfl
   refine ⟨_,hE _ _ ha,_,hE _ _ ha,fun p3 hp3=>?_⟩
   rw [Yb,hj,ZdG (by rw [Yb];exact hjl)]
   refine ⟨_,by rw [Zm (neA hpt hp3)];exact hpt,tup2,tup1,fun p4 hp4=>?_⟩
   have n34:p3≠p4:=neA Zd hp4
   refine ⟨_,_,by rw [Zm n34,Zd],Zd,Zr (by simp;lia),fun p5 hp5=>?_⟩
   have eT:(ws.map Wr.toU).take j++[.tup [.str (Zaq k),.tup (took.map Wr.toU)]]=(ws.take j++[Wr.many k took]).map Wr.toU:=by rw [Ym,Y5,Yu,Ya0,Wr.toU_many]
   rw [eT]
   have e:=hE.trans ((Ext.new (o:=.lst ((ws.map Wr.toU).take j)) hp3).trans (Ext.new (o:=.lst [U.tup [.str (Zaq k),.tup (took.map Wr.toU)]]) hp4))
   refine fgx e.put (q p5 _ (e.none hp5) ?_ ?_ ?_ ⟨⟨ws.take j,.many k took,rfl,fun x hx=>List.mem_of_mem_take hx,.inr (.inr ⟨htm,fun c h=>by cases h⟩)⟩,?_,.inl ?_⟩)
   ·rw [Zan,hgs.1]
    simp only [gdL,Wr.gd,htg,Ys,YA,Yc,YC]
    exact ⟨by lia,by lia⟩
   ·rw [Yh,hlt];simp only [List.length_cons,List.length_nil];lia
   ·rw [Zo];simp only [Zp,Wr.tups];lia
   ·rw [sizeL_app];simp only [sizeL,Wr.size];lia
   ·rw [Zo,sizeL_app];simp only [Zp,Wr.tups,sizeL,Wr.size];lia
  ·refine ZB (YZ (by lia)) ?_
   obtain ⟨took,htk⟩:∃ took,took=ws.drop j:=⟨_,rfl⟩
   rw [<- htk] at a1 hgs hts hld hss
   obtain ⟨pt,rfl⟩:∃ pt,pt=p1:=⟨_,rfl⟩
   obtain ⟨A2,rfl⟩:∃ A2,A2=A1:=⟨_,rfl⟩
   have hE:=e1
   have hpt:=a1
   have htg:=hgs.2
   have htl:took.length<=5:=by lia
   have htt:Zp (ws.take j) + Zp took<=Zp ws + 1:=by lia
   have htm:∀ x∈took,x∈ws\/x=.bead "ash":=fun x hx=>.inl (by rw [htk] at hx;exact List.mem_of_mem_drop hx)
   refine ⟨_,hE _ _ ha,_,hE _ _ ha,fun p3 hp3=>?_⟩
   rw [Yb,hj,ZdG (by rw [Yb];exact hjl)]
   refine ⟨_,by rw [Zm (neA hpt hp3)];exact hpt,tup2,tup1,fun p4 hp4=>?_⟩
   have n34:p3≠p4:=neA Zd hp4
   refine ⟨_,_,by rw [Zm n34,Zd],Zd,Zr (by simp;lia),fun p5 hp5=>?_⟩
   have eT:(ws.map Wr.toU).take j++[.tup [.str (Zaq k),.tup (took.map Wr.toU)]]=(ws.take j++[Wr.many k took]).map Wr.toU:=by rw [Ym,Y5,Yu,Ya0,Wr.toU_many]
   rw [eT]
   have e:=hE.trans ((Ext.new (o:=.lst ((ws.map Wr.toU).take j)) hp3).trans (Ext.new (o:=.lst [U.tup [.str (Zaq k),.tup (took.map Wr.toU)]]) hp4))
   refine fgx e.put (q p5 _ (e.none hp5) ?_ ?_ ?_ ⟨⟨ws.take j,.many k took,rfl,fun x hx=>List.mem_of_mem_take hx,.inr (.inr ⟨htm,fun c h=>by cases h⟩)⟩,?_,.inl ?_⟩)
   ·rw [Zan,hgs.1]
    simp only [gdL,Wr.gd,htg,Ys,YA,Yc,YC]
    exact ⟨by lia,by lia⟩
   ·rw [Yh,hlt];simp only [List.length_cons,List.length_nil];lia
   ·rw [Zo];simp only [Zp,Wr.tups];lia
   ·rw [sizeL_app];simp only [sizeL,Wr.size];lia
   ·rw [Zo,sizeL_app];simp only [Zp,Wr.tups,sizeL,Wr.size];lia
 ·refine ZB (by obtain h | h | h:k=0\/k=1\/k=2:=(by lia);all_goals (subst h;decide +kernel)) (ZB rfl ?_)
  obtain ⟨took,htk⟩:∃ took,took=ws.drop j:=⟨_,rfl⟩
  rw [<- htk] at a1 hgs hts hld hss
  obtain ⟨pt,rfl⟩:∃ pt,pt=p1:=⟨_,rfl⟩
  obtain ⟨A2,rfl⟩:∃ A2,A2=A1:=⟨_,rfl⟩
  have hE:=e1
  have hpt:=a1
  have htg:=hgs.2
  have htl:took.length<=5:=by lia
  have htt:Zp (ws.take j) + Zp took<=Zp ws + 1:=by lia
  have htm:∀ x∈took,x∈ws\/x=.bead "ash":=fun x hx=>.inl (by rw [htk] at hx;exact List.mem_of_mem_drop hx)
  refine ⟨_,hE _ _ ha,_,hE _ _ ha,fun p3 hp3=>?_⟩
  rw [Yb,hj,ZdG (by rw [Yb];exact hjl)]
  refine ⟨_,by rw [Zm (neA hpt hp3)];exact hpt,tup2,tup1,fun p4 hp4=>?_⟩
  have n34:p3≠p4:=neA Zd hp4
  refine ⟨_,_,by rw [Zm n34,Zd],Zd,Zr (by simp;lia),fun p5 hp5=>?_⟩
  have eT:(ws.map Wr.toU).take j++[.tup [.str (Zaq k),.tup (took.map Wr.toU)]]=(ws.take j++[Wr.many k took]).map Wr.toU:=by rw [Ym,Y5,Yu,Ya0,Wr.toU_many]
  rw [eT]
  have e:=hE.trans ((Ext.new (o:=.lst ((ws.map Wr.toU).take j)) hp3).trans (Ext.new (o:=.lst [U.tup [.str (Zaq k),.tup (took.map Wr.toU)]]) hp4))
  refine fgx e.put (q p5 _ (e.none hp5) ?_ ?_ ?_ ⟨⟨ws.take j,.many k took,rfl,fun x hx=>List.mem_of_mem_take hx,.inr (.inr ⟨htm,fun c h=>by cases h⟩)⟩,?_,.inl ?_⟩)
  ·rw [Zan,hgs.1]
   simp only [gdL,Wr.gd,htg,Ys,YA,Yc,YC]
   exact ⟨by lia,by lia⟩
  ·rw [Yh,hlt];simp only [List.length_cons,List.length_nil];lia
  ·rw [Zo];simp only [Zp,Wr.tups];lia
  ·rw [sizeL_app];simp only [sizeL,Wr.size];lia
  ·rw [Zo,sizeL_app];simp only [Zp,Wr.tups,sizeL,Wr.size];lia
end
noncomputable def Zhb:ASp:=fun us A Q=>∃ (a c:Addr) (z mx:Int) (ws:List Wr) (ss:List Str),us=[.ref a,.int z,.ref c,.int mx]/\mx<=30/\A a=some (.lst (ws.map Wr.toU))/\A c=some (.lst (ss.map U.str))/\ss.length=3/\(∀ s∈ss,PyData.strOk s=true)/\0<=z/\gdL ws=true/\ws.length<=58/\Zp ws<=88 /\
 ∀ (l:Addr) (ws':List Wr),A l=none->gdL ws'=true->ws'.length<=ws.length + 1->Zp ws'<=90->Nw ss ws ws'->Q (.ref l) (updA A l (.lst (ws'.map Wr.toU)))
theorem Zf6 {xs:List U} {x:U}:atI (xs++[x]) (-1)=some x:=by
 unfold atI ixN
 simp
 rw [if_pos (by lia),Option.bind_some,show (-1 + ((xs.length:Int) + 1)).toNat=xs.length by lia]
 simp
theorem at_m2 {xs:List U} {x y:U}:atI (xs++[x,y]) (-2)=some x:=by
 unfold atI ixN
 simp
 rw [if_pos (by lia),Option.bind_some,show (-2 + ((xs.length:Int) + 2)).toNat=xs.length by lia]
 simp
theorem cut_m1 {xs:List U} {x:U}:cutU (xs++[x]) none (some (-1))=xs:=by
 rw [ZjE _ (by simp)];simp
theorem cut_m2 {xs:List U} {x y:U}:cutU (xs++[x,y]) none (some (-2))=xs:=by
 have:HT.sIx (xs++[x,y]).length (xs++[x,y]).length (some (-2))=xs.length:=by
  unfold HT.sIx
  simp only [Yh,List.length_cons,List.length_nil]
  split <;> lia
 unfold cutU
 rw [HT.sIx_none,this,YaB,Nat.sub_zero,List.take_left']
 rfl
theorem grp_at {j:Int} (h0:0<=j) (h:j < 5):∃ k:Nat,k<=3/\atI [U.str (Str.ofString "row"),.str (Str.ofString "bag"),.str (Str.ofString "choice"),.str (Str.ofString "ring"),.str (Str.ofString "ring")] j=some (.str (Zaq k)):=by
 have:j=0\/j=1\/j=2\/j=3\/j=4:=by lia
 rcases this with h | h | h | h | h <;> rw [h]
 ·exact ⟨0,by decide,Zau (j:=0) rfl⟩
 ·exact ⟨1,by decide,Zau (j:=1) rfl⟩
 ·exact ⟨2,by decide,Zau (j:=2) rfl⟩
 ·exact ⟨3,by decide,Zau (j:=3) rfl⟩
 ·exact ⟨3,by decide,Zau (j:=4) rfl⟩
section
include T
theorem ok_deed : FnOk P w K mg base CX0 99 f_qm d_qm ["_law_stack","_law_cell_here","_law_words","_law_most"] (spOf K Zhb):=by
 have G_qb:=Zi8 (P:=P) (w:=w) (base:=base) T 97
 have G_qh:=ok_group (P:=P) (w:=w) (base:=base) T
 refine' Fun.okA T.F_qm (sc:=?sc18) (body:=?bd18) ?hs18 ?hb18 Zjc ?hB18 ?hS18
 case hs18=>conv=>lhs;whnf
 case hb18=>conv=>lhs;whnf
 case hB18=>exact fun S cdv A outer s H E hr=>⟨_,(Zg (Zz (i:=4) S.nd rfl (Or.inl rfl) (ZL ZbG (pv 1) Zh))
   (Zg (Zz (i:=5) S.nd rfl (Or.inl rfl) (ZL Ze7 (pv 1) Zh))
   (Zg (Zz (i:=6) S.nd rfl (Or.inl rfl) (Zw (Zez rfl) (by rfl) T.n_sum (by decide +kernel) (Za (ZaF (ts:=["_law_part"]) (frs':=[]) (cl:=[]) rfl ⟨rfl,rfl,(by decide +kernel),(by decide +kernel),(fun _ z=>nomatch z),(ZV rfl rfl),(fun _ z=>nomatch z)⟩ (ZaH (pv 0)) (fun _ _ _ _=>ZH (i:=0) nd1 rfl (Or.inl rfl) (.inr rfl)) (fun _ _ _ _=>Z3) (fun _ _ _ _=>by exact (Zu (G_qb.mono (by first | decide | lia)) hr (by rfl) T.M_qb T.F_qb.kp T.B_qb .nil Z7 (Za (pv 0) Ze)))) Ze)))
   (Zg (Zar ((ZcG (Zs o_gt (pv 4) Zh (Z2 _)) (ZcG (Zs o_gt (Zw Zbe (by rfl) T.n_len (by decide +kernel) (Za (pv 0) Ze)) Zh (Z2 _)) (Zb9 (Zs o_lt (ZL Z0 (pv 6) (Zu (G_qb.mono (by first | decide | lia)) hr (by rfl) T.M_qb T.F_qb.kp T.B_qb .nil Z7 (Za (ZR o_ix (pv 0) (ZdB Zb1 Zh) (fun _ _=>rfl)) Ze))) (pv 3) (Z2 _)))))).pt (Zl (ZE (ZL Z0 (pv 0) (ZaD (Za (ZR o_ix (pv 0) (ZdB Zb1 Zh) (fun _ _=>rfl)) Ze))))) ZG)
   (Zg (Zar ((ZcG (Zs (Zbf hr) (pv 4) Zh (Z2 _)) (Zb9 (Zs o_gt (Zw Zbe (by rfl) T.n_len (by decide +kernel) (Za (pv 0) Ze)) Zh (Z2 _))))).pt (Zl (ZE (ZL Z0 (ZK Za3 (pv 0) Z1 (ZO (ZdB Zb1 Zh))) (ZaD (Za (ZW (Za (ZR o_ix (ZaD (Za ZS (Za ZS Ze))) (ZL ZbG (pv 5) Zh) (fun _ _=>rfl)) (Za (ZR o_ix (pv 0) (ZdB Zb1 Zh) (fun _ _=>rfl)) Ze))) Ze))))) ZG)
   (Zg (Zar ((ZcG (Zs (Zbf hr) (pv 4) Zh (Z2 _)) (Zb9 (Zs o_gt (Zw Zbe (by rfl) T.n_len (by decide +kernel) (Za (pv 0) Ze)) Zh (Z2 _))))).pt (Zl (ZE (ZL Z0 (ZK Za3 (pv 0) Z1 (ZO (ZdB Zb1 Zh))) (ZaD (Za (ZW (Za ZS (Za (ZR o_ix (pv 0) (ZdB Zb1 Zh) (fun _ _=>rfl)) (Za (ZR o_ix (pv 0) (ZdB Zb1 Zh) (fun _ _=>rfl)) Ze)))) Ze))))) ZG)
   (Zg (Zar ((ZcG (Zs o_gt (pv 4) Zh (Z2 _)) (Zb9 (Zs o_lt (pv 4) Zh (Z2 _))))).pt (Zl (ZE (Zu (G_qh.mono (by first | decide | lia)) hr (by rfl) T.M_qh T.F_qh.kp T.B_qh .nil Z7 (Za (pv 0) (Za (ZL Z0 Zh (ZL ZbG (pv 5) Zh)) (Za (ZR o_ix (ZaD (Zbm (xs:=["row","bag","choice","ring","ring"]) rfl)) (ZL o_sub (pv 4) Zh) (fun _ _=>rfl)) Ze)))))) ZG)
   (Zg (Zar (Zs (Zbf hr) (pv 4) Zh (Z2 _)) (Zl (ZE (ZL Z0 (pv 0) (ZaD (Za (ZW (Za ZS Ze)) Ze))))) ZG)
   (Zl (ZE (ZL Z0 (pv 0) (ZaD (Za (ZW (Za ZS (Za (ZR o_ix (pv 2) (ZL ZbG (pv 5) (Zw Zbe (by rfl) T.n_len (by decide +kernel) (Za (pv 2) Ze))) (fun _ _=>rfl)) Ze))) Ze))))))))))))),(Zn (Zx (Zk Za4 Zb Zi) Zj)
   (Zn (Zx (Zk Zfj Zb Zi) Zj)
   (Zn (Zx (Z4 ZcK (Zc (Zak (ZaI Zab Zb) Zj Zal (Zv (Zc Zb Zf))) Zf)) Zj)
   (Zn (ZZ (ZcH (Zt (Zk ZfL Zb Zi)) (ZcH (Zt (Zk ZfL (Z4 ZaE (Zc Zb Zf)) Zi)) (Zt (Zk ab_lt (Zk ZX Zb (Zv (Zc (Zk ZQ Zb (ZdF Zb2 Zi)) Zf))) Zb)))) (ZD (Zk ZX Zb (ZaC (Zc (Zk ZQ Zb (ZdF Zb2 Zi)) Zf)))) ZF)
   (Zn (ZZ (ZcH (Zt (Zk Zbg Zb Zi)) (Zt (Zk ZfL (Z4 ZaE (Zc Zb Zf)) Zi))) (ZD (Zk ZX (ZaV Zah Zb ZC (ZP (ZdF Zb2 Zi))) (ZaC (Zc (ZY (Zc (Zk ZQ (ZaC (Zc ZT (Zc ZT Zf))) (Zk Za4 Zb Zi)) (Zc (Zk ZQ Zb (ZdF Zb2 Zi)) Zf))) Zf)))) ZF)
   (Zn (ZZ (ZcH (Zt (Zk Zbg Zb Zi)) (Zt (Zk ZfL (Z4 ZaE (Zc Zb Zf)) Zi))) (ZD (Zk ZX (ZaV Zah Zb ZC (ZP (ZdF Zb2 Zi))) (ZaC (Zc (ZY (Zc ZT (Zc (Zk ZQ Zb (ZdF Zb2 Zi)) (Zc (Zk ZQ Zb (ZdF Zb2 Zi)) Zf)))) Zf)))) ZF)
   (Zn (ZZ (ZcH (Zt (Zk ZfL Zb Zi)) (Zt (Zk ab_lt Zb Zi))) (ZD (Zv (Zc Zb (Zc (Zk ZX Zi (Zk Za4 Zb Zi)) (Zc (Zk ZQ (ZaC Zbs) (Zk ZgA Zb Zi)) Zf))))) ZF)
   (Zn (ZZ (Zt (Zk Zbg Zb Zi)) (ZD (Zk ZX Zb (ZaC (Zc (ZY (Zc ZT Zf)) Zf)))) ZF)
   (ZD (Zk ZX Zb (ZaC (Zc (ZY (Zc ZT (Zc (Zk ZQ Zb (Zk Za4 Zb (Z4 ZaE (Zc Zb Zf)))) Zf))) Zf))))))))))))⟩
 rintro us A Q ⟨a,c,z,mx,ws,ss,rfl,hmx,ha,hc,hs3,hso,hz,hg,hn,ht,q⟩
 refine ⟨rfl,?_⟩
 walk_at "qs"
 walk_at "qd"
 refine ⟨by decide,⟨by decide,by decide⟩,⟨_,ha⟩,fun l hl=>?_⟩
 walk_at "qc"
 refine Zbn ws Wr.toU (fun w=>.int (w.tups:Nat)) hl (by lia) (fun k A2 _ he=>⟨_,he _ _ ha,rfl⟩) (fun x A2 hx he Cy hc=>?_) ?_
 ·walk_at "qd"
  have:=Zaw hx
  have:=x.dep_le
  exact ⟨x,rfl,by lia,by lia,hc⟩
 walk_at "qd"
 refine ⟨ws.map fun w=>((w.tups:Nat):Int),by rw [Zd,YO];rfl,?_⟩
 rw [Zga]
 have e0:=Ext.new (o:=.lst (ws.map fun w=>U.int ((w.tups:Nat):Int))) hl
 generalize updA A l (.lst (ws.map fun w=>U.int ((w.tups:Nat):Int)))=A0 at e0 ⊢
 have ha0:=e0 _ _ ha
 have hc0:=e0 _ _ hc
 have hkz:=YS z (show (13:Int)≠0 by decide)
 have hk13:=YW z (show (0:Int) < 13 by decide)
 generalize z % 13=kd at hkz hk13 ⊢
 walk_at "qd"
 have dF:∀ {p:Prop} [Decidable p],¬ p->decide p=false:=fun h=>YZ h
 have dT:∀ {p:Prop} [Decidable p],p->decide p=true:=fun h=>YaA h
 by_cases h10:10 < kd
 ·have c4:¬ kd=4:=by lia
  have c5:¬ kd=5:=by lia
  have c6:5 < kd:=by lia
  have c11:¬ kd < 11:=by lia
  have c3:¬ kd=3:=by lia
  refine iteTt (dT h10) ⟨_,ha0,?_⟩
  rw [Yb]
  by_cases hl0:0 < ws.length
  ·refine iteTt (dT (by lia)) ?_
   obtain ⟨ws0,x,hws⟩:∃ ws0 x,ws=ws0++[x]:=by
    rcases Yaw ws with h | ⟨a,b,h⟩
    ·rw [h] at hl0;simp at hl0
    ·exact ⟨a,b,by rw [h];simp⟩
   have em:ws.map Wr.toU=ws0.map Wr.toU++[x.toU]:=by rw [hws,Ym];rfl
   have gx:=hg
   rw [hws,Zan,Yc] at gx
   simp only [gdL,Ys] at gx
   have htx:Zp ws=Zp ws0 + x.tups:=by rw [hws,Zo];simp only [Zp,Nat.add_zero]
   have hdx:=x.dep_le
   refine ⟨_,x.toU,ha0,by rw [em];exact Zf6,x,rfl,by lia,by lia,?_⟩
   walk_at "qd"
   refine iteB (fun hb=>?_) fun hb=>?_
   ·have hb:=YaZ hb
    refine ⟨_,x.toU,ha0,by rw [em];exact Zf6,tup1,fun p9 hp9=>?_⟩
    refine ⟨_,_,by rw [Zm (neA ha0 hp9)];exact ha0,Zd,Zr (by rw [Yb];simp only [List.length_cons,List.length_nil];lia),fun p10 hp10=>?_⟩
    have e9:=e0.trans (Ext.new (o:=.lst [x.toU]) hp9)
    have:=q p10 (ws++[x]) (e9.none hp10) (by rw [Zan,hg];simp [gdL,gx.2]) (by rw [Yh];exact Yg _) (by rw [Zo];simp only [Zp];lia) ⟨⟨ws,x,rfl,fun y hy=>hy,.inl (by rw [hws];simp)⟩,by rw [sizeL_app];lia,.inr (by rw [Zo];simp only [Zp];lia)⟩
    rw [Ym] at this
    exact fgx e9.put this
   ·refine ZB (dF c4) (ZB rfl (ZB (dF c5) (ZB rfl (iteTt (dT c6) (ZB (dF c11) (ZB (dF c3) ?_))))))
    refine ⟨_,hc0,?_⟩
    rw [Yb,hs3]
    obtain ⟨u,hu,hu2⟩:=Zdr (xs:=ss.map U.str) (i:=z / 13 % 3) (YS _ (by decide)) (by rw [Yb,hs3];exact YW _ (by decide))
    obtain ⟨s,hs,rfl⟩:=Zai hu2
    have hsk:=hso s (Yn hs)
    refine ⟨by decide,_,_,hc0,hu,tup2,tup1,fun p9 hp9=>?_⟩
    refine ⟨_,_,by rw [Zm (neA ha0 hp9)];exact ha0,Zd,Zr (by rw [Yb];simp only [List.length_cons,List.length_nil];lia),fun p10 hp10=>?_⟩
    have e9:=e0.trans (Ext.new (o:=.lst [U.tup [.str (Str.ofString "bead"),.str s]]) hp9)
    have:=q p10 (ws++[.bead s]) (e9.none hp10) (by rw [Zan,hg];simp [gdL,Wr.gd,hsk]) (by rw [Yh];exact Yg _) (by rw [Zo];simp only [Zp,Wr.tups];lia) ⟨⟨ws,.bead s,rfl,fun x hx=>hx,.inr (.inl ⟨s,Yn hs,rfl⟩)⟩,by rw [sizeL_app];lia,.inl (by rw [Zo,sizeL_app];simp only [Zp,Wr.tups,sizeL,Wr.size];lia)⟩
    rw [Ym] at this
    exact fgx e9.put this
  ·refine ZB (dF (by lia)) (ZB rfl (ZB (dF c4) (ZB rfl (ZB (dF c5) (ZB rfl (iteTt (dT c6) (ZB (dF c11) (ZB (dF c3) ?_))))))))
   refine ⟨_,hc0,?_⟩
   rw [Yb,hs3]
   obtain ⟨u,hu,hu2⟩:=Zdr (xs:=ss.map U.str) (i:=z / 13 % 3) (YS _ (by decide)) (by rw [Yb,hs3];exact YW _ (by decide))
   obtain ⟨s,hs,rfl⟩:=Zai hu2
   have hsk:=hso s (Yn hs)
   refine ⟨by decide,_,_,hc0,hu,tup2,tup1,fun p9 hp9=>?_⟩
   refine ⟨_,_,by rw [Zm (neA ha0 hp9)];exact ha0,Zd,Zr (by rw [Yb];simp only [List.length_cons,List.length_nil];lia),fun p10 hp10=>?_⟩
   have e9:=e0.trans (Ext.new (o:=.lst [U.tup [.str (Str.ofString "bead"),.str s]]) hp9)
   have:=q p10 (ws++[.bead s]) (e9.none hp10) (by rw [Zan,hg];simp [gdL,Wr.gd,hsk]) (by rw [Yh];exact Yg _) (by rw [Zo];simp only [Zp,Wr.tups];lia) ⟨⟨ws,.bead s,rfl,fun x hx=>hx,.inr (.inl ⟨s,Yn hs,rfl⟩)⟩,by rw [sizeL_app];lia,.inl (by rw [Zo,sizeL_app];simp only [Zp,Wr.tups,sizeL,Wr.size];lia)⟩
   rw [Ym] at this
   exact fgx e9.put this
 ·refine ZB (dF h10) (ZB rfl ?_)
  by_cases c4:kd=4
  ·refine iteTt (dT c4) ⟨_,ha0,?_⟩
   rw [Yb]
   by_cases hl0:0 < ws.length
   ·refine iteTt (dT (by lia)) ?_
    obtain ⟨ws0,x,hws⟩:∃ ws0 x,ws=ws0++[x]:=by
     rcases Yaw ws with h | ⟨a,b,h⟩
     ·rw [h] at hl0;simp at hl0
     ·exact ⟨a,b,by rw [h];simp⟩
    have em:ws.map Wr.toU=ws0.map Wr.toU++[x.toU]:=by rw [hws,Ym];rfl
    have gx:=hg
    rw [hws,Zan,Yc] at gx
    simp only [gdL,Ys] at gx
    have htx:Zp ws=Zp ws0 + x.tups:=by rw [hws,Zo];simp only [Zp,Nat.add_zero]
    have hlx:ws.length=ws0.length + 1:=by rw [hws];simp
    rw [em] at ha0
    refine ⟨_,ha0,fun p1 hp1=>?_⟩
    rw [cut_m1]
    refine ⟨tup2,fun p2 hp2=>?_⟩
    have e1:=Ext.new (o:=.lst (ws0.map Wr.toU)) hp1
    have a1:updA A0 p1 (.lst (ws0.map Wr.toU)) p1=some (.lst (ws0.map Wr.toU)):=Zd
    generalize updA A0 p1 (.lst (ws0.map Wr.toU))=A1 at e1 a1 hp2 ⊢
    obtain ⟨b,hb⟩:=side_atU (j:=z / 13 % 2) (YS _ (by decide)) (YW _ (by decide))
    have e2:=Ext.new (o:=.lst [U.str (Str.ofString "left"),.str (Str.ofString "right")]) hp2
    refine ⟨by decide,_,_,Zd,hb,_,_,e2 _ _ (e1 _ _ ha0),Zf6,tup2,tup1,fun p9 hp9=>?_⟩
    refine ⟨_,_,by rw [Zm (neA (e2 _ _ a1) hp9)];exact e2 _ _ a1,Zd,Zr (by rw [Yb];simp only [List.length_cons,List.length_nil];lia),fun p10 hp10=>?_⟩
    have e9:=e0.trans (e1.trans (e2.trans (Ext.new (o:=.lst [U.tup [.str (Zcw b),x.toU]]) hp9)))
    have hsx:sizeL ws=sizeL ws0 + x.size:=by rw [hws,sizeL_app];simp only [sizeL,Nat.add_zero]
    have:=q p10 (ws0++[.side b x]) (e9.none hp10) (by rw [Zan,gx.1];simp [gdL,Wr.gd,gx.2]) (by rw [Yh];simp only [List.length_cons,List.length_nil];lia) (by rw [Zo];simp only [Zp,Wr.tups];lia) ⟨⟨ws0,.side b x,rfl,fun y hy=>by rw [hws];exact Yau _ hy,.inr (.inr ⟨fun y hy=>.inl (by rw [Yv.mp hy,hws];simp),fun c h=>by cases h⟩)⟩,by rw [sizeL_app];simp only [sizeL,Wr.size];lia,.inl (by rw [Zo,sizeL_app];simp only [Zp,Wr.tups,sizeL,Wr.size];lia)⟩
    rw [Ym] at this
    exact fgx e9.put this
   ·refine ZB (dF (by lia)) (ZB (dF (by lia)) (ZB rfl (ZB (dF (by lia)) (ZB rfl (ZB (dF (by lia)) ?_)))))
    refine ⟨_,hc0,?_⟩
    rw [Yb,hs3]
    obtain ⟨u,hu,hu2⟩:=Zdr (xs:=ss.map U.str) (i:=z / 13 % 3) (YS _ (by decide)) (by rw [Yb,hs3];exact YW _ (by decide))
    obtain ⟨s,hs,rfl⟩:=Zai hu2
    have hsk:=hso s (Yn hs)
    refine ⟨by decide,_,_,hc0,hu,tup2,tup1,fun p9 hp9=>?_⟩
    refine ⟨_,_,by rw [Zm (neA ha0 hp9)];exact ha0,Zd,Zr (by rw [Yb];simp only [List.length_cons,List.length_nil];lia),fun p10 hp10=>?_⟩
    have e9:=e0.trans (Ext.new (o:=.lst [U.tup [.str (Str.ofString "bead"),.str s]]) hp9)
    have:=q p10 (ws++[.bead s]) (e9.none hp10) (by rw [Zan,hg];simp [gdL,Wr.gd,hsk]) (by rw [Yh];exact Yg _) (by rw [Zo];simp only [Zp,Wr.tups];lia) ⟨⟨ws,.bead s,rfl,fun x hx=>hx,.inr (.inl ⟨s,Yn hs,rfl⟩)⟩,by rw [sizeL_app];lia,.inl (by rw [Zo,sizeL_app];simp only [Zp,Wr.tups,sizeL,Wr.size];lia)⟩
    rw [Ym] at this
    exact fgx e9.put this
  ·refine ZB (dF c4) (ZB rfl ?_)
   by_cases c5:kd=5
   ·refine iteTt (dT c5) ⟨_,ha0,?_⟩
    rw [Yb]
    by_cases hl1:1 < ws.length
    ·refine iteTt (dT (by lia)) ?_
     obtain ⟨ws0,x,y,hws⟩:∃ ws0 x y,ws=ws0++[x,y]:=by
      rcases Yaw ws with h | ⟨a,b,h⟩
      ·rw [h] at hl1;simp at hl1
      ·rcases Yaw a with h2 | ⟨c,d,h2⟩
       ·rw [h,h2] at hl1;simp at hl1
       ·exact ⟨c,d,b,by rw [h,h2];simp⟩
     have em:ws.map Wr.toU=ws0.map Wr.toU++[x.toU,y.toU]:=by rw [hws,Ym];rfl
     have em1:ws.map Wr.toU=(ws0.map Wr.toU++[x.toU])++[y.toU]:=by rw [em];simp
     have gx:=hg
     rw [hws,Zan,Yc] at gx
     simp only [gdL,Ys,Yc] at gx
     have htx:Zp ws=Zp ws0 + (x.tups + y.tups):=by rw [hws,Zo];simp only [Zp,Nat.add_zero]
     have hlx:ws.length=ws0.length + 2:=by rw [hws];simp
     refine ⟨_,ha0,fun p1 hp1=>?_⟩
     have ecut:cutU (ws.map Wr.toU) none (some (-2))=ws0.map Wr.toU:=by rw [em];exact cut_m2
     rw [ecut]
     have e1:=Ext.new (o:=.lst (ws0.map Wr.toU)) hp1
     have a1:updA A0 p1 (.lst (ws0.map Wr.toU)) p1=some (.lst (ws0.map Wr.toU)):=Zd
     generalize updA A0 p1 (.lst (ws0.map Wr.toU))=A1 at e1 a1 ⊢
     refine ⟨_,x.toU,e1 _ _ ha0,by rw [em];exact at_m2,_,y.toU,e1 _ _ ha0,by rw [em1];exact Zf6,tup3,tup1,fun p9 hp9=>?_⟩
     refine ⟨_,_,by rw [Zm (neA a1 hp9)];exact a1,Zd,Zr (by rw [Yb];simp only [List.length_cons,List.length_nil];lia),fun p10 hp10=>?_⟩
     have e9:=e0.trans (e1.trans (Ext.new (o:=.lst [U.tup [.str (Str.ofString "pair"),x.toU,y.toU]]) hp9))
     have hsx:sizeL ws=sizeL ws0 + (x.size + y.size):=by rw [hws,sizeL_app];simp only [sizeL,Nat.add_zero]
     have:=q p10 (ws0++[.pair x y]) (e9.none hp10) (by rw [Zan,gx.1];simp [gdL,Wr.gd,gx.2]) (by rw [Yh];simp only [List.length_cons,List.length_nil];lia) (by rw [Zo];simp only [Zp,Wr.tups];lia) ⟨⟨ws0,.pair x y,rfl,fun u hu=>by rw [hws];exact Yau _ hu,.inr (.inr ⟨fun u hu=>.inl (by rw [hws];exact Yw _ hu),fun c h=>by cases h⟩)⟩,by rw [sizeL_app];simp only [sizeL,Wr.size];lia,.inl (by rw [Zo,sizeL_app];simp only [Zp,Wr.tups,sizeL,Wr.size];lia)⟩
     rw [Ym] at this
     exact fgx e9.put this
    ·refine ZB (dF (by lia)) (ZB (dF (by lia)) (ZB rfl (ZB (dF (by lia)) ?_)))
     refine ⟨_,hc0,?_⟩
     rw [Yb,hs3]
     obtain ⟨u,hu,hu2⟩:=Zdr (xs:=ss.map U.str) (i:=z / 13 % 3) (YS _ (by decide)) (by rw [Yb,hs3];exact YW _ (by decide))
     obtain ⟨s,hs,rfl⟩:=Zai hu2
     have hsk:=hso s (Yn hs)
     refine ⟨by decide,_,_,hc0,hu,tup2,tup1,fun p9 hp9=>?_⟩
     refine ⟨_,_,by rw [Zm (neA ha0 hp9)];exact ha0,Zd,Zr (by rw [Yb];simp only [List.length_cons,List.length_nil];lia),fun p10 hp10=>?_⟩
     have e9:=e0.trans (Ext.new (o:=.lst [U.tup [.str (Str.ofString "bead"),.str s]]) hp9)
     have:=q p10 (ws++[.bead s]) (e9.none hp10) (by rw [Zan,hg];simp [gdL,Wr.gd,hsk]) (by rw [Yh];exact Yg _) (by rw [Zo];simp only [Zp,Wr.tups];lia) ⟨⟨ws,.bead s,rfl,fun x hx=>hx,.inr (.inl ⟨s,Yn hs,rfl⟩)⟩,by rw [sizeL_app];lia,.inl (by rw [Zo,sizeL_app];simp only [Zp,Wr.tups,sizeL,Wr.size];lia)⟩
     rw [Ym] at this
     exact fgx e9.put this
   ·refine ZB (dF c5) (ZB rfl ?_)
    by_cases c6:5 < kd
    ·refine iteTt (dT c6) (iteTt (dT (by lia)) ?_)
     walk_at "qd"
     obtain ⟨k,hk3,hk⟩:=grp_at (j:=kd - 6) (by lia) (by lia)
     refine ⟨by decide,by decide,fun p1 hp1=>⟨_,_,Zd,hk,?_⟩⟩
     have e1:=Ext.new (o:=.lst [U.str (Str.ofString "row"),.str (Str.ofString "bag"),.str (Str.ofString "choice"),.str (Str.ofString "ring"),.str (Str.ofString "ring")]) hp1
     have m0:=YS (z / 13) (show (5:Int)≠0 by decide)
     have m5:=YW (z / 13) (show (0:Int) < 5 by decide)
     refine ⟨a,_,k,ws,rfl,e1 _ _ ha0,hk3,by lia,by lia,hg,by lia,fun l2 ws' hl2 g' n' t' nw=>?_⟩
     exact fgx (e0.trans e1).put (q l2 ws' ((e0.trans e1).none hl2) g' n' (by lia) nw.of)
    ·refine ZB (dF c6) (ZB rfl ?_)
     by_cases c3:kd=3
     ·refine iteTt (dT c3) ⟨tup1,tup1,fun p9 hp9=>?_⟩
      refine ⟨_,_,by rw [Zm (neA ha0 hp9)];exact ha0,Zd,Zr (by rw [Yb];simp only [List.length_cons,List.length_nil];lia),fun p10 hp10=>?_⟩
      have e9:=e0.trans (Ext.new (o:=.lst [U.tup [.str (Str.ofString "nothing")]]) hp9)
      have:=q p10 (ws++[.nothing]) (e9.none hp10) (by rw [Zan,hg];rfl) (by rw [Yh];exact Yg _) (by rw [Zo];simp only [Zp,Wr.tups];lia) ⟨⟨ws,.nothing,rfl,fun x hx=>hx,.inr (.inr ⟨fun x hx=>(by cases hx),fun c h=>by cases h⟩)⟩,by rw [sizeL_app];lia,.inl (by rw [Zo,sizeL_app];simp only [Zp,Wr.tups,sizeL,Wr.size];lia)⟩
      rw [Ym] at this
      exact fgx e9.put this
     ·refine ZB (dF c3) ?_
      refine ⟨_,hc0,?_⟩
      rw [Yb,hs3]
      obtain ⟨u,hu,hu2⟩:=Zdr (xs:=ss.map U.str) (i:=z / 13 % 3) (YS _ (by decide)) (by rw [Yb,hs3];exact YW _ (by decide))
      obtain ⟨s,hs,rfl⟩:=Zai hu2
      have hsk:=hso s (Yn hs)
      refine ⟨by decide,_,_,hc0,hu,tup2,tup1,fun p9 hp9=>?_⟩
      refine ⟨_,_,by rw [Zm (neA ha0 hp9)];exact ha0,Zd,Zr (by rw [Yb];simp only [List.length_cons,List.length_nil];lia),fun p10 hp10=>?_⟩
      have e9:=e0.trans (Ext.new (o:=.lst [U.tup [.str (Str.ofString "bead"),.str s]]) hp9)
      have:=q p10 (ws++[.bead s]) (e9.none hp10) (by rw [Zan,hg];simp [gdL,Wr.gd,hsk]) (by rw [Yh];exact Yg _) (by rw [Zo];simp only [Zp,Wr.tups];lia) ⟨⟨ws,.bead s,rfl,fun x hx=>hx,.inr (.inl ⟨s,Yn hs,rfl⟩)⟩,by rw [sizeL_app];lia,.inl (by rw [Zo,sizeL_app];simp only [Zp,Wr.tups,sizeL,Wr.size];lia)⟩
      rw [Ym] at this
      exact fgx e9.put this
end
noncomputable def Zhu (val:Wr->U) (fd:Addr):ASp:=fun us A Q=>∃ w:Wr,us=[w.toU,.ref fd]/\w.ok=true/\w.tups<=200/\Q (val w) A
section
include T
theorem Zie (k:Nat) (hk:1<=k) {val:Wr->U} {fd:Addr} {dd:FuncData} {pd:List Str} (G_deed:FnOk P w K mg base CX0 k fd dd pd (spOf K (Zd1 val))) (hk_deed:PySem.W.keepIn K (.ref fd)=true) (hb_deed:Zao K dd pd []):FnOk P w K mg base CX0 (k + 2) f_qk d_qk ["writing","deed"] (spOf K (Zhu val fd)) :=
 (ZdN (P:=P) (w:=w) (base:=base) (C:=fun _=>True) (Dw:=fun _=>True) (val:=val) T k hk (fun _ _ _ h=>h) (G_deed.imp fun _ _ _ _ ⟨us,A,Q',r,g,⟨w,l,e,hl,ho,ht,_,_,q⟩,z⟩=>⟨us,A,Q',r,g,⟨w,l,e,hl,ho,ht,q⟩,z⟩) hk_deed hb_deed).imp fun _ _ _ _ ⟨us,A,Q',r,g,⟨w,e,ho,ht,q⟩,z⟩=>⟨us,A,Q',r,g,⟨w,e,ho,ht,fun _ _=>trivial,trivial,q⟩,z⟩
end
noncomputable def asp_size:ASp:=fun us A Q=>∃ w:Wr,us=[w.toU]/\w.ok=true/\w.tups<=200/\Q (.int (w.size:Nat)) A
section
include T
theorem ZhQ:FnOk P w K mg base CX0 1 f_qf d_qf ["figure","sizes"] (spOf K (Zd1 fun w=>.int (w.size:Nat))):=by
 refine' Fun.okA T.F_qf (sc:=?sc19) (body:=?bd19) ?hs19 ?hb19 ZhP ?hB19 ?hS19
 case hs19=>conv=>lhs;whnf
 case hb19=>conv=>lhs;whnf
 case hB19=>exact fun S cdv A outer s H E hr=>⟨_,(Zg (Zar (Zs (Zbf hr) (ZR o_ix (pv 0) Zh (fun _ _=>rfl)) ZS (Z2 _)) (Zl (ZE Zh)) ZG)
   (Zl (ZE (Zw (Zez rfl) (by rfl) T.n_sum (by decide +kernel) (Za (pv 1) Ze))))),(Zn (ZZ (Zt (Zk Zbg (Zk ZQ Zb Zi) ZT)) (ZD Zi) ZF)
   (ZD (Z4 ZcK (Zc Zb Zf))))⟩
 rintro us A Q ⟨w,l,rfl,hl,hok,ht,q⟩
 refine ⟨rfl,?_⟩
 walk_at "qs"
 rcases w.kinds with ⟨c,rfl⟩ | ⟨k,ps,rfl⟩ | hf
 ·rw [Wr.toU]
  walk_at "qd"
  exact iteTt rfl (fg q)
 ·rw [Wr.toU_many]
  walk_at "qd"
  refine ZB (nbm k) ⟨ps.map fun w=>((w.size:Nat):Int),by rw [hl,YO];rfl,fg ?_⟩
  rw [ZbO];exact q
 ·rw [Wr.toU_few hf]
  walk_at "qd"
  refine ZB (ZbJ hf.1) ⟨w.parts.map fun w=>((w.size:Nat):Int),by rw [hl,YO];rfl,fg ?_⟩
  rw [ZbO,<- w.size_parts hf.1];exact q
theorem ZhH:FnOk P w K mg base CX0 4 f_qe d_qe ["figure"] (spOf K asp_size):=by
 have G_qk:=Zie (P:=P) (w:=w) (base:=base) T 1 (by decide) (ZhQ (P:=P) (w:=w) (base:=base) T) T.F_qf.kp T.B_qf
 refine' Fun.okA T.F_qe (sc:=?sc20) (body:=?bd20) ?hs20 ?hb20 ZhF ?hB20 ?hS20
 case hs20=>conv=>lhs;whnf
 case hb20=>conv=>lhs;whnf
 case hB20=>exact fun S cdv A outer s H E hr=>⟨_,(Zl (ZE (Zu (G_qk.mono (by first | decide | lia)) hr (by rfl) T.M_qk T.F_qk.kp T.B_qk .nil Z7 (Za (pv 0) (Za (Zc8 (v:=.ref f_qf) (by rfl) T.M_qf rfl) Ze))))),(ZD (Zv (Zc Zb (Zc Zju Zf))))⟩
 rintro us A Q ⟨w,rfl,hok,ht,q⟩
 refine ⟨rfl,?_⟩
 walk_at "qs"
 walk_at "qd"
 exact ⟨w,rfl,hok,ht,fg q⟩
end
noncomputable def asp_fact:ASp:=fun us A Q=>∃ n:Nat,us=[.int n]/\n<=10/\Q (.int (fct n:Nat)) A
noncomputable def asp_nam (t:Addr):ASp:=fun us A Q=>∃ (w:Wr) (D:Nat),us=[w.toU]/\w.gd=true/\w.tups<=95/\w.size<=10/\D * w.pl.ways=fct w.size/\Cp t A/\Q (.int (D:Nat)) A
section
include T
theorem ok_fact:FnOk P w K mg base CX0 1 f_q5 d_q5 ["n"] (spOf K asp_fact):=by
 refine' Fun.okA T.F_q5 (sc:=?sc21) (body:=?bd21) ?hs21 ?hb21 ZeQ ?hB21 ?hS21
 case hs21=>conv=>lhs;whnf
 case hb21=>conv=>lhs;whnf
 case hB21=>exact fun S cdv A outer s H E hr=>⟨_,(Zg (Zz (i:=1) S.nd rfl (Or.inl rfl) Zh)
   (Zg (Zbz Y2 rfl (Ze1 rfl T.n_range (Za Zh (Za (ZL Z0 (pv 0) Zh) Ze))) (ZH (i:=2) S.nd rfl (Or.inl rfl))
   (Zl (Zfg (i:=1) S.nd rfl (Or.inl rfl) (pv 2) ZeL)))
   (Zl (ZE (pv 1))))),(Zn (Zx Zi Zj)
   (Zn (Zbt (Zgk (Zc Zi (Zc (Zk ZX Zb Zi) Zf))) Zj
   (Ze3 Zb ZbM))
   (ZD Zb)))⟩
 rintro us A Q ⟨n,rfl,hn,q⟩
 refine ⟨rfl,?_⟩
 walk_at "qs"
 walk_at "qd"
 refine ⟨⟨by decide,by decide,by lia,by lia⟩,ZfQ (fun k ρ A2=>A2=A/\∃ x2,ρ=[some (.int n),some (.int (fct (k + 1):Nat)),x2]) ⟨rfl,_,rfl⟩ (fun k u ρ A2 hu h=>?_) (fun ρ A2 h=>?_)⟩
 ·obtain ⟨rfl,x2,rfl⟩:=h
  have hk:=(Yp.mp hu).1
  rw [rngU_len] at hk
  rw [ZbD,if_pos hk] at hu
  cases hu
  walk_at "qd"
  have hb:fct (k + 1)<=2 ^ 1200:=YE (Zcj (show k + 1<=10 by lia)) (by decide +kernel)
  refine ⟨?_,trivial,some (.int (2 + (k:Int))),?_⟩
  ·have:=ZcS hb (show k + 2<=2 ^ 1200 from YE (show k + 2<=12 by lia) (by decide +kernel))
   rw [show (2:Int) + (k:Int)=((k + 2:Nat):Int) by lia]
   exact this
  ·rw [show fct (k + 1 + 1)=fct (k + 1) * (k + 2) by rw [fct,Nat.mul_comm]]
   rw [show (2:Int) + (k:Int)=((k + 2:Nat):Int) by lia,<- Int.natCast_mul]
 ·obtain ⟨rfl,x2,rfl⟩:=h
  walk_at "qd"
  refine fg ?_
  rw [rngU_len]
  cases n with
  | zero=>exact q
  | succ n =>
   rw [show (((n + 1:Nat):Int) + 1 - 2).toNat + 1=n + 1 by lia]
   exact q
theorem ok_nam (hBA_q6:base.BuiltinsAt mg t_q6):FnOk P w K mg base CX0 12 f_qc d_qc ["writing"] (spOf K (asp_nam t_q6)):=by
 have G_q5:=ok_fact (P:=P) (w:=w) (base:=base) T
 have G_qe:=ZhH (P:=P) (w:=w) (base:=base) T
 have G_qu:=ok_qu (P:=P) (w:=w) (base:=base) T hBA_q6
 refine' Fun.okA T.F_qc (sc:=?sc22) (body:=?bd22) ?hs22 ?hb22 ZhN ?hB22 ?hS22
 case hs22=>conv=>lhs;whnf
 case hb22=>conv=>lhs;whnf
 case hB22=>exact fun S cdv A outer s H E hr=>⟨_,(Zl (ZE (ZL Ze7 (Zu (G_q5.mono (by first | decide | lia)) hr (by rfl) T.M_q5 T.F_q5.kp T.B_q5 .nil Z7 (Za (Zu (G_qe.mono (by first | decide | lia)) hr (by rfl) T.M_qe T.F_qe.kp T.B_qe .nil Z7 (Za (pv 0) Ze)) Ze)) (Zu (G_qu.mono (by first | decide | lia)) hr (by rfl) T.M_qu T.F_qu.kp T.B_qu .nil Z7 (Za (pv 0) Ze))))),(ZD (Zk Zfj (Zv (Zc (Zv (Zc Zb Zf)) Zf)) (Zv (Zc Zb Zf))))⟩
 rintro us A Q ⟨w,D,rfl,hg,ht,hs,hD,hC,q⟩
 refine ⟨rfl,?_⟩
 walk_at "qs"
 walk_at "qd"
 have hf:=Zf0 w.size
 have hw:w.pl.ways≠0:=fun h=>by rw [h,Nat.mul_zero] at hD;lia
 refine ⟨w,rfl,w.gd_ok hg,by lia,w.size,rfl,hs,w,rfl,hg,ht,hC,?_⟩
 walk_at "qd"
 have hD0:1<=D:=by
  rcases Nat.eq_zero_or_pos D with h | h
  ·rw [h,Nat.zero_mul] at hD;lia
  ·exact h
 have hle:w.pl.ways<=fct w.size:=by rw [<- hD];exact Nat.le_mul_of_pos_left _ hD0
 have h10:fct w.size<=3628800:=Zcj hs
 refine ⟨⟨by lia,by lia⟩,fg ?_⟩
 rw [<- hD,<- Int.natCast_ediv,Nat.mul_div_cancel _ (by lia)]
 exact q
end
/-- orders as they lie: a list of lists -/
noncomputable def nI (o:List Nat):List U:=o.map fun (k:Nat)=>U.int (k:Int)
noncomputable def OrdL (A:AHp) (ads:List Addr) (os:List (List Nat)):Prop:=ads.length=os.length/\∀ (i:Nat) (a:Addr),ads[i]? = some a->∃ o,os[i]? = some o/\A a=some (.lst (nI o))
theorem OrdL.ext {A A':AHp} {ads:List Addr} {os:List (List Nat)} (h:OrdL A ads os) (e:Ext A A'):OrdL A' ads os:=⟨h.1,fun i a hi=>by
 obtain ⟨o,h1,h2⟩:=h.2 i a hi
 exact ⟨o,h1,e _ _ h2⟩⟩
theorem OrdL.snoc {A:AHp} {ads:List Addr} {os:List (List Nat)} {a:Addr} {o:List Nat} (h:OrdL A ads os) (ha:A a=some (.lst (nI o))):OrdL A (ads++[a]) (os++[o]):=by
 refine ⟨by rw [Yh,Yh,h.1];rfl,fun i b hi=>?_⟩
 by_cases c:i < ads.length
 ·rw [Yar c] at hi
  obtain ⟨o',h1,h2⟩:=h.2 i b hi
  exact ⟨o',by rw [Yar (by rw [<- h.1];exact c)];exact h1,h2⟩
 ·have hil:=(Yp.mp hi).1
  rw [Yh,List.length_singleton] at hil
  have:i=ads.length:=by lia
  subst this
  rw [Yae (Yg _),YbU] at hi
  simp at hi
  subst hi
  exact ⟨o,by rw [h.1,Yae (Yg _),YbU];rfl,ha⟩
theorem OrdL.upd {A:AHp} {ads:List Addr} {os:List (List Nat)} {l:Addr} {x:AO} (h:OrdL A ads os) (hl:l ∉ ads):OrdL (updA A l x) ads os:=⟨h.1,fun i a hi=>by
 obtain ⟨o,h1,h2⟩:=h.2 i a hi
 exact ⟨o,h1,by rw [Zm (fun e=>hl (by rw [<- e];exact Yn hi))];exact h2⟩⟩
theorem Zd3 {x:Nat}:∀ {l:List Nat} {j:Nat},j<=l.length->(ins x l)[j]? = some (l.take j++x::l.drop j)
 | [],j,h=>by
  have:j=0:=by simpa using h
  subst this
  rfl
 | y::l,0,_=>rfl
 | y :: l,j + 1,h=>by
  rw [ins,List.getElem?_cons_succ,Yr,Zd3 (by simpa using h)]
  rfl
noncomputable def rvn (n:Nat):List Nat:=(List.range n).reverse
theorem rvn_succ (n:Nat):rvn (n + 1)=n::rvn n:=by unfold rvn;rw [List.range_succ,Ycu];rfl
theorem ZbQ (n:Nat):(rvn n).length=n:=by unfold rvn;rw [Yaq,Yab]
theorem rvn_mem {n k:Nat} (h:k∈rvn n):k < n:=by unfold rvn at h;rw [YcV,Yad] at h;exact h
noncomputable def ZhJ:ASp:=fun us A Q=>∃ n:Nat,us=[.int n]/\n<=5/\∀ (l:Addr) (ads:List Addr) (A':AHp),Ext A A'->A' l=some (.lst (ads.map U.ref))->OrdL A' ads (Zad (rvn n))->Q (.ref l) A'
section
include T
theorem ZjQ : FnOk P w K mg base CX0 1 f_q8 d_q8 ["_law_size_here"] (spOf K ZhJ):=by
 refine' Fun.okA T.F_q8 (sc:=?sc23) (body:=?bd23) ?hs23 ?hb23 ZfV ?hB23 ?hS23
 case hs23=>conv=>lhs;whnf
 case hb23=>conv=>lhs;whnf
 case hB23=>exact fun S cdv A outer s H E hr=>⟨_,(Zg (Zz (i:=1) S.nd rfl (Or.inl rfl) (ZaD (Za (ZaD Ze) Ze)))
   (Zg (Zbz Y2 rfl (ZbA rfl T.n_range (Za (pv 0) Ze)) (ZH (i:=2) S.nd rfl (Or.inl rfl))
   (Zg (Zz (i:=3) S.nd rfl (Or.inl rfl) (ZaD Ze))
   (Zg (Zbz Y2 rfl (ZaH (pv 1)) (ZH (i:=4) S.nd rfl (Or.inl rfl))
   (Zl (Zbz Y2 rfl (ZbA rfl T.n_range (Za (ZL Z0 (Zw Zbe (by rfl) T.n_len (by decide +kernel) (Za (pv 4) Ze)) Zh) Ze)) (ZH (i:=5) S.nd rfl (Or.inl rfl))
   (Zl (ZcE (Zdy YY Yax Yay ZbB (pv 3) (Za (ZL Z0 (ZL Z0 (ZK Za3 (pv 4) Z1 (ZO (pv 5))) (ZaD (Za (pv 2) Ze))) (ZK Za3 (pv 4) (ZO (pv 5)) Z1)) Ze)))))))
   (Zl (Zz (i:=1) S.nd rfl (Or.inl rfl) (pv 3))))))
   (Zl (ZE (pv 1))))),(Zn (Zx (ZaC (Zc (ZaC Zf) Zf)) Zj)
   (Zn (Zbt (ZbZ (Zc Zb Zf)) Zj
   (Zn (Zx (ZaC Zf) Zj)
   (Zn (Zbt (ZaI Zab Zb) Zj
   (Zbt (ZbZ (Zc (Zk ZX (Z4 ZaE (Zc Zb Zf)) Zi) Zf)) Zj
   (Zcr (Zei Za9 Zdb Zb (Zc (Zk ZX (Zk ZX (ZaV Zah Zb ZC (ZP Zb)) (ZaC (Zc Zb Zf))) (ZaV Zah Zb (ZP Zb) ZC)) Zf)))))
   (Zx Zb Zj))))
   (ZD Zb)))⟩
 rintro us A Q ⟨n,rfl,hn,q⟩
 refine ⟨rfl,?_⟩
 walk_at "qs"
 walk_at "qd"
 refine ⟨by decide,fun p0 hp0=>⟨tup1,fun p1 hp1=>⟨by lia,by lia,?_⟩⟩⟩
 have n01:p0≠p1:=neA Zd hp1
 have e1:=(Ext.new (o:=.lst []) hp0).trans (Ext.new (o:=.lst [U.ref p0]) hp1)
 have a0:(updA (updA A p0 (.lst [])) p1 (.lst [U.ref p0])) p0=some (.lst []):=by rw [Zm n01,Zd]
 have a1:(updA (updA A p0 (.lst [])) p1 (.lst [U.ref p0])) p1=some (.lst [U.ref p0]):=Zd
 generalize updA (updA A p0 (.lst [])) p1 (.lst [U.ref p0])=A1 at e1 a0 a1 ⊢
 rw [Int.toNat_natCast]
 refine ZfQ (fun k ρ A2=>Ext A A2/\∃ (lf:Addr) (ads:List Addr) (r2 r3 r4 r5:Option U),ρ=[some (.int n),some (.ref lf),r2,r3,r4,r5]/\A2 lf=some (.lst (ads.map U.ref))/\OrdL A2 ads (Zad (rvn k)))
  ⟨e1,p1,[p0],_,_,_,_,rfl,a1,rfl,fun i a hi=>?_⟩ (fun k u ρ A2 hu h=>?_) (fun ρ A2 h=>?_)
 ·cases i with
  | zero=>cases hi;exact ⟨[],rfl,a0⟩
  | succ i=>simp at hi
 ·obtain ⟨e2,lf,ads,r2,r3,r4,r5,rfl,b1,O⟩:=h
  have hk:=(Yp.mp hu).1
  rw [rngU_len] at hk
  rw [ZbD,if_pos hk] at hu
  cases hu
  rw [show (0:Int) + (k:Int)=(k:Int) by lia]
  have hpl:(Zad (rvn k)).length<=120:=by rw [ZbL,ZbQ];exact Zcj (show k<=5 by lia)
  walk_at "qd"
  refine ⟨by decide,fun lg hlg=>?_⟩
  have nfg:lf≠lg:=neA b1 hlg
  have e3:=Ext.new (o:=.lst []) hlg
  have c1:(updA A2 lg (.lst [])) lg=some (.lst []):=Zd
  generalize updA A2 lg (.lst [])=A3 at e3 c1 ⊢
  walk_at "qd"
  refine ⟨⟨_,e3 _ _ b1⟩,Zeq (ads.map U.ref) (fun i ρ A4=>Ext A2 A4/\∃ (ads2:List Addr) (r4 r5:Option U),ρ=[some (.int n),some (.ref lf),some (.int k),some (.ref lg),r4,r5]/\A4 lg=some (.lst (ads2.map U.ref))/\OrdL A4 ads2 (((Zad (rvn k)).take i).flatMap (ins k))/\lg ∉ ads2)
   ⟨e3,[],_,_,rfl,c1,⟨rfl,fun i a h=>by simp at h⟩,by simp⟩ (fun i ρ A4 _ h=>h.1 _ _ b1) (fun i u ρ A4 hu h=>?_) (fun ρ A4 h=>?_)⟩
  ·obtain ⟨e4,ads2,r4,r5,rfl,d1,O2,hlg2⟩:=h
   obtain ⟨a,ha,rfl⟩:=Zai hu
   obtain ⟨o,ho,hao⟩:=O.2 i a ha
   have hol:o.length=k:=by rw [(Zat (Yn ho)).length_eq,ZbQ]
   have dA:=e4 _ _ hao
   have hnl:(nI o).length=o.length:=Yb _
   walk_at "qd"
   refine ⟨_,dA,?_⟩
   rw [hnl]
   refine ⟨by lia,by lia,?_⟩
   rw [show ((o.length:Int) + 1).toNat=o.length + 1 by lia]
   have hO2l:=O2.1
   have hfl:(((Zad (rvn k)).take i).flatMap (ins k)).length<=120 * 6:=by
    rw [ZcQ (ins k) (k + 1) _ fun m hm=>by rw [Zdd,(Zat (List.mem_of_mem_take hm)).length_eq,ZbQ]]
    exact Ybh (by rw [YJ];lia) (by lia)
   refine ZfQ (fun j ρ A5=>Ext A2 A5/\∃ (ads3:List Addr) (r5:Option U),ρ=[some (.int n),some (.ref lf),some (.int k),some (.ref lg),some (.ref a),r5]/\A5 lg=some (.lst (ads3.map U.ref))/\OrdL A5 ads3 ((((Zad (rvn k)).take i).flatMap (ins k))++(ins k o).take j)/\lg ∉ ads3)
    ⟨e4,ads2,_,rfl,d1,by simpa using O2,hlg2⟩ (fun j u ρ A5 hu h=>?_) (fun ρ A5 h=>?_)
   ·obtain ⟨e5,ads3,r5,rfl,f1,O3,hlg3⟩:=h
    have hj:=(Yp.mp hu).1
    rw [rngU_len] at hj
    rw [ZbD,if_pos hj] at hu
    cases hu
    rw [show (0:Int) + (j:Int)=(j:Int) by lia]
    have fA:=e5 _ _ hao
    have hj2:j<=(nI o).length:=by lia
    walk_at "qd"
    refine ⟨⟨_,f1⟩,_,fA,fun p1 hp1=>⟨tup1,fun p2 hp2=>?_⟩⟩
    rw [ZdG hj2] at hp2 ⊢
    have m12:p1≠p2:=neA Zd hp2
    refine ⟨_,_,by rw [Zm m12,Zd],Zd,Zr (by rw [YJ];simp only [List.length_cons,List.length_nil];lia),fun p3 hp3=>?_⟩
    have x1:=(Ext.new (o:=.lst ((nI o).take j)) hp1).trans ((Ext.new (o:=.lst [U.int (k:Int)]) hp2).trans (Ext.new (o:=.lst ((nI o).take j++[U.int (k:Int)])) hp3))
    have y1:(updA (updA (updA A5 p1 (.lst ((nI o).take j))) p2 (.lst [U.int (k:Int)])) p3 (.lst ((nI o).take j++[U.int (k:Int)]))) p3=some (.lst ((nI o).take j++[U.int (k:Int)])):=Zd
    generalize updA (updA (updA A5 p1 (.lst ((nI o).take j))) p2 (.lst [U.int (k:Int)])) p3 (.lst ((nI o).take j++[U.int (k:Int)]))=A6 at x1 y1 ⊢
    refine ⟨_,x1 _ _ fA,fun p4 hp4=>?_⟩
    rw [ZbT hj2]
    refine ⟨_,_,by rw [Zm (neA y1 hp4)];exact y1,Zd,Zr (by rw [Yh,YJ,YR];simp only [List.length_cons,List.length_nil];lia),fun p5 hp5=>?_⟩
    have eo:(nI o).take j++[U.int (k:Int)]++(nI o).drop j=nI (o.take j++k::o.drop j):=by
     unfold nI
     rw [Ym,Yu,Y5,Yaf,Yai]
     rfl
    rw [eo]
    have x2:=x1.trans ((Ext.new (o:=.lst ((nI o).drop j)) hp4).trans (Ext.new (o:=.lst (nI (o.take j++k::o.drop j))) hp5))
    have y5:(updA (updA A6 p4 (.lst ((nI o).drop j))) p5 (.lst (nI (o.take j++k::o.drop j)))) p5=some (.lst (nI (o.take j++k::o.drop j))):=Zd
    have hn5:A5 p5=none:=x1.none ((Ext.new hp4).none hp5)
    generalize updA (updA A6 p4 (.lst ((nI o).drop j))) p5 (.lst (nI (o.take j++k::o.drop j)))=A7 at x2 y5 ⊢
    have ng5:lg≠p5:=neA f1 hn5
    have hO3l:=O3.1
    rw [Yh,YJ,Zdd] at hO3l
    have hng:lg ∉ ads3++[p5]:=fun h=>by
     rcases YK.mp h with h | h
     ·exact hlg3 h
     ·exact ng5 (Yv.mp h)
    refine ⟨_,x2 _ _ f1,Zbc (by rw [Yb];lia),fun b o' hb=>by rw [Zm (neA hb hlg)];exact x2 _ _ (e5 _ _ hb),ads3++[p5],_,rfl,by rw [Zd,Ym];rfl,?_,hng⟩
    refine OrdL.upd ?_ hng
    rw [YbE,Zd3 (by lia),<- Yai]
    exact (O3.ext x2).snoc y5
   ·obtain ⟨e5,ads3,r5,rfl,f1,O3,hlg3⟩:=h
    refine ⟨e5,ads3,_,_,rfl,f1,?_,hlg3⟩
    rw [rngU_len] at O3
    have e9:(ins k o).take (o.length + 1)=ins k o:=Yal (by rw [Zdd];exact Yg _)
    rw [e9] at O3
    rw [YbE,ho,List.flatMap_append]
    show OrdL A5 ads3 (_++(ins k o++[]))
    rw [Y8]
    exact O3
  ·obtain ⟨e4,ads2,r4,r5,rfl,d1,O2,hlg2⟩:=h
   rw [Yb,O.1,Yat] at O2
   walk_at "qd"
   refine ⟨e2.trans e4,lg,ads2,_,_,_,_,rfl,d1,?_⟩
   rw [rvn_succ]
   exact O2
 ·obtain ⟨e2,lf,ads,r2,r3,r4,r5,rfl,b1,O⟩:=h
  rw [rngU_len] at O
  walk_at "qd"
  exact fg (q lf ads A2 e2 b1 O)
end
theorem Zg6:∀ (ps:List Wr) (w:Wr) (o:List Nat),mkL (ps++[w]) o=mkL ps o++[w.mk ((o.drop (sizeL ps)).take w.size)]
 | [],w,o=>by simp [mkL,sizeL]
 | p :: ps,w,o=>by
  simp only [List.cons_append,mkL,Zg6 ps w,List.drop_drop,sizeL]
theorem Zel:∀ (ps:List Wr) (o:List Nat),(mkL ps o).length=ps.length
 | [],_=>rfl
 | p::ps,o=>by simp only [mkL,List.length_cons,Zel ps]
theorem Zgm:∀ (ps:List Wr) (o:List Nat) (n:Nat),sizeL ps<=n->mkL ps (o.take n)=mkL ps o
 | [],_,_,_=>rfl
 | p :: ps,o,n,h=>by
  simp only [sizeL] at h
  simp only [mkL,List.take_take,List.drop_take]
  rw [Ya6 (by lia),Zgm ps _ _ (by lia)]
theorem ZdV:∀ (ps:List Wr) (k:Nat),sizeL (ps.take k)<=sizeL ps
 | [],k=>by simp
 | p::ps,0=>by simp [sizeL]
 | p::ps,k + 1=>by have:=ZdV ps k;simp only [List.take_succ_cons,sizeL];lia
noncomputable def digs:Str:="0123456789"
theorem dig_at {k:Nat} (h:k < 10):atI digs.cps.toList (k:Int)=some (48 + k):=by
 have:k=0\/k=1\/k=2\/k=3\/k=4\/k=5\/k=6\/k=7\/k=8\/k=9:=by lia
 rcases this with h | h | h | h | h | h | h | h | h | h <;> subst h <;> decide +kernel
theorem nnm (k:Nat):decide (Zaq k=Str.ofString "nothing")=false:=by
 rcases mname_cases k with ⟨_,h⟩ | ⟨_,h⟩ | ⟨_,h⟩ | ⟨_,h⟩ <;> rw [h] <;> decide +kernel
theorem few_nn {w:Wr} (h:w.few):w=.nothing\/decide (w.name=Str.ofString "nothing")=false:=by
 cases w with
 | nothing=>exact .inl rfl
 | bead c=>exact absurd rfl (h.1 c)
 | side b f =>
  cases b
  ·exact .inr (show decide (("left":Str)=Str.ofString "nothing")=false from by decide +kernel)
  ·exact .inr (show decide (("right":Str)=Str.ofString "nothing")=false from by decide +kernel)
 | pair f g=>exact .inr (show decide (("pair":Str)=Str.ofString "nothing")=false from by decide +kernel)
 | many k ps=>exact absurd rfl (h.2 k ps)
theorem few_mk {w:Wr} (h:w.few) (o:List Nat):sizeL w.parts=w.size/\nmsL w.parts=w.nms/\(w.mk (o.take w.size)).toU=.tup (.str w.name::(mkL w.parts o).map Wr.toU):=by
 cases w with
 | nothing=>exact ⟨rfl,rfl,rfl⟩
 | bead c=>exact absurd rfl (h.1 c)
 | side b f=>exact ⟨by simp [Wr.parts,sizeL,Wr.size],by simp only [Wr.parts,nmsL,Wr.nms,Y8],rfl⟩
 | pair f g =>
  refine ⟨by simp only [Wr.parts,sizeL,Wr.size],by simp only [Wr.parts,nmsL,Wr.nms,Y8],?_⟩
  simp only [Wr.mk,Wr.parts,mkL,Wr.size,List.take_take,List.drop_take]
  rw [Ya6 (by lia),show f.size + (g.size + 0) - f.size=g.size by lia]
  rfl
 | many k ps=>exact absurd rfl (h.2 k ps)
noncomputable def ZgP (n:Nat):ASp:=fun us A Q=>∃ (w:Wr) (c:Addr) (o:List Nat),us=[w.toU,.ref c]/\A c=some (.lst (nI o))/\w.gd=true/\w.dep<=n/\w.tups<=95/\w.size<=o.length/\(∀ k∈o,k < 10)/\(∀ s∈w.nms,s.length<=30)/\Q (w.mk (o.take w.size)).toU (updA A c (.lst (nI (o.drop w.size))))
theorem mk_all {n:Nat} {c l:Addr} {Q:AVK} {A:AHp} {ps:List Wr} {o:List Nat} {x0:Option U} (hc:A c=some (.lst (nI o))) (hl:A l=none) (hg:gdL ps=true) (hd:depL ps<=n) (ht:Zp ps<=95) (hs:sizeL ps<=o.length) (hk:∀ k∈o,k < 10) (hn:∀ s∈nmsL ps,s.length<=30)
  (hq:Q (.ref l) (updA (updA A c (.lst (nI (o.drop (sizeL ps))))) l (.lst ((mkL ps o).map Wr.toU)))) :
  aCL (jFix (ps.map Wr.toU)) (ZbH 0) ZcA (Zf4 (ZgP n) (Zeo (aVar 0) (Zeo (aVar 1) aNil))) l Q [x0,some (.ref c)] (updA A l (.lst [])):=by
 have hne:c≠l:=neA hc hl
 have hlen:=ZaO ps
 refine Zjq (ps.map Wr.toU) (fun k ys A2=>k<=ps.length/\ys=(mkL (ps.take k) o).map Wr.toU/\A2=updA (updA A c (.lst (nI (o.drop (sizeL (ps.take k)))))) l (.lst ys)) ⟨YX _,rfl,?_⟩ (by rw [Yb];lia) ?_ (fun _ _ _ _ _=>rfl) ?_ ?_
 ·show _=updA (updA A c (.lst (nI (o.drop (sizeL []))))) l _
  rw [show sizeL ([]:List Wr)=0 from rfl,YaB,Zbu hc]
 ·rintro k ys A2 ⟨hk1,rfl,_⟩
  rw [Yb,Zel,YJ];lia
 ·rintro k u ys A2 hu ⟨hk1,rfl,rfl⟩ Cy hC
  obtain ⟨x,hx,rfl⟩:=Zai hu
  have hm:=Yn hx
  have h1:=ZaM hm
  have h2:=Zaw hm
  have hkl:=(Yp.mp hx).1
  have et:ps.take (k + 1)=ps.take k++[x]:=by rw [YbE,hx];rfl
  have hsx:sizeL (ps.take k) + x.size<=sizeL ps:=by
   have:=ZdV ps (k + 1)
   rw [et,sizeL_app] at this
   simpa [sizeL] using this
  rw [Zip,Zfc,ZgN,Zfc,ZjC,q_nil]
  refine ⟨x,c,o.drop (sizeL (ps.take k)),rfl,by rw [Zm hne,Zd],ZaW hg hm,by lia,by lia,by rw [YR];lia,fun j hj=>hk j (List.mem_of_mem_drop hj),fun s hs=>hn s (by rw [Zbd];exact List.mem_flatMap.mpr ⟨x,hm,hs⟩),?_⟩
  rw [Zdj (A:=updA A c _) (Ne.symm hne),ZaJ]
  refine hC _ _ Zd ⟨hkl,?_,?_⟩
  ·rw [et,Zg6,Ym];rfl
  ·rw [ZaJ,et,sizeL_app,List.drop_drop]
   simp only [sizeL,Nat.add_zero]
 ·rintro ys A2 ⟨hk1,rfl,rfl⟩
  rw [Yb,Yat]
  exact hq
section
include T
theorem ok_mark:∀ n:Nat,FnOk P w K mg base CX0 (n + 1) f_q9 d_q9 ["_law_figure","_law_order"] (spOf K (ZgP n)):=by
 intro n
 induction n with
 | zero=>exact ZbX T.F_q9 Zdq fun us A Q hq0=>by obtain ⟨w,_,_,_,_,_,hd,_⟩:=hq0;have:=w.dep_pos;lia
 | succ n ih =>
  have G_q9:=ih
  refine' Fun.okA T.F_q9 (sc:=?sc24) (body:=?bd24) ?hs24 ?hb24 Zdq ?hB24 ?hS24
  case hs24=>conv=>lhs;whnf
  case hb24=>conv=>lhs;whnf
  case hB24=>exact fun S cdv A outer s H E hr=>⟨_,(Zg (Zar (Zs (Zbf hr) (ZR o_ix (pv 0) Zh (fun _ _=>rfl)) ZS (Z2 _)) (Zl (ZE (pv 0))) ZG)
   (Zg (Zar (Zs (Zbf hr) (ZR o_ix (pv 0) Zh (fun _ _=>rfl)) ZS (Z2 _)) (Zl (ZE (ZW (Za ZS (Za (ZL Z0 (ZR o_ix (pv 0) Zh (fun _ _=>rfl)) (ZR o_ix ZS (Zdy YY Ybv Ybw ZgR (pv 1) (Za Zh Ze)) (fun _ _=>rfl))) Ze))))) ZG)
   (Zg (Zar (Zs o_in (ZR o_ix (pv 0) Zh (fun _ _=>rfl)) (ZW (Zbm (xs:=["row","bag","choice","ring"]) rfl)) (by with_unfolding_all rfl)) (Zl (ZE (ZW (Za (ZR o_ix (pv 0) Zh (fun _ _=>rfl)) (Za (Zaj Za6 (by rfl) T.n_tuple (by decide +kernel) (Za (ZaF (ts:=["_law_part"]) (frs':=[("_law_order",1)]) (cl:=_) rfl ⟨(by rfl),rfl,(by decide +kernel),(by decide +kernel),(ZaG (by rfl) ZaS),(Zb0 (by rfl) (by rfl)),(ZaG ⟨(by rfl),(by first | exact .inl rfl | exact .inr rfl),(by first | exact .inl rfl | exact .inr rfl),(by rfl)⟩ ZaS)⟩ (ZaH (ZR o_ix (pv 0) Zh (fun _ _=>rfl))) (fun _ _ _ _=>ZH (i:=0) (show List.Nodup (["_law_part","_law_order"]:List Str) from by decide +kernel) rfl (Or.inl rfl) (.inr rfl)) (fun _ _ _ _=>Z3) (fun _ _ _ _=>by exact (Zu (G_q9.mono (by first | decide | lia)) hr (by rfl) T.M_q9 T.F_q9.kp T.B_q9 .nil Z7 (Za (pv 0) (Za (pv 1) Ze))))) Ze)) Ze))))) ZG)
   (Zl (ZE (ZL Z0 (ZW (Za (ZR o_ix (pv 0) Zh (fun _ _=>rfl)) Ze)) (Zaj Za6 (by rfl) T.n_tuple (by decide +kernel) (Za (ZaF (ts:=["_law_part"]) (frs':=[("_law_order",1)]) (cl:=_) rfl ⟨(by rfl),rfl,(by decide +kernel),(by decide +kernel),(ZaG (by rfl) ZaS),(Zb0 (by rfl) (by rfl)),(ZaG ⟨(by rfl),(by first | exact .inl rfl | exact .inr rfl),(by first | exact .inl rfl | exact .inr rfl),(by rfl)⟩ ZaS)⟩ (ZaH (ZK Za3 (pv 0) (ZO Zh) Z1)) (fun _ _ _ _=>ZH (i:=0) (show List.Nodup (["_law_part","_law_order"]:List Str) from by decide +kernel) rfl (Or.inl rfl) (.inr rfl)) (fun _ _ _ _=>Z3) (fun _ _ _ _=>by exact (Zu (G_q9.mono (by first | decide | lia)) hr (by rfl) T.M_q9 T.F_q9.kp T.B_q9 .nil Z7 (Za (pv 0) (Za (pv 1) Ze))))) Ze)))))))),(Zn (ZZ (Zt (Zk Zbg (Zk ZQ Zb Zi) ZT)) (ZD Zb) ZF)
   (Zn (ZZ (Zt (Zk Zbg (Zk ZQ Zb Zi) ZT)) (ZD (ZY (Zc ZT (Zc (Zk ZX (Zk ZQ Zb Zi) (Zk ZQ ZT (Zei Za9 ZgG Zb (Zc Zi Zf)))) Zf)))) ZF)
   (Zn (ZZ (Zt (Zk Zb3 (Zk ZQ Zb Zi) (ZY Zbs))) (ZD (ZY (Zc (Zk ZQ Zb Zi) (Zc (Z4 ZaL (Zc (Zak (ZaI Zab (Zk ZQ Zb Zi)) Zj Zal (Zv (Zc Zb (Zc Zb Zf)))) Zf)) Zf)))) ZF)
   (ZD (Zk ZX (ZY (Zc (Zk ZQ Zb Zi) Zf)) (Z4 ZaL (Zc (Zak (ZaI Zab (ZaV Zah Zb (ZP Zi) ZC)) Zj Zal (Zv (Zc Zb (Zc Zb Zf)))) Zf)))))))⟩
  rintro us A Q ⟨w,c,o,rfl,hc,hg,hd,ht,hs,hk,hn,q⟩
  refine ⟨rfl,?_⟩
  have hpd:=w.parts_dep
  have hpt:=w.parts_tups
  have hpl:=ZaO w.parts
  have hgp:=w.gd_parts hg
  walk_at "qs"
  rcases w.kinds with ⟨cl,rfl⟩ | ⟨k,ps,rfl⟩ | hf
  ·rw [Wr.toU]
   walk_at "qd"
   obtain ⟨k0,o',rfl⟩:∃ k0 o',o=k0::o':=by
    cases o with
    | nil=>simp only [Wr.size,List.length_nil] at hs;lia
    | cons a b=>exact ⟨a,b,rfl⟩
   have hk0:k0 < 10:=hk k0 YG
   have hcl:cl.length<=30:=hn cl (by simp [Wr.nms])
   refine ZB (by decide +kernel) (iteTt rfl ⟨⟨_,hc⟩,_,_,hc,?_⟩)
   walk_at "qd"
   refine ⟨Zr (show digs.length<=100000 by decide +kernel),_,dig_at hk0,Zr (by show _ + 1<=100000;lia),tup2,fg q⟩
  ·rw [Wr.toU_many]
   walk_at "qd"
   simp only [Wr.parts,Wr.tups,Wr.dep] at hpd hpt hpl ht hd hgp
   simp only [Wr.size] at hs
   simp only [Wr.nms] at hn
   refine ZB (nnm k) (ZB (nbm k) ⟨by decide,rfl,rfl,iteTt (ZbV k) fun l hl=>?_⟩)
   walk_at "qc"
   refine mk_all hc hl hgp.1 (by lia) (by lia) hs hk hn ?_
   walk_at "qd"
   have hne:c≠l:=neA hc hl
   have hl1:updA A c (.lst (nI (o.drop (sizeL ps)))) l=none:=by rw [Zm (Ne.symm hne)];exact hl
   refine ⟨_,Zd,tup2,fgx (Ext.new hl1) ?_⟩
   simp only [Wr.size,Wr.mk] at q
   rw [Wr.toU_many,Zgm ps o _ (Yg _)] at q
   exact q
  ·obtain ⟨m1,m2,m3⟩:=few_mk hf o
   rw [Wr.toU_few hf]
   walk_at "qd"
   rcases few_nn hf with rfl | hnn
   ·refine iteTt rfl ?_
    simp only [Wr.size,YaB] at q
    rw [Zbu hc] at q
    exact fg q
   ·refine ZB hnn (ZB (ZbJ hf.1) ⟨by decide,rfl,rfl,ZB (Zbx hf.2) ⟨tup1,fun l hl=>?_⟩⟩)
    walk_at "qc"
    refine mk_all hc hl hgp.1 (by lia) (by lia) (by lia) hk (by rw [m2];exact hn) ?_
    walk_at "qd"
    have hne:c≠l:=neA hc hl
    have hl1:updA A c (.lst (nI (o.drop (sizeL w.parts)))) l=none:=by rw [Zm (Ne.symm hne)];exact hl
    refine ⟨_,Zd,Zr (by rw [Yb,Zel];simp only [List.length_cons,List.length_nil];lia),fgx (Ext.new hl1) ?_⟩
    rw [m3,<- m1] at q
    exact q
end
noncomputable def Zfb (n:Nat):ASp:=fun us A Q=>∃ w:Wr,us=[w.toU]/\w.dep<=n/\w.tups<=900/\Q (.int (w.size:Nat)) A
noncomputable def Zg1 (n:Nat):ASp:=fun us A Q=>∃ w:Wr,us=[w.toU]/\w.dep<=n/\w.tups<=900/\Q w.keyU A
section
include T
theorem Zd6:∀ n:Nat,FnOk P w K mg base CX0 (n + 1) f_qo d_qo ["_law_figure"] (spOf K (Zfb n)):=by
 intro n
 induction n with
 | zero=>exact ZbX T.F_qo Zft fun us A Q hq0=>by obtain ⟨w,_,hd,_⟩:=hq0;have:=w.dep_pos;lia
 | succ n ih =>
  have G_qo:=ih
  refine' Fun.okA T.F_qo (sc:=?sc25) (body:=?bd25) ?hs25 ?hb25 Zft ?hB25 ?hS25
  case hs25=>conv=>lhs;whnf
  case hb25=>conv=>lhs;whnf
  case hB25=>exact fun S cdv A outer s H E hr=>⟨_,(Zg (Zar (Zs (Zbf hr) (ZR o_ix (pv 0) Zh (fun _ _=>rfl)) ZS (Z2 _)) (Zl (ZE Zh)) ZG)
   (Zg (Zar (Zs o_in (ZR o_ix (pv 0) Zh (fun _ _=>rfl)) (ZW (Zbm (xs:=["row","bag","choice","ring"]) rfl)) (by with_unfolding_all rfl)) (Zl (ZE (Zw (Zez rfl) (by rfl) T.n_sum (by decide +kernel) (Za (ZaF (ts:=["_law_part"]) (frs':=[]) (cl:=[]) rfl ⟨rfl,rfl,(by decide +kernel),(by decide +kernel),(fun _ z=>nomatch z),(ZV rfl rfl),(fun _ z=>nomatch z)⟩ (ZaH (ZR o_ix (pv 0) Zh (fun _ _=>rfl))) (fun _ _ _ _=>ZH (i:=0) nd1 rfl (Or.inl rfl) (.inr rfl)) (fun _ _ _ _=>Z3) (fun _ _ _ _=>by exact (Zu (G_qo.mono (by first | decide | lia)) hr (by rfl) T.M_qo T.F_qo.kp T.B_qo .nil Z7 (Za (pv 0) Ze)))) Ze)))) ZG)
   (Zl (ZE (Zw (Zez rfl) (by rfl) T.n_sum (by decide +kernel) (Za (ZaF (ts:=["_law_part"]) (frs':=[]) (cl:=[]) rfl ⟨rfl,rfl,(by decide +kernel),(by decide +kernel),(fun _ z=>nomatch z),(ZV rfl rfl),(fun _ z=>nomatch z)⟩ (ZaH (ZK Za3 (pv 0) (ZO Zh) Z1)) (fun _ _ _ _=>ZH (i:=0) nd1 rfl (Or.inl rfl) (.inr rfl)) (fun _ _ _ _=>Z3) (fun _ _ _ _=>by exact (Zu (G_qo.mono (by first | decide | lia)) hr (by rfl) T.M_qo T.F_qo.kp T.B_qo .nil Z7 (Za (pv 0) Ze)))) Ze)))))),(Zn (ZZ (Zt (Zk Zbg (Zk ZQ Zb Zi) ZT)) (ZD Zi) ZF)
   (Zn (ZZ (Zt (Zk Zb3 (Zk ZQ Zb Zi) (ZY Zbs))) (ZD (Z4 ZcK (Zc (Zak (ZaI Zab (Zk ZQ Zb Zi)) Zj Zal (Zv (Zc Zb Zf))) Zf))) ZF)
   (ZD (Z4 ZcK (Zc (Zak (ZaI Zab (ZaV Zah Zb (ZP Zi) ZC)) Zj Zal (Zv (Zc Zb Zf))) Zf)))))⟩
  rintro us A Q ⟨w,rfl,hd,ht,q⟩
  refine ⟨rfl,?_⟩
  have hpd:=w.parts_dep
  have hpt:=w.parts_tups
  have hpl:=ZaO w.parts
  have go:∀ l,A l=none->(∀ c,w≠.bead c)->aCL (jFix (w.parts.map Wr.toU)) (ZbH 0) ZcA (Zf4 (Zfb n) (Zeo (aVar 0) aNil)) l (fun x A2=>xSum [x] A2 (Fg Q)) [none] (updA A l (.lst [])):=fun l hl hb=>by
   refine Zbn w.parts Wr.toU (fun w=>.int (w.size:Nat)) hl (by lia) (fun _ _ _ _=>rfl) (fun x A2 hx he Cy hc=>?_) ?_
   ·walk_at "qd"
    have:=ZaM hx
    have:=Zaw hx
    exact ⟨x,rfl,by lia,by lia,hc⟩
   ·walk_at "qd"
    refine ⟨w.parts.map fun w=>((w.size:Nat):Int),by rw [Zd,YO];rfl,fgx (Ext.new hl) ?_⟩
    rw [ZbO,<- w.size_parts hb]
    exact q
  walk_at "qs"
  rcases w.kinds with ⟨c,rfl⟩ | ⟨k,ps,rfl⟩ | hf
  ·rw [Wr.toU]
   walk_at "qd"
   exact iteTt rfl (fg q)
  ·rw [Wr.toU_many]
   walk_at "qd"
   refine ZB (nbm k) ?_
   walk_at "qd"
   refine ⟨by decide,rfl,rfl,iteTt (ZbV k) ?_⟩
   walk_at "qd"
   exact fun l hl=>go l hl (fun c=>by simp)
  ·rw [Wr.toU_few hf]
   walk_at "qd"
   refine ZB (ZbJ hf.1) ?_
   walk_at "qd"
   refine ⟨by decide,rfl,rfl,ZB (Zbx hf.2) ?_⟩
   walk_at "qd"
   exact fun l hl=>go l hl hf.1
theorem ok_lkey:∀ n:Nat,FnOk P w K mg base CX0 (n + 2) f_qr d_qr ["_law_figure"] (spOf K (Zg1 n)):=by
 intro n
 induction n with
 | zero=>exact ZbX T.F_qr Zgg fun us A Q hq0=>by obtain ⟨w,_,hd,_⟩:=hq0;have:=w.dep_pos;lia
 | succ n ih =>
  have G_qr:=ih
  have G_qo:=Zd6 (P:=P) (w:=w) (base:=base) T (n + 1)
  refine' Fun.okA T.F_qr (sc:=?sc26) (body:=?bd26) ?hs26 ?hb26 Zgg ?hB26 ?hS26
  case hs26=>conv=>lhs;whnf
  case hb26=>conv=>lhs;whnf
  case hB26=>exact fun S cdv A outer s H E hr=>⟨_,(Zg (Zz (i:=1) S.nd rfl (Or.inl rfl) (ZaD (Zbm (xs:=["nothing","bead","left","right","pair","row","bag","choice","ring"]) rfl)))
   (Zg (Zz (i:=2) S.nd rfl (Or.inl rfl) (ZW (Za (Zu (G_qo.mono (by first | decide | lia)) hr (by rfl) T.M_qo T.F_qo.kp T.B_qo .nil Z7 (Za (pv 0) Ze)) (Za (Zdy YY PySem.F.slot_list_index PySem.F.type_list_index mt_idxL (pv 1) (Za (ZR o_ix (pv 0) Zh (fun _ _=>rfl)) Ze)) Ze))))
   (Zg (Zar (Zs (Zbf hr) (ZR o_ix (pv 0) Zh (fun _ _=>rfl)) ZS (Z2 _)) (Zl (ZE (ZL Z0 (pv 2) (ZW (Za (ZR o_ix (pv 0) Zh (fun _ _=>rfl)) Ze))))) ZG)
   (Zg (Zar (Zs o_in (ZR o_ix (pv 0) Zh (fun _ _=>rfl)) (ZW (Zbm (xs:=["row","bag","choice","ring"]) rfl)) (by with_unfolding_all rfl)) (Zl (ZE (ZL Z0 (pv 2) (Zaj Za6 (by rfl) T.n_tuple (by decide +kernel) (Za (ZaF (ts:=["_law_part"]) (frs':=[]) (cl:=[]) rfl ⟨rfl,rfl,(by decide +kernel),(by decide +kernel),(fun _ z=>nomatch z),(ZV rfl rfl),(fun _ z=>nomatch z)⟩ (ZaH (ZR o_ix (pv 0) Zh (fun _ _=>rfl))) (fun _ _ _ _=>ZH (i:=0) nd1 rfl (Or.inl rfl) (.inr rfl)) (fun _ _ _ _=>Z3) (fun _ _ _ _=>by exact (Zu (G_qr.mono (by first | decide | lia)) hr (by rfl) T.M_qr T.F_qr.kp T.B_qr .nil Z7 (Za (pv 0) Ze)))) Ze))))) ZG)
   (Zl (ZE (ZL Z0 (pv 2) (Zaj Za6 (by rfl) T.n_tuple (by decide +kernel) (Za (ZaF (ts:=["_law_part"]) (frs':=[]) (cl:=[]) rfl ⟨rfl,rfl,(by decide +kernel),(by decide +kernel),(fun _ z=>nomatch z),(ZV rfl rfl),(fun _ z=>nomatch z)⟩ (ZaH (ZK Za3 (pv 0) (ZO Zh) Z1)) (fun _ _ _ _=>ZH (i:=0) nd1 rfl (Or.inl rfl) (.inr rfl)) (fun _ _ _ _=>Z3) (fun _ _ _ _=>by exact (Zu (G_qr.mono (by first | decide | lia)) hr (by rfl) T.M_qr T.F_qr.kp T.B_qr .nil Z7 (Za (pv 0) Ze)))) Ze))))))))),(Zn (Zx (ZaC Zbs) Zj)
   (Zn (Zx (ZY (Zc (Zv (Zc Zb Zf)) (Zc (Zei Za9 ab_idxL Zb (Zc (Zk ZQ Zb Zi) Zf)) Zf))) Zj)
   (Zn (ZZ (Zt (Zk Zbg (Zk ZQ Zb Zi) ZT)) (ZD (Zk ZX Zb (ZY (Zc (Zk ZQ Zb Zi) Zf)))) ZF)
   (Zn (ZZ (Zt (Zk Zb3 (Zk ZQ Zb Zi) (ZY Zbs))) (ZD (Zk ZX Zb (Z4 ZaL (Zc (Zak (ZaI Zab (Zk ZQ Zb Zi)) Zj Zal (Zv (Zc Zb Zf))) Zf)))) ZF)
   (ZD (Zk ZX Zb (Z4 ZaL (Zc (Zak (ZaI Zab (ZaV Zah Zb (ZP Zi) ZC)) Zj Zal (Zv (Zc Zb Zf))) Zf))))))))⟩
  rintro us A Q ⟨w,rfl,hd,ht,q⟩
  refine ⟨rfl,?_⟩
  have hpd:=w.parts_dep
  have hpt:=w.parts_tups
  have hpl:=ZaO w.parts
  walk_at "qs"
  walk_at "qd"
  refine ⟨by decide,fun pk hpk=>?_⟩
  walk_at "qd"
  refine ⟨w,rfl,hd,ht,?_⟩
  have e0:=Ext.new (o:=.lst [U.str "nothing",.str "bead",.str "left",.str "right",.str "pair",.str "row",.str "bag",.str "choice",.str "ring"]) hpk
  have go:∀ l A2,Ext A A2->A2 l=none->(∀ c,w≠.bead c)->aCL (jFix (w.parts.map Wr.toU)) (ZbH 0) ZcA (Zf4 (Zg1 n) (Zeo (aVar 0) aNil)) l (fun x A2=>ZeW [x] A2 fun z A3=>xAdd (.tup [.int (w.size:Nat),.int (w.kidx:Nat)]) z A3 (Fg Q)) [none] (updA A2 l (.lst [])):=fun l A2 e hl hb=>by
   refine Zbn w.parts Wr.toU Wr.keyU hl (by lia) (fun _ _ _ _=>rfl) (fun x A2 hx he Cy hc=>?_) ?_
   ·walk_at "qd"
    have:=ZaM hx
    have:=Zaw hx
    exact ⟨x,rfl,by lia,by lia,hc⟩
   ·walk_at "qd"
    refine ⟨_,Zd,?_⟩
    walk_at "qd"
    refine ⟨Zr (by simp only [List.length_cons,List.length_nil,Yb];lia),fgx (e.trans (Ext.new hl)) ?_⟩
    rw [w.keyU_parts hb] at q
    exact q
  rcases w.kinds with ⟨c,rfl⟩ | ⟨k,ps,rfl⟩ | hf
  ·rw [Wr.toU]
   walk_at "qd"
   refine ⟨⟨_,Zd⟩,Zd7,1,Zd,(Wr.bead c).kidx_at.1,(Wr.bead c).kidx_at.2,?_⟩
   walk_at "qd"
   refine ⟨tup2,iteTt rfl ?_⟩
   walk_at "qd"
   exact ⟨tup1,Zr (by simp),fgx e0 q⟩
  ·rw [Wr.toU_many]
   walk_at "qd"
   refine ⟨⟨_,Zd⟩,Zd7,(Wr.many k ps).kidx,Zd,(Wr.many k ps).kidx_at.1,(Wr.many k ps).kidx_at.2,?_⟩
   walk_at "qd"
   refine ⟨tup2,ZB (nbm k) ?_⟩
   walk_at "qd"
   refine ⟨by decide,rfl,rfl,iteTt (ZbV k) ?_⟩
   walk_at "qd"
   exact fun l hl=>go l _ e0 hl (fun c=>by simp)
  ·rw [Wr.toU_few hf]
   walk_at "qd"
   refine ⟨⟨_,Zd⟩,Zd7,w.kidx,Zd,w.kidx_at.1,w.kidx_at.2,?_⟩
   walk_at "qd"
   refine ⟨tup2,ZB (ZbJ hf.1) ?_⟩
   walk_at "qd"
   refine ⟨by decide,rfl,rfl,ZB (Zbx hf.2) ?_⟩
   walk_at "qd"
   exact fun l hl=>go l _ e0 hl hf.1
end
noncomputable def aIfH (c:AT) (t e:AS):AS:=aIfS c t e
theorem Zh4 {K:YFr} {tc:TT} {t1 t2:TS} {c:AT} {a1 a2:AS} (hc:AbT K tc c) (h1:AbS K t1 a1) (h2:AbS K t2 a2):AbS K (tIfS tc t1 t2) (aIfH c a1 a2):=ZZ hc h1 h2
theorem if_yes {c:AT} {t e:AS} {D:Zdi} {ρ:ASt} {A:AHp} (h1:∀ B:Bool->AHp->Prop,B true A->c ρ A B) (h2:t D ρ A):aIfH c t e D ρ A:=h1 _ (iteP rfl h2)
theorem if_no {c:AT} {t e:AS} {D:Zdi} {ρ:ASt} {A:AHp} (h1:∀ B:Bool->AHp->Prop,B false A->c ρ A B) (h2:e D ρ A):aIfH c t e D ρ A:=h1 _ (iteN Yx h2)
mutual
theorem Zci:∀ (w:Wr) (o:List Nat),w.full->(w.mk o).full
 | .nothing,_,_=>trivial
 | .bead _,_,_=>trivial
 | .side b f,o,h=>by simp only [Wr.full] at h;simp only [Wr.mk,Wr.full];exact Zci f _ h
 | .pair f g,o,h=>by simp only [Wr.full] at h;simp only [Wr.mk,Wr.full];exact ⟨Zci f _ h.1,Zci g _ h.2⟩
 | .many k ps,o,h=>by simp only [Wr.full] at h;simp only [Wr.mk,Wr.full];exact Zgw ps _ h
theorem Zgw:∀ (ws:List Wr) (o:List Nat),ZdH ws->ZdH (mkL ws o)
 | [],_,_=>trivial
 | w :: ws,o,h=>by
  simp only [ZdH] at h
  simp only [mkL,ZdH]
  refine ⟨fun e=>h.1 ?_,Zci w _ h.2.1,Zgw ws _ h.2.2⟩
  have:=(w.mk (o.take w.size)).nms_um
  rw [w.um_mk,e] at this
  exact this
end
noncomputable def ZjP (w:Wr):Prop:=∀ s∈w.nms,s.length<=30
/-- what stands on the stack -/
noncomputable def OnSt (w:Wr):Prop:=w.nms≠[]/\w.full/\ZjP w
theorem ash_on:OnSt (.bead "ash"):=⟨by simp [Wr.nms],trivial,fun s hs=>by
 simp only [Wr.nms,Yv] at hs
 rw [hs];decide +kernel⟩
theorem new_on {ss:List Str} {ws:List Wr} {y:Wr} (h:∀ x∈ws,OnSt x) (hs:∀ s∈ss,s.length<=30) (hy:y∈ws\/(∃ s∈ss,y=.bead s)\/((∀ x∈y.parts,x∈ws\/x=.bead "ash")/\∀ c,y≠.bead c)):y.full/\ZjP y:=by
 rcases hy with hy | ⟨s,hs1,rfl⟩ | ⟨hy,hb⟩
 ·exact (h y hy).2
 ·exact ⟨trivial,fun t ht=>by simp only [Wr.nms,Yv] at ht;rw [ht];exact hs s hs1⟩
 ·have hp:∀ x∈y.parts,OnSt x:=fun x hx=>by
   rcases hy x hx with h1 | h1
   ·exact h x h1
   ·rw [h1];exact ash_on
  cases y with
  | nothing=>exact ⟨trivial,fun t ht=>by cases ht⟩
  | bead c=>exact absurd rfl (hb c)
  | side b f =>
   have:=hp f (by simp [Wr.parts])
   exact ⟨this.2.1,this.2.2⟩
  | pair f g =>
   have h1:=hp f (by simp [Wr.parts])
   have h2:=hp g (by simp [Wr.parts])
   exact ⟨⟨h1.2.1,h2.2.1⟩,fun t ht=>(YK.mp ht).elim (h1.2.2 t) (h2.2.2 t)⟩
  | many k ps =>
   refine ⟨ZbK.mpr fun x hx=>⟨(hp x hx).1,(hp x hx).2.1⟩,fun t ht=>?_⟩
   simp only [Wr.nms] at ht
   rw [Zbd] at ht
   obtain ⟨x,hx,ht⟩:=List.mem_flatMap.mp ht
   exact (hp x hx).2.2 t ht
theorem if_openX {c:AT} {t e:AS} {D:Zdi} {ρ:ASt} {A:AHp} (k:Bool) (h1:∀ B:Bool->AHp->Prop,(∀ A',Ext A A'->B k A')->c ρ A B) (ht:k=true->∀ A',Ext A A'->t D ρ A') (he:k=false->∀ A',Ext A A'->e D ρ A'):aIfH c t e D ρ A:=h1 _ fun A' eA=>iteB (fun h=>ht h A' eA) fun h=>he h A' eA
theorem set_last {α:Type} (xs:List α) (x y:α):(xs++[x]).set xs.length y=xs++[y]:=by rw [List.set_append_right _ _ (Yg _),YbU];rfl
theorem if_shG {α:Type} {c:AT} {t e:AS} {D:Zdi} {ρ:ASt} {A:AHp} (C:α->AHp->Prop) (f:α->ASt) (h:(∀ x A2,C x A2->D.nx (f x) A2)->aIfH c t e D ρ A) (r:∀ x A2,C x A2->D.nx (f x) A2):aIfH c t e D ρ A:=h r
theorem bead_on {s:Str} (h:s.length<=30):OnSt (.bead s):=⟨by simp [Wr.nms],trivial,fun t ht=>by simp only [Wr.nms,Yv] at ht;rw [ht];exact h⟩
noncomputable def asp_five:ASp:=fun us A Q=>∃ (c sw:Addr) (zs:List Int) (ss:List Str) (k:Nat),us=[.ref c,.ref sw,.str (Zaq k)]/\k<=3/\A c=some (.lst (zs.map U.int))/\zs.length<=30/\A sw=some (.lst (ss.map U.str))/\ss.length=3/\(∀ s∈ss,PyData.strOk s=true/\s.length<=30) /\
 ∀ (ws:List Wr) (A':AHp),Ext A A'->(Wr.many k ws).gd=true->(Wr.many k ws).tups<=95->(Wr.many k ws).full->ZjP (.many k ws)->(Wr.many k ws).size<=5->Q (Wr.many k ws).toU A'
section
include T
theorem ok_five : FnOk P w K mg base CX0 101 f_ql d_ql ["_law_cells","_law_words","_law_word"] (spOf K asp_five):=by
 have G_qm:=ok_deed (P:=P) (w:=w) (base:=base) T
 have G_qo:=Zd6 (P:=P) (w:=w) (base:=base) T 95
 refine' Fun.okA T.F_ql (sc:=?sc27) (body:=?bd27) ?hs27 ?hb27 Zh0 ?hB27 ?hS27
 case hs27=>conv=>lhs;whnf
 case hb27=>conv=>lhs;whnf
 case hB27=>exact fun S cdv A outer s H E hr=>⟨_,(Zg (Zz (i:=3) S.nd rfl (Or.inl rfl) (ZaD Ze))
   (Zg (Zbz Y2 rfl (ZaH (pv 0)) (ZH (i:=4) S.nd rfl (Or.inl rfl))
   (Zg (Zz (i:=5) S.nd rfl (Or.inl rfl) (Zu (G_qm.mono (by first | decide | lia)) hr (by rfl) T.M_qm T.F_qm.kp T.B_qm .nil Z7 (Za (pv 3) (Za (ZL ZbG (pv 4) (ZL o_pow Zh Zh)) (Za (pv 1) (Za Zh Ze))))))
   (Zg (Zar (Zs (Zbf hr) (Zu (G_qo.mono (by first | decide | lia)) hr (by rfl) T.M_qo T.F_qo.kp T.B_qo .nil Z7 (Za (ZR o_ix (pv 5) (ZdB Zb1 Zh) (fun _ _=>rfl)) Ze)) Zh (Z2 _)) (Zl (ps_asg (ZW (Za ZS (Za (ZR o_ix (pv 5) (ZdB Zb1 Zh) (fun _ _=>rfl)) (Za (ZW (Za ZS (Za (ZR o_ix (pv 1) Zh (fun _ _=>rfl)) Ze))) Ze)))) (pg_sub (pv 5) (ZdB Zb1 Zh) set_list))) ZG)
   (Zl (Zar (Zs o_lt (Zw (Zez rfl) (by rfl) T.n_sum (by decide +kernel) (Za (ZaF (ts:=["_law_part"]) (frs':=[]) (cl:=[]) rfl ⟨rfl,rfl,(by decide +kernel),(by decide +kernel),(fun _ z=>nomatch z),(ZV rfl rfl),(fun _ z=>nomatch z)⟩ (ZaH (pv 5)) (fun _ _ _ _=>ZH (i:=0) nd1 rfl (Or.inl rfl) (.inr rfl)) (fun _ _ _ _=>Z3) (fun _ _ _ _=>by exact (Zu (G_qo.mono (by first | decide | lia)) hr (by rfl) T.M_qo T.F_qo.kp T.B_qo .nil Z7 (Za (pv 0) Ze)))) Ze)) Zh (Z2 _)) (Zl (Zz (i:=3) S.nd rfl (Or.inl rfl) (pv 5))) ZG)))))
   (Zg (Zar (Zs (Zbf hr) (Zw Zbe (by rfl) T.n_len (by decide +kernel) (Za (pv 3) Ze)) Zh (Z2 _)) (Zl (Zz (i:=3) S.nd rfl (Or.inl rfl) (ZaD (Za (ZW (Za ZS (Za (ZR o_ix (pv 1) Zh (fun _ _=>rfl)) Ze))) Ze)))) ZG)
   (Zl (ZE (ZW (Za (pv 2) (Za (Zaj Za6 (by rfl) T.n_tuple (by decide +kernel) (Za (pv 3) Ze)) Ze)))))))),(Zn (Zx (ZaC Zf) Zj)
   (Zn (Zbt (ZaI Zab Zb) Zj
   (Zn (Zx (Zv (Zc Zb (Zc (Zk Za4 Zb (Zk Zgr Zi Zi)) (Zc Zb (Zc Zi Zf))))) Zj)
   (Zn (Zh4 (Zt (Zk Zbg (Zv (Zc (Zk ZQ Zb (ZdF Zb2 Zi)) Zf)) Zi)) (Zx (ZY (Zc ZT (Zc (Zk ZQ Zb (ZdF Zb2 Zi)) (Zc (ZY (Zc ZT (Zc (Zk ZQ Zb Zi) Zf))) Zf)))) (ab_setl Zb (ZdF Zb2 Zi))) ZF)
   (Zh4 (Zt (Zk ab_lt (Z4 ZcK (Zc (Zak (ZaI Zab Zb) Zj Zal (Zv (Zc Zb Zf))) Zf)) Zi)) (Zx Zb Zj) ZF))))
   (Zn (Zh4 (Zt (Zk Zbg (Z4 ZaE (Zc Zb Zf)) Zi)) (Zx (ZaC (Zc (ZY (Zc ZT (Zc (Zk ZQ Zb Zi) Zf))) Zf)) Zj) ZF)
   (ZD (ZY (Zc Zb (Zc (Z4 ZaL (Zc Zb Zf)) Zf)))))))⟩
 rintro us A Q ⟨c,sw,zs,ss,k,rfl,hk,hc,hz,hsw,hs3,hso,q⟩
 refine ⟨rfl,?_⟩
 walk_at "qs"
 walk_at "qd"
 refine ⟨by decide,fun st0 hst0=>?_⟩
 have e0:=Ext.new (o:=.lst []) hst0
 have a0:(updA A st0 (.lst [])) st0=some (.lst []):=Zd
 generalize updA A st0 (.lst [])=A0 at e0 a0 ⊢
 refine ⟨⟨_,e0 _ _ hc⟩,Zeq (zs.map U.int) (fun n ρ A2=>Ext A A2/\∃ (st:Addr) (ws:List Wr) (r4 r5:Option U),ρ=[some (.ref c),some (.ref sw),some (.str (Zaq k)),some (.ref st),r4,r5]/\A2 st=some (.lst (ws.map Wr.toU))/\gdL ws=true/\(∀ x∈ws,OnSt x)/\ws.length<=n/\sizeL ws<=5/\Zp ws<=30 + n + 2 * sizeL ws)
  ⟨e0,st0,[],_,_,rfl,a0,rfl,fun x hx=>(by cases hx),Yg _,by decide,by decide⟩ (fun n ρ A2 _ h=>h.1 _ _ hc) (fun n u ρ A2 hu h=>?_) (fun ρ A2 h=>?_)⟩
 ·obtain ⟨e2, st,ws,r4,r5,rfl,b1,hg,hon,hl,hsz,htp⟩:=h
  have hn:=(Yp.mp hu).1
  rw [Yb] at hn
  obtain ⟨z,_,rfl⟩:=Zai hu
  walk_at "qd"
  refine ⟨⟨by decide,by decide,by decide⟩,by decide,st,sw,_,30,ws,ss,rfl,by decide,b1,e2 _ _ hsw,hs3,fun s hs=>(hso s hs).1,YS _ (by decide),hg,by lia,by lia,fun lf ws' hlf hg' hl' ht' nw=>?_⟩
  obtain ⟨⟨ws0,y,rfl,hw0,hy⟩,hsz',htp'⟩:=nw
  obtain ⟨fy,sy⟩:=new_on hon (fun s hs=>(hso s hs).2) hy
  have c1:(updA A2 lf (.lst ((ws0++[y]).map Wr.toU))) lf=some (.lst ((ws0++[y]).map Wr.toU)):=Zd
  have hlfA:A lf=none:=e2.none hlf
  have e3:=Ext.new (o:=.lst ((ws0++[y]).map Wr.toU)) hlf
  generalize updA A2 lf (.lst ((ws0++[y]).map Wr.toU))=A3 at e3 c1 ⊢
  rw [Ym] at c1
  obtain ⟨s0,hs0,hs0m⟩:∃ s0,atI (ss.map U.str) 0=some (.str s0)/\s0∈ss:=by
   cases ss with
   | nil=>cases hs3
   | cons a b=>exact ⟨a,Zau (j:=0) rfl,YG⟩
  have nsf:st≠lf:=neA b1 hlf
  have hyt:y.tups<=90/\y.dep<=90:=by
   have:=y.dep_le
   rw [Zo] at ht'
   simp only [Zp] at ht'
   lia
  have hgy:gdL ws0=true/\y.gd=true:=by
   rw [Zan,Yc] at hg'
   simp only [gdL,Ys] at hg'
   exact hg'
  walk_at "qd"
  refine if_shG (α:=List Wr) (fun vs A4=>Ext A A4/\A4 st=some (.lst (ws.map Wr.toU))/\A4 lf=some (.lst (vs.map Wr.toU))/\gdL vs=true/\(∀ x∈vs,OnSt x)/\vs.length<=n + 1/\Zp vs<=30 + (n + 1) + 2 * sizeL vs/\Zp vs<=95) (fun vs=>[some (.ref c),some (.ref sw),some (.str (Zaq k)),some (.ref st),some (.int z),some (.ref lf)]) (fun rest=>?_) ?_
  ·by_cases hy0:y.size=0
   ·refine if_yes (fun B hB=>?_) ?_
    ·walk_at "qd"
     refine ⟨_,y.toU,c1,Zf6,y,rfl,by lia,by lia,?_⟩
     rw [hy0]
     walk_at "qd"
     exact hB
    ·dsimp only at rest
     walk_at "qd"
     have hb:=hso s0 hs0m
     have nsw:sw≠lf:=neA (e2 _ _ hsw) hlf
     refine ⟨_,y.toU,c1,Zf6,_,_,e3 _ _ (e2 _ _ hsw),hs0,tup2,tup3,lf,_,-1,(ws0.map Wr.toU).length,rfl,rfl,c1,?_,?_⟩
     ·unfold ixN
      rw [Yh,Yb]
      simp
      lia
     ·rw [show List.map Wr.toU [y]=[y.toU] from rfl,set_last]
      have ev:ws0.map Wr.toU++[U.tup [.str (Str.ofString "pair"),y.toU,.tup [.str (Str.ofString "bead"),.str s0]]]=(ws0++[Wr.pair y (Wr.bead s0)]).map Wr.toU:=by rw [Ym];rfl
      rw [ev]
      rw [Zo,sizeL_app] at htp'
      rw [sizeL_app] at hsz'
      rw [Zo] at ht'
      rw [Yh,List.length_singleton] at hl'
      simp only [Zp,sizeL,hy0,Nat.add_zero] at htp' hsz' ht'
      refine rest (ws0++[.pair y (.bead s0)]) _ ⟨fun b o hbo=>by rw [Zm (neA hbo hlfA)];exact e3 _ _ (e2 _ _ hbo),by rw [Zm nsf];exact e3 _ _ b1,Zd,?_,fun x hx=>?_,?_,?_,?_⟩
      ·rw [Zan,hgy.1]
       simp [gdL,Wr.gd,hgy.2,hb.1]
      ·rcases YK.mp hx with h | h
       ·exact hon x (hw0 x h)
       ·rw [Yv.mp h]
        refine ⟨by simp [Wr.nms],⟨fy,trivial⟩,fun t ht=>?_⟩
        rcases YK.mp ht with h | h
        ·exact sy t h
        ·rw [Yv.mp h];exact hb.2
      ·rw [Yh,List.length_singleton];lia
      ·rw [Zo,sizeL_app];simp only [Zp,Wr.tups,sizeL,Wr.size];lia
      ·rw [Zo];simp only [Zp,Wr.tups];lia
   ·refine if_no (fun B hB=>?_) ?_
    ·walk_at "qd"
     refine ⟨_,y.toU,c1,Zf6,y,rfl,by lia,by lia,?_⟩
     walk_at "qd"
     rw [show decide ((y.size:Int)=0)=false from YZ (by lia)]
     exact hB
    ·refine rest (ws0++[y]) A3 ⟨e2.trans e3,e3 _ _ b1,by rw [Ym];exact c1,hg',fun x hx=>?_,by lia,by lia,by lia⟩
     rcases YK.mp hx with h | h
     ·exact hon x (hw0 x h)
     ·rw [Yv.mp h]
      exact ⟨fun e=>hy0 (by rw [<- y.nms_len,e];rfl),fy,sy⟩
  ·rintro vs A4 ⟨e4,d1,d2,gv,ov,lv,tv,tv2⟩
   walk_at "qd"
   refine if_openX (decide (sizeL vs < 6)) (fun B hB=>?_) (fun hb A5 e5=>?_) (fun hb A5 e5=>?_)
   ·walk_at "qd"
    refine ⟨⟨_,d2⟩,fun l5 hl5=>?_⟩
    walk_at "qc"
    refine Zbn vs Wr.toU (fun w=>.int (w.size:Nat)) hl5 (by lia) (fun i A5 _ he=>⟨_,he _ _ d2,rfl⟩) (fun x A5 hx he Cy hc=>?_) ?_
    ·walk_at "qd"
     have:=Zaw hx
     have:=x.dep_le
     exact ⟨x,rfl,by lia,by lia,hc⟩
    walk_at "qd"
    refine ⟨vs.map fun w=>((w.size:Nat):Int),by rw [Zd,YO];rfl,?_⟩
    rw [ZbO]
    walk_at "qd"
    rw [show decide (((sizeL vs:Nat):Int) < 6)=decide (sizeL vs < 6) from decide_eq_decide.mpr (by lia)]
    exact hB _ (Ext.new hl5)
   ·have hb:=YaZ hb
    walk_at "qd"
    exact ⟨e4.trans e5,lf,vs,_,_,rfl,e5 _ _ d2,gv,ov,lv,by lia,tv⟩
   ·walk_at "qd"
    exact ⟨e4.trans e5,st,ws,_,_,rfl,e5 _ _ d1,hg,hon,by lia,hsz,by lia⟩
 ·obtain ⟨e2,st,ws,r4,r5,rfl,b1,hg,hon,hl,hsz,htp⟩:=h
  rw [Yb] at hl htp
  obtain ⟨s0,hs0,hs0m⟩:∃ s0,atI (ss.map U.str) 0=some (.str s0)/\s0∈ss:=by
   cases ss with
   | nil=>cases hs3
   | cons a b=>exact ⟨a,Zau (j:=0) rfl,YG⟩
  have fin:∀ (vs:List Wr) (A4:AHp),Ext A A4->gdL vs=true->vs.length < 64->Zp vs<=94->(∀ x∈vs,OnSt x)->sizeL vs<=5->Fg Q (.tup [.str (Zaq k),.tup (vs.map Wr.toU)]) A4:=fun vs A4 e g1 g2 g3 g4 g5=>by
   have:=q vs A4 e (by simp only [Wr.gd,Yc,YC];exact ⟨⟨hk,g2⟩,g1⟩) (by simp only [Wr.tups];lia) (ZbK.mpr fun x hx=>⟨(g4 x hx).1,(g4 x hx).2.1⟩) (fun s hs=>by
    simp only [Wr.nms] at hs
    rw [Zbd] at hs
    obtain ⟨x,hx,hs⟩:=List.mem_flatMap.mp hs
    exact (g4 x hx).2.2 s hs) (by simp only [Wr.size];exact g5)
   rw [Wr.toU_many] at this
   exact fg this
  walk_at "qd"
  by_cases h0:ws.length=0
  ·refine if_yes (fun B hB=>?_) ?_
   ·walk_at "qd"
    refine ⟨_,b1,?_⟩
    rw [Yb,show decide ((ws.length:Int)=0)=true from YaA (by lia)]
    exact hB
   ·walk_at "qd"
    refine ⟨_,_,e2 _ _ hsw,hs0,tup2,tup1,fun p hp=>⟨_,Zd,tup2,?_⟩⟩
    have hb:=hso s0 hs0m
    exact fin [.bead s0] _ (e2.trans (Ext.new hp)) (by simp [gdL,Wr.gd,hb.1]) (by simp) (by simp [Zp,Wr.tups]) (fun x hx=>by rw [Yv.mp hx];exact bead_on hb.2) (by simp [sizeL,Wr.size])
  ·refine if_no (fun B hB=>?_) ?_
   ·walk_at "qd"
    refine ⟨_,b1,?_⟩
    rw [Yb,show decide ((ws.length:Int)=0)=false from YZ (by lia)]
    exact hB
   ·walk_at "qd"
    exact ⟨_,b1,tup2,fin ws A2 e2 hg (by lia) (by lia) hon hsz⟩
end
noncomputable def asp_next:ASp:=fun us A Q=>∃ (c:Addr) (ns:List Int),us=[.ref c]/\A c=some (.lst (ns.map U.int))/\∀ (z:Int) (ms:List Int),0<=z->Q (.int z) (updA A c (.lst (ms.map U.int)))
noncomputable def ZiC (n:Nat):ASp:=fun us A Q=>∃ (w:Wr) (c:Addr) (ns:List Int),us=[w.toU,.ref c]/\A c=some (.lst (ns.map U.int))/\w.gd=true/\w.dep<=n/\w.tups<=95/\∀ (v:Wr) (ms:List Int),Lk w v->Q v.toU (updA A c (.lst (ms.map U.int)))
theorem nin_nb (k:Nat):inU (.str (Zaq k)) [.str (Str.ofString "nothing"),.str (Str.ofString "bead")]=false:=by
 match k with
 | 0=>decide +kernel
 | 1=>decide +kernel
 | 2=>decide +kernel
 | _ + 3=>show inU (.str "ring") [.str (Str.ofString "nothing"),.str (Str.ofString "bead")]=false;decide +kernel
theorem ZiP (k:Nat):inU (.str (Zaq k)) [.str (Str.ofString "left"),.str (Str.ofString "right"),.str (Str.ofString "pair")]=false:=by
 match k with
 | 0=>decide +kernel
 | 1=>decide +kernel
 | 2=>decide +kernel
 | _ + 3=>show inU (.str "ring") [.str (Str.ofString "left"),.str (Str.ofString "right"),.str (Str.ofString "pair")]=false;decide +kernel
theorem few_nlp {w:Wr} (h:w.few):w=.nothing\/inU (.str w.name) [.str (Str.ofString "nothing"),.str (Str.ofString "bead")]=false/\inU (.str w.name) [.str (Str.ofString "left"),.str (Str.ofString "right"),.str (Str.ofString "pair")]=true:=by
 cases w with
 | nothing=>exact .inl rfl
 | bead c=>exact absurd rfl (h.1 c)
 | side b f =>
  cases b
  ·exact .inr ⟨(by show inU (.str "left") [.str (Str.ofString "nothing"),.str (Str.ofString "bead")]=false;decide +kernel),(by show inU (.str "left") [.str (Str.ofString "left"),.str (Str.ofString "right"),.str (Str.ofString "pair")]=true;decide +kernel)⟩
  ·exact .inr ⟨(by show inU (.str "right") [.str (Str.ofString "nothing"),.str (Str.ofString "bead")]=false;decide +kernel),(by show inU (.str "right") [.str (Str.ofString "left"),.str (Str.ofString "right"),.str (Str.ofString "pair")]=true;decide +kernel)⟩
 | pair f g=>exact .inr ⟨(by show inU (.str "pair") [.str (Str.ofString "nothing"),.str (Str.ofString "bead")]=false;decide +kernel),(by show inU (.str "pair") [.str (Str.ofString "left"),.str (Str.ofString "right"),.str (Str.ofString "pair")]=true;decide +kernel)⟩
 | many k ps=>exact absurd rfl (h.2 k ps)
theorem ZhU {n:Nat} {c l:Addr} {Q:AVK} {A:AHp} {ps:List Wr} {ns:List Int} {x0:Option U} (hc:A c=some (.lst (ns.map U.int))) (hl:A l=none) (hg:gdL ps=true) (hd:depL ps<=n) (ht:Zp ps<=95)
  (hq:∀ (vs:List Wr) (ms:List Int),Lks ps vs->Q (.ref l) (updA (updA A c (.lst (ms.map U.int))) l (.lst (vs.map Wr.toU)))) :
  aCL (jFix (ps.map Wr.toU)) (ZbH 0) ZcA (Zf4 (ZiC n) (Zeo (aVar 0) (Zeo (aVar 1) aNil))) l Q [x0,some (.ref c)] (updA A l (.lst [])):=by
 have hne:c≠l:=neA hc hl
 have hlen:=ZaO ps
 refine Zjq (ps.map Wr.toU) (fun k ys A2=>∃ (vs:List Wr) (ms:List Int),k<=ps.length/\ys=vs.map Wr.toU/\Lks (ps.take k) vs/\A2=updA (updA A c (.lst (ms.map U.int))) l (.lst ys)) ⟨[],ns,YX _,rfl,Lks.nil,by rw [Zbu hc]⟩ (by rw [Yb];lia) ?_ (fun _ _ _ _ _=>rfl) ?_ ?_
 ·rintro k ys A2 ⟨vs,ms,hk,rfl,L,_⟩
  have:=L.len
  rw [YJ] at this
  rw [Yb];lia
 ·rintro k u ys A2 hu ⟨vs,ms,hk,rfl,L,rfl⟩ Cy hC
  obtain ⟨x,hx,rfl⟩:=Zai hu
  have hm:=Yn hx
  have h1:=ZaM hm
  have h2:=Zaw hm
  rw [Zip,Zfc,ZgN,Zfc,ZjC,q_nil]
  refine ⟨x,c,ms,rfl,by rw [Zm hne,Zd],ZaW hg hm,by lia,by lia,fun v ms' Lv=>?_⟩
  rw [Zdj (A:=updA A c _) (Ne.symm hne),ZaJ]
  refine hC _ _ Zd ⟨vs++[v],ms',?_,by rw [Ym];rfl,?_,by rw [ZaJ]⟩
  ·exact (Yp.mp hx).1
  ·have:=L.snoc Lv
   rw [YaK,hx]
   exact this
 ·rintro ys A2 ⟨vs,ms,hk,rfl,L,rfl⟩
  rw [Yb,Yat] at L
  exact hq vs ms L
section
include T
theorem ok_next:FnOk P w K mg base CX0 1 f_qq d_qq ["_law_cells"] (spOf K asp_next):=by
 refine' Fun.okA T.F_qq (sc:=?sc28) (body:=?bd28) ?hs28 ?hb28 Zjv ?hB28 ?hS28
 case hs28=>conv=>lhs;whnf
 case hb28=>conv=>lhs;whnf
 case hB28=>exact fun S cdv A outer s H E hr=>⟨_,(Zg (Zar (Zs (Zbf hr) (Zw Zbe (by rfl) T.n_len (by decide +kernel) (Za (pv 0) Ze)) Zh (Z2 _)) (Zl (ZE Zh)) ZG)
   (Zl (ZE (ZL ZbG (Zdy YY Ybv Ybw ZgR (pv 0) (Za Zh Ze)) (ZL o_pow Zh Zh))))),(Zn (ZZ (Zt (Zk Zbg (Z4 ZaE (Zc Zb Zf)) Zi)) (ZD Zi) ZF)
   (ZD (Zk Za4 (Zei Za9 ZgG Zb (Zc Zi Zf)) (Zk Zgr Zi Zi))))⟩
 rintro us A Q ⟨c,ns,rfl,hc,q⟩
 refine ⟨rfl,?_⟩
 walk_at "qs"
 walk_at "qd"
 refine ⟨_,hc,?_⟩
 rw [Yb]
 cases ns with
 | nil =>
  refine iteTt rfl ?_
  have:=q 0 [] (YbF 0)
  rw [Zbu hc] at this
  exact fg this
 | cons n ns =>
  refine ZB (YZ (by simp only [List.length_cons];lia)) ?_
  exact ⟨⟨_,hc⟩,_,_,hc,⟨by decide,by decide,by decide⟩,show (0:Int) < 10 ^ Int.toNat 9 by decide,fg (q _ ns (YS _ (by decide)))⟩
end
section
include T
theorem ok_shk:∀ n:Nat,FnOk P w K mg base CX0 (n + 2) f_q7 d_q7 ["_law_figure","_law_cells"] (spOf K (ZiC n)):=by
 intro n
 induction n with
 | zero=>exact ZbX T.F_q7 Zdk fun us A Q hq0=>by obtain ⟨w,_,_,_,_,_,hd,_⟩:=hq0;have:=w.dep_pos;lia
 | succ n ih =>
  have G_q7:=ih
  have G_qq:=ok_next (P:=P) (w:=w) (base:=base) T
  refine' Fun.okA T.F_q7 (sc:=?sc29) (body:=?bd29) ?hs29 ?hb29 Zdk ?hB29 ?hS29
  case hs29=>conv=>lhs;whnf
  case hb29=>conv=>lhs;whnf
  case hB29=>exact fun S cdv A outer s H E hr=>⟨_,(Zg (Zar (Zs o_in (ZR o_ix (pv 0) Zh (fun _ _=>rfl)) (ZW (Za ZS (Za ZS Ze))) (by with_unfolding_all rfl)) (Zl (ZE (pv 0))) ZG)
   (Zg (Zar (Zs o_in (ZR o_ix (pv 0) Zh (fun _ _=>rfl)) (ZW (Zbm (xs:=["left","right","pair"]) rfl)) (by with_unfolding_all rfl)) (Zl (ZE (ZL Z0 (ZW (Za (ZR o_ix (pv 0) Zh (fun _ _=>rfl)) Ze)) (Zaj Za6 (by rfl) T.n_tuple (by decide +kernel) (Za (ZaF (ts:=["_law_part"]) (frs':=[("_law_cells",1)]) (cl:=_) rfl ⟨(by rfl),rfl,(by decide +kernel),(by decide +kernel),(ZaG (by rfl) ZaS),(Zb0 (by rfl) (by rfl)),(ZaG ⟨(by rfl),(by first | exact .inl rfl | exact .inr rfl),(by first | exact .inl rfl | exact .inr rfl),(by rfl)⟩ ZaS)⟩ (ZaH (ZK Za3 (pv 0) (ZO Zh) Z1)) (fun _ _ _ _=>ZH (i:=0) (show List.Nodup (["_law_part","_law_cells"]:List Str) from by decide +kernel) rfl (Or.inl rfl) (.inr rfl)) (fun _ _ _ _=>Z3) (fun _ _ _ _=>by exact (Zu (G_q7.mono (by first | decide | lia)) hr (by rfl) T.M_q7 T.F_q7.kp T.B_q7 .nil Z7 (Za (pv 0) (Za (pv 1) Ze))))) Ze))))) ZG)
   (Zg (Zee (i:=2) S.nd rfl (Or.inl rfl) (by with_unfolding_all rfl) (ts:=["_law_part"]) (frs':=[("_law_cells",1)]) (cl:=_) rfl ⟨(by rfl),rfl,(by decide +kernel),(by decide +kernel),(ZaG (by rfl) ZaS),(Zb0 (by rfl) (by rfl)),(ZaG ⟨(by rfl),(by first | exact .inl rfl | exact .inr rfl),(by first | exact .inl rfl | exact .inr rfl),(by rfl)⟩ ZaS)⟩ (ZaH (ZR o_ix (pv 0) Zh (fun _ _=>rfl))) (fun _ _ _ _=>ZH (i:=0) (show List.Nodup (["_law_part","_law_cells"]:List Str) from by decide +kernel) rfl (Or.inl rfl) (.inr rfl)) (fun _ _ _ _=>Z3) (fun _ _ _ _=>by exact (Zu (G_q7.mono (by first | decide | lia)) hr (by rfl) T.M_q7 T.F_q7.kp T.B_q7 .nil Z7 (Za (pv 0) (Za (pv 1) Ze)))))
   (Zg (Zar ((ZcG (Zs o_in (ZR o_ix (pv 0) Zh (fun _ _=>rfl)) (ZW (Zbm (xs:=["bag","choice","ring"]) rfl)) (by with_unfolding_all rfl)) (Zb9 (Zs o_gt (Zw Zbe (by rfl) T.n_len (by decide +kernel) (Za (pv 2) Ze)) Zh (Z2 _))))).pt (Zg (Zz (i:=3) S.nd rfl (Or.inl rfl) (Zu (G_qq.mono (by first | decide | lia)) hr (by rfl) T.M_qq T.F_qq.kp T.B_qq .nil Z7 (Za (pv 1) Ze)))
   (Zg (Zz (i:=4) S.nd rfl (Or.inl rfl) (ZL ZbG (pv 3) (Zw Zbe (by rfl) T.n_len (by decide +kernel) (Za (pv 2) Ze))))
   (Zg (Zz (i:=2) S.nd rfl (Or.inl rfl) (ZL Z0 (ZK Za3 (pv 2) (ZO (pv 4)) Z1) (ZK Za3 (pv 2) Z1 (ZO (pv 4)))))
   (Zl (Zar (Zs (o_neD hr) (ZR o_ix (pv 0) Zh (fun _ _=>rfl)) ZS (Z2 _)) (Zg (Zz (i:=5) S.nd rfl (Or.inl rfl) (ZL ZbG (ZL Ze7 (pv 3) Zh) (Zw Zbe (by rfl) T.n_len (by decide +kernel) (Za (pv 2) Ze))))
   (Zl (Zz (i:=2) S.nd rfl (Or.inl rfl) (ZL Z0 (ZL Z0 (ZaD (Za (ZR o_ix (pv 2) (pv 5) (fun _ _=>rfl)) Ze)) (ZhB rfl (by rfl) T.n_list (by rfl) T.n_reversed (ZK Za3 (pv 2) Z1 (ZO (pv 5))))) (ZK Za3 (pv 2) (ZO (ZL Z0 (pv 5) Zh)) Z1))))) ZG))))) ZG)
   (Zl (ZE (ZW (Za (ZR o_ix (pv 0) Zh (fun _ _=>rfl)) (Za (Zaj Za6 (by rfl) T.n_tuple (by decide +kernel) (Za (pv 2) Ze)) Ze))))))))),(Zn (ZZ (Zt (Zk Zb3 (Zk ZQ Zb Zi) (ZY (Zc ZT (Zc ZT Zf))))) (ZD Zb) ZF)
   (Zn (ZZ (Zt (Zk Zb3 (Zk ZQ Zb Zi) (ZY Zbs))) (ZD (Zk ZX (ZY (Zc (Zk ZQ Zb Zi) Zf)) (Z4 ZaL (Zc (Zak (ZaI Zab (ZaV Zah Zb (ZP Zi) ZC)) Zj Zal (Zv (Zc Zb (Zc Zb Zf)))) Zf)))) ZF)
   (Zn (Zx (Zak (ZaI Zab (Zk ZQ Zb Zi)) Zj Zal (Zv (Zc Zb (Zc Zb Zf)))) Zj)
   (Zn (ZZ (ZcH (Zt (Zk Zb3 (Zk ZQ Zb Zi) (ZY Zbs))) (Zt (Zk ZfL (Z4 ZaE (Zc Zb Zf)) Zi))) (Zn (Zx (Zv (Zc Zb Zf)) Zj)
   (Zn (Zx (Zk Za4 Zb (Z4 ZaE (Zc Zb Zf))) Zj)
   (Zn (Zx (Zk ZX (ZaV Zah Zb (ZP Zb) ZC) (ZaV Zah Zb ZC (ZP Zb))) Zj)
   (ZZ (Zt (Zk ab_ne (Zk ZQ Zb Zi) ZT)) (Zn (Zx (Zk Za4 (Zk Zfj Zb Zi) (Z4 ZaE (Zc Zb Zf))) Zj)
   (Zx (Zk ZX (Zk ZX (ZaC (Zc (Zk ZQ Zb Zb) Zf)) (Zhe (ZaV Zah Zb ZC (ZP Zb)))) (ZaV Zah Zb (ZP (Zk ZX Zb Zi)) ZC)) Zj)) ZF)))) ZF)
   (ZD (ZY (Zc (Zk ZQ Zb Zi) (Zc (Z4 ZaL (Zc Zb Zf)) Zf))))))))⟩
  rintro us A Q ⟨w,c,ns,rfl,hc,hg,hd,ht,q⟩
  refine ⟨rfl,?_⟩
  have hpd:=w.parts_dep
  have hpt:=w.parts_tups
  have hpl:=ZaO w.parts
  walk_at "qs"
  rcases w.kinds with ⟨cl,rfl⟩ | ⟨k,ps,rfl⟩ | hf
  ·rw [Wr.toU]
   walk_at "qd"
   refine ⟨tup2,rfl,rfl,iteTt (by decide +kernel) ?_⟩
   have:=q _ ns (Lk.refl hg)
   rw [Zbu hc] at this
   exact fg this
  ·rw [Wr.toU_many]
   walk_at "qd"
   have hg2:=hg
   simp only [Wr.gd,Yc,YC] at hg2
   simp only [Wr.parts,Wr.tups,Wr.dep] at hpd hpt hpl ht hd
   refine ⟨tup2,rfl,rfl,ZB (nin_nb k) ⟨tup3,rfl,rfl,ZB (ZiP k) fun l hl=>?_⟩⟩
   walk_at "qc"
   refine ZhU hc hl hg2.2 (by lia) (by lia) fun vs ms L=>?_
   walk_at "qd"
   have hne:c≠l:=neA hc hl
   have hl1:updA A c (.lst (ms.map U.int)) l=none:=by rw [Zm (Ne.symm hne)];exact hl
   have hvl:vs.length < 64:=by rw [L.len];exact hg2.1.2
   have fin:∀ (rs:List Wr) (ms':List Int) (A2:AHp),Ext (updA A c (.lst (ms'.map U.int))) A2->Alk k vs rs->Fg Q (.tup [.str (Zaq k),.tup (rs.map Wr.toU)]) A2:=fun rs ms' A2 e a=>by
    have:=q _ ms' (L.many hg a)
    rw [Wr.toU_many] at this
    exact fgx e this
   refine ⟨tup3,rfl,rfl,?_⟩
   by_cases k0:k=0
   ·subst k0
    refine ZB (by decide +kernel) ?_
    exact ⟨_,Zd,tup2,fin vs ms _ (Ext.new hl1) (Alk.refl _ _)⟩
   refine iteTt (by obtain h | h | h:k=1\/k=2\/k=3:=(by lia);all_goals (subst h;decide +kernel)) ⟨_,Zd,?_⟩
   rw [Yb]
   by_cases h1:1 < vs.length
   ·refine iteTt (YaA (by lia)) ⟨c,ms,rfl,by rw [Zm hne,Zd],fun z ms' hz=>?_⟩
    have eA:updA (updA (updA A c (.lst (ms.map U.int))) l (.lst (vs.map Wr.toU))) c (.lst (ms'.map U.int))=updA (updA A c (.lst (ms'.map U.int))) l (.lst (vs.map Wr.toU)):=by rw [Zdj (A:=updA A c _) (Ne.symm hne),ZaJ]
    rw [eA]
    have hl2:updA A c (.lst (ms'.map U.int)) l=none:=by rw [Zm (Ne.symm hne)];exact hl
    have e0:=Ext.new (o:=.lst (vs.map Wr.toU)) hl2
    have hl3:updA (updA A c (.lst (ms'.map U.int))) l (.lst (vs.map Wr.toU)) l=some (.lst (vs.map Wr.toU)):=Zd
    generalize updA (updA A c (.lst (ms'.map U.int))) l (.lst (vs.map Wr.toU))=A3 at e0 hl3 ⊢
    walk_at "qd"
    refine ⟨_,hl3,?_⟩
    rw [Yb]
    walk_at "qd"
    have hvp:(0:Int) < (vs.length:Int):=by lia
    obtain ⟨t,ht0,ht1⟩:∃ t:Nat,z % (vs.length:Int)=(t:Int)/\t < vs.length:=⟨(z % (vs.length:Int)).toNat,(Ycv (YS _ (by lia))).symm,by have:=YW z hvp;have:=YS z (show (vs.length:Int)≠0 by lia);lia⟩
    rw [ht0]
    walk_at "qd"
    refine ⟨hvp,_,hl3,fun p1 hp1=>⟨_,by rw [Zm (neA hl3 hp1)];exact hl3,fun p2 hp2=>?_⟩⟩
    rw [ZbT (by rw [Yb];lia)] at hp2 ⊢
    rw [ZdG (by rw [Yb];lia)]
    have n12:p1≠p2:=neA Zd hp2
    refine ⟨_,_,by rw [Zm n12,Zd],Zd,Zr (by simp;lia),fun p3 hp3=>?_⟩
    have et:(vs.map Wr.toU).drop t++(vs.map Wr.toU).take t=(turnL vs t).map Wr.toU:=by unfold turnL;rw [Ym,Yaf,Y5]
    rw [et]
    have e1:=(Ext.new (o:=.lst ((vs.map Wr.toU).drop t)) hp1).trans ((Ext.new (o:=.lst ((vs.map Wr.toU).take t)) hp2).trans (Ext.new (o:=.lst ((turnL vs t).map Wr.toU)) hp3))
    have a3:(updA (updA (updA A3 p1 (.lst ((vs.map Wr.toU).drop t))) p2 (.lst ((vs.map Wr.toU).take t))) p3 (.lst ((turnL vs t).map Wr.toU))) p3=some (.lst ((turnL vs t).map Wr.toU)):=Zd
    generalize (updA (updA (updA A3 p1 (.lst ((vs.map Wr.toU).drop t))) p2 (.lst ((vs.map Wr.toU).take t))) p3 (.lst ((turnL vs t).map Wr.toU)))=A4 at e1 a3 ⊢
    have hul:(turnL vs t).length=vs.length:=Z6 vs t
    have hup:=ZN vs t
    by_cases k3:k=3
    ·subst k3
     refine ZB (by decide +kernel) ?_
     exact ⟨_,a3,tup2,fin _ ms' _ (e0.trans e1) (by unfold Alk;rw [if_neg (by lia),if_neg (by lia)];exact .inr ⟨t,ht1,rfl⟩)⟩
    ·refine iteTt (by obtain h | h:k=1\/k=2:=(by lia);all_goals (subst h;decide +kernel)) ?_
     generalize turnL vs t=us at hul hup a3 ⊢
     refine ⟨⟨by decide,by decide⟩,_,a3,?_⟩
     rw [Yb]
     walk_at "qd"
     obtain ⟨j,hj0,hj1⟩:∃ j:Nat,z / 64 % (us.length:Int)=(j:Int)/\j < us.length:=⟨(z / 64 % (us.length:Int)).toNat,(Ycv (YS _ (by lia))).symm,by have:=YW (z / 64) (show (0:Int) < us.length by lia);have:=YS (z / 64) (show (us.length:Int)≠0 by lia);lia⟩
     rw [hj0]
     walk_at "qd"
     obtain ⟨x,hx⟩:∃ x,us[j]? = some x:=⟨_,Ye hj1⟩
     have hxU:(us.map Wr.toU)[j]? = some x.toU:=by rw [Yr,hx];rfl
     refine ⟨by lia,_,_,a3,Zau hxU,tup1,fun p6 hp6=>?_⟩
     have e40:=Ext.new (o:=.lst [x.toU]) hp6
     have a6:updA A4 p6 (.lst [x.toU]) p6=some (.lst [x.toU]):=Zd
     generalize updA A4 p6 (.lst [x.toU])=A40 at e40 a6 ⊢
     refine ⟨_,e40 _ _ a3,fun p4 hp4=>⟨p4,_,rfl,Zd,fun p5 hp5=>?_⟩⟩
     rw [ZdG (by rw [Yb];lia)] at hp5 ⊢
     have e41:=(Ext.new (o:=.lst ((us.map Wr.toU).take j)) hp4).trans (Ext.new (o:=.lst ((us.map Wr.toU).take j).reverse) hp5)
     have a5:updA (updA A40 p4 (.lst ((us.map Wr.toU).take j))) p5 (.lst ((us.map Wr.toU).take j).reverse) p5=some (.lst ((us.map Wr.toU).take j).reverse):=Zd
     generalize updA (updA A40 p4 (.lst ((us.map Wr.toU).take j))) p5 (.lst ((us.map Wr.toU).take j).reverse)=A5 at e41 a5 ⊢
     have e4:=e40.trans e41
     refine ⟨_,_,e41 _ _ a6,a5,Zr (by simp;lia),fun p7 hp7=>?_⟩
     have e5:=Ext.new (o:=.lst ([x.toU]++((us.map Wr.toU).take j).reverse)) hp7
     have a7:updA A5 p7 (.lst ([x.toU]++((us.map Wr.toU).take j).reverse)) p7=some (.lst ([x.toU]++((us.map Wr.toU).take j).reverse)):=Zd
     generalize updA A5 p7 (.lst ([x.toU]++((us.map Wr.toU).take j).reverse))=A6 at e5 a7 ⊢
     refine ⟨_,e5 _ _ (e4 _ _ a3),fun p8 hp8=>?_⟩
     have ej:((j:Int) + 1)=((j + 1:Nat):Int):=by lia
     rw [ej,ZbT (by rw [Yb];lia)]
     refine ⟨_,_,by rw [Zm (neA a7 hp8)];exact a7,Zd,Zr (by simp;lia),fun p9 hp9=>?_⟩
     have et2:[x.toU]++((us.map Wr.toU).take j).reverse++(us.map Wr.toU).drop (j + 1)=([x]++(us.take j).reverse++us.drop (j + 1)).map Wr.toU:=by simp only [Ym,YbX,Y5,Yaf,Yu,Ya0]
     rw [et2]
     have e6:=(Ext.new (o:=.lst ((us.map Wr.toU).drop (j + 1))) hp8).trans (Ext.new (o:=.lst (([x]++(us.take j).reverse++us.drop (j + 1)).map Wr.toU)) hp9)
     refine ⟨_,Zd,tup2,fin _ ms' _ (e0.trans (e1.trans (e4.trans (e5.trans e6)))) ?_⟩
     unfold Alk
     rw [if_pos (by lia)]
     exact hup.symm.trans (Zin hx)
   ·refine ZB (YZ (by lia)) ?_
    exact ⟨_,Zd,tup2,fin vs ms _ (Ext.new hl1) (Alk.refl _ _)⟩
  ·rw [Wr.toU_few hf]
   walk_at "qd"
   rcases few_nlp hf with rfl | hn
   ·simp only [Wr.name]
    refine ⟨tup2,rfl,rfl,iteTt (by decide +kernel) ?_⟩
    have:=q _ ns (Lk.refl hg)
    rw [Zbu hc] at this
    exact fg this
   ·refine ⟨tup2,rfl,rfl,ZB hn.1 ⟨tup3,rfl,rfl,iteTt hn.2 ⟨tup1,fun l hl=>?_⟩⟩⟩
    walk_at "qc"
    refine ZhU hc hl (w.gd_parts hg).1 (by lia) (by lia) fun vs ms L=>?_
    walk_at "qd"
    have hne:c≠l:=neA hc hl
    have hl1:updA A c (.lst (ms.map U.int)) l=none:=by rw [Zm (Ne.symm hne)];exact hl
    have hvl:=L.len
    obtain ⟨v,Lv,ev⟩:=L.few hf
    have:=q v ms Lv
    rw [ev] at this
    exact ⟨_,Zd,Zr (by rw [Yb];simp only [List.length_cons,List.length_nil];lia),fgx (Ext.new hl1) this⟩
end
noncomputable def ZgT:Pos:=⟨164,41,164,107⟩
noncomputable def Cl (t:Addr) (A:AHp):Prop:=A t=some (tblO ZgT "_law_plain.<locals>.<lambda>")
noncomputable def asp_lpl (t:Addr) (n:Nat):ASp:=fun us A Q=>∃ w:Wr,us=[w.toU]/\w.gd=true/\w.dep<=n/\w.tups<=95/\Cl t A/\Q w.pl.toU A
theorem ZjN {A:AHp}:∀ vs:List Wr,DUs A (vs.map Wr.keyU) (vs.map Wr.keyD)
 | []=>.nil
 | v::vs=>.cons v.duK (ZjN vs)
noncomputable def klT (qs:List Wr) (ads:List Addr):U->List U
 | .ref a=>(turnL qs (ads.idxOf a)).map Wr.keyU
 | _=>[]
noncomputable def dlT (qs:List Wr) (ads:List Addr):U->List PyData
 | .ref a=>(turnL qs (ads.idxOf a)).map Wr.keyD
 | _=>[]
theorem Ziw {l l1:Addr} {A:AHp} {qs:List Wr} {Q:AVK} {x0:Option U} (a0:A l=some (.lst (qs.map Wr.toU))) (hl:A l1=none) (hn:qs.length<=1000)
  (hq:∀ (ads:List Addr) (A2:AHp),ads.length=qs.length->ads.Nodup->Ext A A2->A2 l1=some (.lst (ads.map U.ref))->(∀ (i:Nat) (a:Addr),ads[i]? = some a->A2 a=some (.lst ((turnL qs i).map Wr.toU)))->Q (.ref l1) A2) :
  aCL (jFix (rngU 0 qs.length)) (ZbH 0) ZcA (aOp xAdd (aSl xSl (aVar 1) (Zhr (aVar 0)) Zcv) (aSl xSl (aVar 1) Zcv (Zhr (aVar 0)))) l1 Q [x0,some (.ref l)] (updA A l1 (.lst [])):=by
 refine Zjq (rngU 0 qs.length) (fun k ys A2=>∃ ads:List Addr,ads.length=k/\ys=ads.map U.ref/\ads.Nodup/\Ext A A2/\A2 l1=some (.lst ys)/\∀ (i:Nat) (a:Addr),ads[i]? = some a->A2 a=some (.lst ((turnL qs i).map Wr.toU))/\a≠l1)
  ⟨[],rfl,rfl,List.nodup_nil,Ext.new hl,Zd,fun i a h=>by simp at h⟩ (by rw [rngU_len];lia) ?_ (fun _ _ _ _ _=>rfl) ?_ ?_
 ·rintro k ys A2 ⟨ads,h,rfl,_⟩
  rw [Yb];exact h
 ·rintro k u ys A2 hu ⟨ads,hk,rfl,hnd,e,a1,hat⟩ Cy hC
  rw [ZbD] at hu
  by_cases hlt:k < qs.length
  ·rw [if_pos hlt] at hu
   cases hu
   have ek:(0:Int) + (k:Int)=(k:Int):=by lia
   rw [ek]
   walk_at "qd"
   refine ⟨_,e _ _ a0,fun p1 hp1=>⟨_,by rw [Zm (neA (e _ _ a0) hp1)];exact e _ _ a0,fun p2 hp2=>?_⟩⟩
   rw [ZbT (by rw [Yb];lia)] at hp2 ⊢
   rw [ZdG (by rw [Yb];lia)]
   have n12:p1≠p2:=neA Zd hp2
   refine ⟨_,_,by rw [Zm n12,Zd],Zd,Zr (by simp;lia),fun p3 hp3=>?_⟩
   have et:(qs.map Wr.toU).drop k++(qs.map Wr.toU).take k=(turnL qs k).map Wr.toU:=by unfold turnL;rw [Ym,Yaf,Y5]
   rw [et]
   have e1:=(Ext.new (o:=.lst ((qs.map Wr.toU).drop k)) hp1).trans ((Ext.new (o:=.lst ((qs.map Wr.toU).take k)) hp2).trans (Ext.new (o:=.lst ((turnL qs k).map Wr.toU)) hp3))
   have h3n:A2 p3=none:=Ext.none ((Ext.new (o:=.lst ((qs.map Wr.toU).drop k)) hp1).trans (Ext.new (o:=.lst ((qs.map Wr.toU).take k)) hp2)) hp3
   have a3:(updA (updA (updA A2 p1 (.lst ((qs.map Wr.toU).drop k))) p2 (.lst ((qs.map Wr.toU).take k))) p3 (.lst ((turnL qs k).map Wr.toU))) p3=some (.lst ((turnL qs k).map Wr.toU)):=Zd
   generalize (updA (updA (updA A2 p1 (.lst ((qs.map Wr.toU).drop k))) p2 (.lst ((qs.map Wr.toU).take k))) p3 (.lst ((turnL qs k).map Wr.toU)))=A3 at e1 a3 ⊢
   have h3l:p3≠l1:=fun z=>by rw [z,a1] at h3n;cases h3n
   refine hC _ _ (e1 _ _ a1) ⟨ads++[p3],by rw [Yh,hk];rfl,by rw [Ym];rfl,?_,?_,Zd,?_⟩
   ·rw [List.nodup_append]
    refine ⟨hnd,by simp,fun a ha b hb=>?_⟩
    rw [Yv] at hb
    subst hb
    obtain ⟨i,hi⟩:=YaE.mp ha
    intro z
    subst z
    rw [(hat i _ hi).1] at h3n;cases h3n
   ·intro b o hb
    rw [Zm (neA hb hl)]
    exact e1 _ _ (e _ _ hb)
   ·intro i a hi
    by_cases c:i < ads.length
    ·rw [Yar c] at hi
     obtain ⟨h1,h2⟩:=hat i a hi
     exact ⟨by rw [Zm h2];exact e1 _ _ h1,h2⟩
    ·have hil:=(Yp.mp hi).1
     rw [Yh,List.length_singleton] at hil
     have:i=ads.length:=by lia
     subst this
     rw [Yae (Yg _),YbU] at hi
     simp at hi
     subst hi
     rw [hk]
     exact ⟨by rw [Zm h3l];exact a3,h3l⟩
  ·rw [if_neg hlt] at hu;cases hu
 ·rintro ys A2 ⟨ads,hk,rfl,hnd,e,a1,hat⟩
  rw [rngU_len] at hk
  exact hq ads A2 hk hnd e a1 fun i a h=>(hat i a h).1
section
include T
theorem ok_lpl (hBA_qj:base.BuiltinsAt mg t_qj):∀ n:Nat,FnOk P w K mg base CX0 (n + 103) f_qj d_qj ["_law_figure"] (spOf K (asp_lpl t_qj n)):=by
 intro n
 induction n with
 | zero=>exact ZbX T.F_qj ZdU fun us A Q hq0=>by obtain ⟨w,_,_,hd,_⟩:=hq0;have:=w.dep_pos;lia
 | succ n ih =>
  have G_qj:=ih
  have G_qr:=ok_lkey (P:=P) (w:=w) (base:=base) T 95
  refine' Fun.okL T.F_qj T.C_qj (sc:=?sc30) (body:=?bd30) ?hs30 ?hb30 ZdU ?hB30 ?hS30
  case hs30=>conv=>lhs;whnf
  case hb30=>conv=>lhs;whnf
  case hB30=>exact fun S A outer s H E hr=>⟨_,(Zg (Zar (Zs o_in (ZR o_ix (pv 0) Zh (fun _ _=>rfl)) (ZW (Za ZS (Za ZS Ze))) (by with_unfolding_all rfl)) (Zl (ZE (pv 0))) ZG)
   (Zg (Zar (Zs o_in (ZR o_ix (pv 0) Zh (fun _ _=>rfl)) (ZW (Zbm (xs:=["left","right","pair"]) rfl)) (by with_unfolding_all rfl)) (Zl (ZE (ZL Z0 (ZW (Za (ZR o_ix (pv 0) Zh (fun _ _=>rfl)) Ze)) (Zaj Za6 (by rfl) T.n_tuple (by decide +kernel) (Za (ZaF (ts:=["_law_part"]) (frs':=[]) (cl:=[]) rfl ⟨rfl,rfl,(by decide +kernel),(by decide +kernel),(fun _ z=>nomatch z),(ZV rfl rfl),(fun _ z=>nomatch z)⟩ (ZaH (ZK Za3 (pv 0) (ZO Zh) Z1)) (fun _ _ _ _=>ZH (i:=0) nd1 rfl (Or.inl rfl) (.inr rfl)) (fun _ _ _ _=>Z3) (fun _ _ _ _=>by exact (Zu (G_qj.mono (by first | decide | lia)) hr (by rfl) T.M_qj T.F_qj.kp T.B_qj .nil Z7 (Za (pv 0) Ze)))) Ze))))) ZG)
   (Zg (Zz (i:=1) S.nd rfl (Or.inr rfl) (ZaF (ts:=["_law_part"]) (frs':=[]) (cl:=[]) rfl ⟨rfl,rfl,(by decide +kernel),(by decide +kernel),(fun _ z=>nomatch z),(ZV rfl rfl),(fun _ z=>nomatch z)⟩ (ZaH (ZR o_ix (pv 0) Zh (fun _ _=>rfl))) (fun _ _ _ _=>ZH (i:=0) nd1 rfl (Or.inl rfl) (.inr rfl)) (fun _ _ _ _=>Z3) (fun _ _ _ _=>by exact (Zu (G_qj.mono (by first | decide | lia)) hr (by rfl) T.M_qj T.F_qj.kp T.B_qj .nil Z7 (Za (pv 0) Ze)))))
   (Zg (Zar (Zs o_in (ZR o_ix (pv 0) Zh (fun _ _=>rfl)) (ZW (Za ZS (Za ZS Ze))) (by with_unfolding_all rfl)) (Zl (Zz (i:=1) S.nd rfl (Or.inr rfl) (pe_sortF (G_qr.mono (by first | decide | lia)) hr (by rfl) T.n_sorted (by rfl) T.M_qr T.B_qr (pv 1)))) ZG)
   (Zg (Zar ((ZcG (Zs (Zbf hr) (ZR o_ix (pv 0) Zh (fun _ _=>rfl)) ZS (Z2 _)) (Zb9 (Zs o_gt (Zw Zbe (by rfl) T.n_len (by decide +kernel) (Za (pv 1) Ze)) Zh (Z2 _))))).pt (Zg (Zee (i:=2) S.nd rfl (Or.inl rfl) (by with_unfolding_all rfl) (ts:=["_law_k"]) (frs':=[("_law_parts",1)]) (cl:=_) rfl ⟨(by rfl),rfl,(by decide +kernel),(by decide +kernel),(ZaG (by rfl) ZaS),(Zb0 (by rfl) (by rfl)),(ZaG ⟨(by rfl),(by first | exact .inl rfl | exact .inr rfl),(by first | exact .inl rfl | exact .inr rfl),(by rfl)⟩ ZaS)⟩ (ZbA rfl T.n_range (Za (Zw Zbe (by rfl) T.n_len (by decide +kernel) (Za (pv 1) Ze)) Ze)) (fun _ _ _ _=>ZH (i:=0) (show List.Nodup (["_law_k","_law_parts"]:List Str) from by decide +kernel) rfl (Or.inl rfl) (.inr rfl)) (fun _ _ _ _=>Z3) (fun _ _ _ _=>by exact (ZL (k_addW K rfl) (ZK (k_slW K rfl) (pv 1) (ZO (pv 0)) Z1) (ZK (k_slW K rfl) (pv 1) Z1 (ZO (pv 0))))))
   (Zl (Zz (i:=1) S.nd rfl (Or.inr rfl) (pe_minL (N:=["_law_turn"]) (y:="_law_turn") (qual:="_law_plain.<locals>.<lambda>") rfl hr (by rfl) T.n_min (pv 2) rfl T.H_qj (by rfl) hBA_qj T.Z_qj (by show (Str.ofString "_law_plain"++".<locals>."++"<lambda>":Str)=_;decide +kernel) ⟨rfl,rfl,rfl,by decide +kernel,rfl,by decide +kernel,by decide +kernel⟩ rfl rfl (fun _ _ _ _=>rfl) (fun fl c s H hr=>⟨_,(ZaF (ts:=["_law_part"]) (frs':=[]) (cl:=[]) rfl ⟨rfl,rfl,(by decide +kernel),(by decide +kernel),(fun _ z=>nomatch z),(ZV rfl rfl),(fun _ z=>nomatch z)⟩ (ZaH (pv 0)) (fun _ _ _ _=>ZH (i:=0) nd1 rfl (Or.inl rfl) (.inr rfl)) (fun _ _ _ _=>Z3) (fun _ _ _ _=>by exact (Zu (G_qr.mono (by first | decide | lia)) hr (by rfl) T.M_qr T.F_qr.kp T.B_qr .nil Z7 (Za (pv 0) Ze)))),(Zak (ZaI Zab Zb) Zj Zal (Zv (Zc Zb Zf)))⟩))))) ZG)
   (Zl (ZE (ZW (Za (ZR o_ix (pv 0) Zh (fun _ _=>rfl)) (Za (Zaj Za6 (by rfl) T.n_tuple (by decide +kernel) (Za (pv 1) Ze)) Ze)))))))))),(Zn (ZZ (Zt (Zk Zb3 (Zk ZQ Zb Zi) (ZY (Zc ZT (Zc ZT Zf))))) (ZD Zb) ZF)
   (Zn (ZZ (Zt (Zk Zb3 (Zk ZQ Zb Zi) (ZY Zbs))) (ZD (Zk ZX (ZY (Zc (Zk ZQ Zb Zi) Zf)) (Z4 ZaL (Zc (Zak (ZaI Zab (ZaV Zah Zb (ZP Zi) ZC)) Zj Zal (Zv (Zc Zb Zf))) Zf)))) ZF)
   (Zn (Zx (Zak (ZaI Zab (Zk ZQ Zb Zi)) Zj Zal (Zv (Zc Zb Zf))) Zj)
   (Zn (ZZ (Zt (Zk Zb3 (Zk ZQ Zb Zi) (ZY (Zc ZT (Zc ZT Zf))))) (Zx (ab_sortF Zb) Zj) ZF)
   (Zn (ZZ (ZcH (Zt (Zk Zbg (Zk ZQ Zb Zi) ZT)) (Zt (Zk ZfL (Z4 ZaE (Zc Zb Zf)) Zi))) (Zn (Zx (Zak (ZbZ (Zc (Z4 ZaE (Zc Zb Zf)) Zf)) Zj Zal (Zk ZX (ZaV Zah Zb (ZP Zb) ZC) (ZaV Zah Zb ZC (ZP Zb)))) Zj)
   (Zx (ab_minL Zb) Zj)) ZF)
   (ZD (ZY (Zc (Zk ZQ Zb Zi) (Zc (Z4 ZaL (Zc Zb Zf)) Zf)))))))))⟩
  rintro us A Q ⟨w,rfl,hg,hd,ht,hC,q⟩
  refine ⟨rfl,?_⟩
  have hpd:=w.parts_dep
  have hpt:=w.parts_tups
  have hpl:=ZaO w.parts
  walk_at "qs"
  rcases w.kinds with ⟨cl,rfl⟩ | ⟨k,ps,rfl⟩ | hf
  ·rw [Wr.toU]
   walk_at "qd"
   exact ⟨tup2,rfl,rfl,iteTt (by decide +kernel) (fg q)⟩
  ·rw [Wr.toU_many]
   walk_at "qd"
   have hg2:=hg
   simp only [Wr.gd,Yc,YC] at hg2
   simp only [Wr.parts,Wr.tups,Wr.dep] at hpd hpt hpl ht hd
   refine ⟨tup2,rfl,rfl,ZB (nin_nb k) ⟨tup3,rfl,rfl,ZB (ZiP k) fun l hl=>?_⟩⟩
   walk_at "qc"
   refine Zbn ps Wr.toU (fun w=>w.pl.toU) hl (by lia) (fun _ _ _ _=>rfl) (fun x A2 hx he Cy hc=>?_) ?_
   ·walk_at "qd"
    have:=ZaM hx
    have:=Zaw hx
    exact ⟨x,rfl,ZaW hg2.2 hx,by lia,by lia,he _ _ hC,hc⟩
   ·walk_at "qd"
    have eq:ps.map (fun w=>w.pl.toU)=(plnL ps).map Wr.toU:=by rw [ZM,YO];rfl
    rw [eq]
    have hqg:=Zb7 ps hg2.2
    have hql:(plnL ps).length=ps.length:=by rw [ZM,Yb]
    have hqd:=ZbU ps
    have hqt:=Zck ps
    have hqr:Q (.tup [.str (Zaq k),.tup ((arr k (plnL ps)).map Wr.toU)]) A:=by rw [Wr.pl,Wr.toU_many] at q;exact q
    generalize plnL ps=qs at hqg hql hqd hqt hqr ⊢
    have e0:=Ext.new (o:=.lst (qs.map Wr.toU)) hl
    have a0:updA A l (.lst (qs.map Wr.toU)) l=some (.lst (qs.map Wr.toU)):=Zd
    have hC0:Cl t_qj (updA A l (.lst (qs.map Wr.toU))):=e0 _ _ hC
    generalize updA A l (.lst (qs.map Wr.toU))=A0 at e0 a0 hC0 ⊢
    have hko:=Zey qs hqg
    have hkd:depL qs<=95:=by have:=ZfP qs;lia
    refine ⟨tup2,rfl,rfl,?_⟩
    by_cases k12:k=1\/k=2
    ·refine iteTt (by rcases k12 with h | h;all_goals (subst h;decide +kernel)) ?_
     refine ⟨l,qs.map Wr.toU,byW qs Wr.keyU .non,byW qs Wr.keyD .none,rfl,a0,by rw [Yb];lia,?_,?_,?_,?_,fun D hD=>?_⟩
     ·rw [Zd4 hqg,Zd4 hqg];exact ZjN qs
     ·rw [Zd4 hqg]
      refine ⟨fun d hd'=>?_,fun d hd' e he=>?_⟩
      ·obtain ⟨w,hw,rfl⟩:=Yk.mp hd'
       have:=ZaM hw
       have h2:=w.deepK
       exact ⟨w.canK (ZfE hko hw),by lia⟩
      ·obtain ⟨w,hw,rfl⟩:=Yk.mp hd'
       obtain ⟨v,hv,rfl⟩:=Yk.mp he
       exact w.okK v
     ·intro u hu
      obtain ⟨w,hw,rfl⟩:=Yk.mp hu
      rw [Ziq hqg hw]
      obtain ⟨r,e⟩:=w.keyD_head
      rw [e];rfl
     ·intro u hu
      obtain ⟨w,hw,rfl⟩:=Yk.mp hu
      rw [Ziq hqg hw]
      have:=ZaM hw
      have:=Zaw hw
      exact ⟨w,rfl,by lia,by lia,rfl,Ext.refl _⟩
     ·rw [Zd4 hqg,(Zh1 (d:=Wr.nothing) true Wr.toU).2 (fun x _=>x.plainK) fun x _ y _=>x.okK y]
      have ea:srtK Wr.keyD Wr.nothing true qs=arr k qs:=by unfold arr;rw [if_pos k12]
      rw [ea]
      refine ZB (by rcases k12 with h | h;all_goals (subst h;decide +kernel)) ?_
      exact ZB rfl ⟨_,Zd,tup2,fgx (e0.trans (Ext.new hD)) hqr⟩
    ·refine ZB (by obtain h | h:k=0\/k=3:=(by lia);all_goals (subst h;decide +kernel)) ?_
     by_cases k0:k=0
     ·subst k0
      refine ZB (by decide +kernel) (ZB rfl ?_)
      exact ⟨_,a0,tup2,fgx e0 hqr⟩
     ·obtain rfl:k=3:=by lia
      have ea:arr 3 qs=Za5 Wr.keyD qs:=by unfold arr;rw [if_neg (by lia),if_neg (by lia)]
      refine iteTt (by decide +kernel) ⟨_,a0,?_⟩
      rw [Yb]
      by_cases h1:1 < qs.length
      ·refine iteTt (YaA (by lia)) ⟨_,a0,?_⟩
       rw [Yb,Int.toNat_natCast]
       refine ⟨by lia,by lia,fun l1 hl1=>?_⟩
       refine Ziw a0 hl1 (by lia) fun ads A2 hal hnd e2 a2 hat=>?_
       refine ⟨l1,ads.map U.ref,klT qs ads,dlT qs ads,rfl,e2 _ _ hC0,a2,by rw [Yb];lia,?_,?_,?_,?_⟩
       ·intro u hu A'
        obtain ⟨a,_,rfl⟩:=Yk.mp hu
        exact ZjN _
       ·refine ⟨fun d hd'=>?_,fun d hd' e he=>?_⟩
        ·obtain ⟨u,hu,rfl⟩:=Yk.mp hd'
         obtain ⟨a,_,rfl⟩:=Yk.mp hu
         exact kd_ok (ZfZ _ hko) (Zed _ hkd)
        ·obtain ⟨u,hu,rfl⟩:=Yk.mp hd'
         obtain ⟨a,_,rfl⟩:=Yk.mp hu
         obtain ⟨u',hu',rfl⟩:=Yk.mp he
         obtain ⟨a',_,rfl⟩:=Yk.mp hu'
         exact kd_lt _ _
       ·intro u hu A1 he
        obtain ⟨a,ha,rfl⟩:=Yk.mp hu
        obtain ⟨i,hi⟩:=YaE.mp ha
        have hA1:=he _ _ (hat i a hi)
        have ix:klT qs ads (.ref a)=(turnL qs i).map Wr.keyU:=by show (turnL qs (ads.idxOf a)).map Wr.keyU=_;rw [Zgb hnd hi]
        rw [ix]
        walk_at "qs"
        walk_at "qd"
        refine ⟨⟨_,hA1⟩,fun z hz=>?_⟩
        walk_at "qc"
        refine Zbn (turnL qs i) Wr.toU Wr.keyU hz (by rw [Z6];lia) (fun k A2 _ he=>⟨_,he _ _ hA1,rfl⟩) (fun x A2 hx he Cy hc=>?_) ⟨z,rfl,hz,Ext.refl _⟩
        walk_at "qd"
        have hx':=(ZN qs i).mem_iff.mp hx
        have:=ZaM hx'
        have:=Zaw hx'
        exact ⟨x,rfl,by lia,by lia,hc⟩
       ·intro u hu
        have eb:argBest (ltL (dlT qs ads) (ads.map U.ref)) ((ads.map U.ref).length - 1)=bestT Wr.keyD qs:=by
         rw [Yb,hal]
         refine ZdM _ fun i j hi hj=>?_
         have hi':(ads.map U.ref)[i]? = some (.ref ads[i]):=by rw [Yr,Ye (by lia)];rfl
         have hj':(ads.map U.ref)[j]? = some (.ref ads[j]):=by rw [Yr,Ye (by lia)];rfl
         rw [ltL_at hi' hj']
         show ltv (.list ((turnL qs (ads.idxOf ads[i])).map Wr.keyD)) (.list ((turnL qs (ads.idxOf ads[j])).map Wr.keyD))=_
         rw [Zgb hnd (Ye (by lia)),Zgb hnd (Ye (by lia))]
         rfl
        rw [eb,Yr] at hu
        obtain ⟨a,ha,rfl⟩:=Yak.mp hu
        refine ⟨_,hat _ a ha,tup2,fgx (e0.trans e2) ?_⟩
        rw [ea] at hqr
        exact hqr
      ·refine ZB (YZ (by lia)) ?_
       refine ⟨_,a0,tup2,fgx e0 ?_⟩
       have:Za5 Wr.keyD qs=qs:=by
        unfold Za5 bestT
        rw [show qs.length - 1=0 by lia]
        show qs.drop 0++qs.take 0=qs
        simp
       rw [ea,this] at hqr
       exact hqr
  ·rw [Wr.toU_few hf]
   walk_at "qd"
   rcases few_nlp hf with rfl | hn
   ·simp only [Wr.name]
    exact ⟨tup2,rfl,rfl,iteTt (by decide +kernel) (fg q)⟩
   ·refine ⟨tup2,rfl,rfl,ZB hn.1 ⟨tup3,rfl,rfl,iteTt hn.2 ⟨tup1,fun l hl=>?_⟩⟩⟩
    walk_at "qc"
    refine Zbn w.parts Wr.toU (fun w=>w.pl.toU) hl (by lia) (fun _ _ _ _=>rfl) (fun x A2 hx he Cy hc=>?_) ?_
    ·walk_at "qd"
     have:=ZaM hx
     have:=Zaw hx
     exact ⟨x,rfl,ZaW (w.gd_parts hg).1 hx,by lia,by lia,he _ _ hC,hc⟩
    ·walk_at "qd"
     obtain ⟨f1,f2,f3⟩:=Wr.pl_few hf
     rw [Wr.toU_few f1,f2,f3,YO] at q
     exact ⟨_,Zd,Zr (by rw [Yb];simp only [List.length_cons,List.length_nil];lia),fgx (Ext.new hl) q⟩
end
theorem strOk_mk {c:Str} {k:Nat} (h:PyData.strOk c=true) (hk:k < 10):PyData.strOk (mkS c k)=true:=by
 refine ZbN h ?_
 have:k=0\/k=1\/k=2\/k=3\/k=4\/k=5\/k=6\/k=7\/k=8\/k=9:=by lia
 rcases this with h | h | h | h | h | h | h | h | h | h <;> subst h <;> decide +kernel
mutual
theorem ZcU:∀ (w:Wr) (o:List Nat),w.gd=true->(∀ k∈o,k < 10)->(w.mk o).gd=true
 | .nothing,_,_,_=>rfl
 | .bead c,o,h,hk=>by
  simp only [Wr.gd] at h
  simp only [Wr.mk,Wr.gd]
  refine strOk_mk h ?_
  cases o with
  | nil=>decide
  | cons a b=>exact hk a YG
 | .side b f,o,h,hk=>by simp only [Wr.gd] at h;simp only [Wr.mk,Wr.gd];exact ZcU f _ h hk
 | .pair f g,o,h,hk=>by
  simp only [Wr.gd,Yc] at h
  simp only [Wr.mk,Wr.gd,Yc]
  exact ⟨ZcU f _ h.1 fun k hm=>hk k (List.mem_of_mem_take hm),ZcU g _ h.2 fun k hm=>hk k (List.mem_of_mem_drop hm)⟩
 | .many k ps,o,h,hk=>by
  simp only [Wr.gd,Yc,YC] at h
  simp only [Wr.mk,Wr.gd,Yc,YC]
  exact ⟨⟨h.1.1,by rw [Zel];exact h.1.2⟩,gd_mkL ps _ h.2 hk⟩
theorem gd_mkL:∀ (ws:List Wr) (o:List Nat),gdL ws=true->(∀ k∈o,k < 10)->gdL (mkL ws o)=true
 | [],_,_,_=>rfl
 | w :: ws,o,h,hk=>by
  simp only [gdL,Yc] at h
  simp only [mkL,gdL,Yc]
  exact ⟨ZcU w _ h.1 fun k hm=>hk k (List.mem_of_mem_take hm),gd_mkL ws _ h.2 fun k hm=>hk k (List.mem_of_mem_drop hm)⟩
end
mutual
theorem Zjh:∀ w:Wr,w.um.tups=w.tups/\w.um.dep=w.dep
 | .nothing=>⟨rfl,rfl⟩
 | .bead _=>⟨rfl,rfl⟩
 | .side _ f=>by have:=Zjh f;simp only [Wr.um,Wr.tups,Wr.dep,this.1,this.2];exact ⟨trivial,trivial⟩
 | .pair f g=>by have h1:=Zjh f;have h2:=Zjh g;simp only [Wr.um,Wr.tups,Wr.dep,h1.1,h1.2,h2.1,h2.2];exact ⟨trivial,trivial⟩
 | .many k ps=>by have:=umL_td ps;simp only [Wr.um,Wr.tups,Wr.dep,this.1,this.2];exact ⟨trivial,trivial⟩
theorem umL_td:∀ ws:List Wr,Zp (umL ws)=Zp ws/\depL (umL ws)=depL ws
 | []=>⟨rfl,rfl⟩
 | w::ws=>by have h1:=Zjh w;have h2:=umL_td ws;simp only [umL,Zp,depL,h1.1,h1.2,h2.1,h2.2];exact ⟨trivial,trivial⟩
end
theorem mk_td (w:Wr) (o:List Nat):(w.mk o).tups=w.tups/\(w.mk o).dep=w.dep:=by
 have:=Zjh (w.mk o)
 rw [w.um_mk] at this
 exact ⟨this.1.symm,this.2.symm⟩
theorem ZiK {n:Nat} {o:List Nat} (hn:n<=5) (h:o∈Zad (rvn n)):o.length=n/\∀ k∈o,k < 10:=by
 have p:=Zat h
 exact ⟨by rw [p.length_eq,ZbQ],fun k hk=>by have:=rvn_mem (p.mem_iff.mp hk);lia⟩
open Classical in
theorem seen_all {W:Wr} {ds:List Wr} (hW:W.gd=true) (hf:W.full) (hn:W.size<=5) (nd:ds.Nodup) (h1:∀ o∈Zad (rvn W.size),(W.mk o).pl∈ds) (h2:∀ d∈ds,∃ o∈Zad (rvn W.size),d=(W.mk o).pl):ds.length * W.pl.ways=fct W.size:=by
 have hL:(rvn W.size).Nodup:=by unfold rvn;exact (YaL _).nodup_iff.mpr List.nodup_range
 have e:=Zg4 (fun o=>(W.mk o).pl) W.pl.ways ds (Zad (rvn W.size)) nd h1 fun d hd=>by
  obtain ⟨o,ho,rfl⟩:=h2 d hd
  exact Zhg hW hL (ZbQ _) (fun o ho=>ZcU W o hW (ZiK hn ho).2) (fun o _=>Zci W o hf) ho
 rw [ZbL,ZbQ] at e
 exact e.symm
theorem br_at (j:Int):∃ k:Nat,k<=3/\atI [U.str (Str.ofString "bag"),.str (Str.ofString "ring")] (j % 2)=some (.str (Zaq k)):=by
 have h:j % 2=0\/j % 2=1:=by lia
 rcases h with h | h <;> rw [h]
 ·exact ⟨1,by decide,Zau (j:=0) rfl⟩
 ·exact ⟨3,by decide,Zau (j:=1) rfl⟩
section
include T
theorem ok_qt (hBA_q6:base.BuiltinsAt mg t_q6) (hBA_qj:base.BuiltinsAt mg t_qj):FnOk P w K mg base CX0 200 f_qt d_qt ["_law_script"] (spOf K (Zc2 [(t_q6,Zfu,"plain_by.<locals>.<lambda>"),(t_qj,ZgT,"_law_plain.<locals>.<lambda>")])):=by
 have G_qs:=ok_mix (P:=P) (w:=w) (base:=base) T
 have G_qp:=ok_cell (P:=P) (w:=w) (base:=base) T
 have G_qg:=ok_names (P:=P) (w:=w) (base:=base) T
 have G_ql:=ok_five (P:=P) (w:=w) (base:=base) T
 have G_qo:=Zd6 (P:=P) (w:=w) (base:=base) T 95
 have G_q8:=ZjQ (P:=P) (w:=w) (base:=base) T
 have G_q9:=ok_mark (P:=P) (w:=w) (base:=base) T 95
 have G_q7:=ok_shk (P:=P) (w:=w) (base:=base) T 95
 have G_qj:=ok_lpl (P:=P) (w:=w) (base:=base) T hBA_qj 95
 have G_qi:=ok_right (P:=P) (w:=w) (base:=base) T
 have G_qu:=ok_qu (P:=P) (w:=w) (base:=base) T hBA_q6
 have G_qc:=ok_nam (P:=P) (w:=w) (base:=base) T hBA_q6
 refine' Fun.okA T.F_qt (sc:=?sc31) (body:=?bd31) ?hs31 ?hb31 sc_qt ?hB31 ?hS31
 case hs31=>conv=>lhs;whnf
 case hb31=>conv=>lhs;whnf
 case hB31=>exact fun S cdv A outer s H E hr=>⟨_,(Zg (Zz (i:=0) S.nd rfl (Or.inl rfl) (Zu (G_qs.mono (by first | decide | lia)) hr (by rfl) T.M_qs T.F_qs.kp T.B_qs .nil Z7 (Za (pv 0) Ze)))
   (Zg (Zz (i:=1) S.nd rfl (Or.inl rfl) (Zu (G_qg.mono (by first | decide | lia)) hr (by rfl) T.M_qg T.F_qg.kp T.B_qg .nil Z7 (Za (Zu (G_qp.mono (by first | decide | lia)) hr (by rfl) T.M_qp T.F_qp.kp T.B_qp .nil Z7 (Za (pv 0) (Za Zh Ze))) (Za Zh Ze))))
   (Zg (Zz (i:=2) S.nd rfl (Or.inl rfl) (Zu (G_ql.mono (by first | decide | lia)) hr (by rfl) T.M_ql T.F_ql.kp T.B_ql .nil Z7 (Za (ZK Za3 (pv 0) (ZO Zh) (ZO Zh)) (Za (pv 1) (Za (ZR o_ix (ZaD (Za ZS (Za ZS Ze))) (ZL ZbG (Zu (G_qp.mono (by first | decide | lia)) hr (by rfl) T.M_qp T.F_qp.kp T.B_qp .nil Z7 (Za (pv 0) (Za Zh Ze))) Zh) (fun _ _=>rfl)) Ze)))))
   (Zg (Zz (i:=3) S.nd rfl (Or.inl rfl) (Zu (G_q7.mono (by first | decide | lia)) hr (by rfl) T.M_q7 T.F_q7.kp T.B_q7 .nil Z7 (Za (pv 2) (Za (Zaj c_list (by rfl) T.n_list (by decide +kernel) (Za (ZK Za3 (pv 0) (ZO Zh) (ZO Zh)) Ze)) Ze))))
   (Zg (Zz (i:=4) S.nd rfl (Or.inl rfl) (Zu (G_q8.mono (by first | decide | lia)) hr (by rfl) T.M_q8 T.F_q8.kp T.B_q8 .nil Z7 (Za (Zu (G_qo.mono (by first | decide | lia)) hr (by rfl) T.M_qo T.F_qo.kp T.B_qo .nil Z7 (Za (pv 2) Ze)) Ze)))
   (Zg (Zz (i:=5) S.nd rfl (Or.inl rfl) (ZaD Ze))
   (Zg (Zbz Y2 rfl (ZaH (pv 4)) (ZH (i:=6) S.nd rfl (Or.inl rfl))
   (Zg (Zz (i:=7) S.nd rfl (Or.inl rfl) (Zu (G_qj.mono (by first | decide | lia)) hr (by rfl) T.M_qj T.F_qj.kp T.B_qj .nil Z7 (Za (Zu (G_q9.mono (by first | decide | lia)) hr (by rfl) T.M_q9 T.F_q9.kp T.B_q9 .nil Z7 (Za (pv 2) (Za (Zaj c_list (by rfl) T.n_list (by decide +kernel) (Za (pv 6) Ze)) Ze))) Ze)))
   (Zl (Zar (Zs (o_ninD hr) (pv 7) (pv 5) (by with_unfolding_all rfl)) (Zl (ZcE (Zdy YY Yax Yay ZbB (pv 5) (Za (pv 7) Ze)))) ZG))))
   (Zg (Zar ((pw_or (pt_not (pt_val (Zu (G_qi.mono (by first | decide | lia)) hr (by rfl) T.M_qi T.F_qi.kp T.B_qi .nil Z7 (Za (Zu (G_qc.mono (by first | decide | lia)) hr (by rfl) T.M_qc T.F_qc.kp T.B_qc .nil Z7 (Za (pv 2) Ze)) (Za (Zw Zbe (by rfl) T.n_len (by decide +kernel) (Za (pv 5) Ze)) Ze))))) (pw_or1 (pt_not (pt_val (Zu (G_qi.mono (by first | decide | lia)) hr (by rfl) T.M_qi T.F_qi.kp T.B_qi .nil Z7 (Za (Zu (G_qc.mono (by first | decide | lia)) hr (by rfl) T.M_qc T.F_qc.kp T.B_qc .nil Z7 (Za (pv 3) Ze)) (Za (Zw Zbe (by rfl) T.n_len (by decide +kernel) (Za (pv 5) Ze)) Ze)))))))).pt (Zl (ZE pe_bl)) ZG)
   (Zl (ZE (Zir (Zf1 (Zbf hr) (ZL Zdl (Zu (G_qu.mono (by first | decide | lia)) hr (by rfl) T.M_qu T.F_qu.kp T.B_qu .nil Z7 (Za (pv 2) Ze)) (Zw Zbe (by rfl) T.n_len (by decide +kernel) (Za (pv 5) Ze))) (Zw Zbe (by rfl) T.n_len (by decide +kernel) (Za (pv 4) Ze)) (Z2 _)) (pe_one (Zf1 (Zbf hr) (Zu (G_qu.mono (by first | decide | lia)) hr (by rfl) T.M_qu T.F_qu.kp T.B_qu .nil Z7 (Za (pv 3) Ze)) (Zu (G_qu.mono (by first | decide | lia)) hr (by rfl) T.M_qu T.F_qu.kp T.B_qu .nil Z7 (Za (pv 2) Ze)) (Z2 _)))))))))))))),(Zn (Zx (Zv (Zc Zb Zf)) Zj)
   (Zn (Zx (Zv (Zc (Zv (Zc Zb (Zc Zi Zf))) (Zc Zi Zf))) Zj)
   (Zn (Zx (Zv (Zc (ZaV Zah Zb (ZP Zi) (ZP Zi)) (Zc Zb (Zc (Zk ZQ (ZaC (Zc ZT (Zc ZT Zf))) (Zk Za4 (Zv (Zc Zb (Zc Zi Zf))) Zi)) Zf)))) Zj)
   (Zn (Zx (Zv (Zc Zb (Zc (Z4 Zfe (Zc (ZaV Zah Zb (ZP Zi) (ZP Zi)) Zf)) Zf))) Zj)
   (Zn (Zx (Zv (Zc (Zv (Zc Zb Zf)) Zf)) Zj)
   (Zn (Zx (ZaC Zf) Zj)
   (Zn (Zbt (ZaI Zab Zb) Zj
   (Zn (Zx (Zv (Zc (Zv (Zc Zb (Zc (Z4 Zfe (Zc Zb Zf)) Zf))) Zf)) Zj)
   (ZZ (Zt (Zk ab_inDg Zb Zb)) (Zcr (Zei Za9 Zdb Zb (Zc Zb Zf))) ZF)))
   (Zn (ZZ (ab_or (ab_not (ab_tb (Zv (Zc (Zv (Zc Zb Zf)) (Zc (Z4 ZaE (Zc Zb Zf)) Zf))))) (ab_not (ab_tb (Zv (Zc (Zv (Zc Zb Zf)) (Zc (Z4 ZaE (Zc Zb Zf)) Zf)))))) (ZD ab_bl) ZF)
   (ZD (ZfR (Zk Zbg (Zk Zde (Zv (Zc Zb Zf)) (Z4 ZaE (Zc Zb Zf))) (Z4 ZaE (Zc Zb Zf))) (Zk Zbg (Zv (Zc Zb Zf)) (Zv (Zc Zb Zf)))))))))))))⟩
 rintro us A Q ⟨ns,rfl,hl,hts,q⟩
 have hC1:Cp t_q6 A:=hts (t_q6,Zfu,"plain_by.<locals>.<lambda>") (.head _)
 have hC2:Cl t_qj A:=hts (t_qj,ZgT,"_law_plain.<locals>.<lambda>") (.tail _ (.head _))
 refine ⟨rfl,?_⟩
 walk_at "qs"
 walk_at "qd"
 refine ⟨ns,rfl,hl,fun l ms hl0 hml=>?_⟩
 walk_at "qd"
 have e0:=Ext.new (o:=.lst (ms.map U.int)) hl0
 have a0:updA A l (.lst (ms.map U.int)) l=some (.lst (ms.map U.int)):=Zd
 generalize updA A l (.lst (ms.map U.int))=A0 at e0 a0 ⊢
 refine ⟨l,ms,0,rfl,a0,by decide,fun z0=>⟨z0,rfl,fun c ss hc0 hs3 hso=>?_⟩⟩
 replace e0:=e0.trans (Ext.new (o:=.lst (ss.map U.str)) hc0)
 replace a0:=Ext.new (o:=.lst (ss.map U.str)) hc0 _ _ a0
 have ac:updA A0 c (.lst (ss.map U.str)) c=some (.lst (ss.map U.str)):=Zd
 generalize updA A0 c (.lst (ss.map U.str))=A1 at e0 a0 ac ⊢
 walk_at "qd"
 refine ⟨_,a0,fun p2 hp2=>?_⟩
 obtain ⟨zs,ez,hz⟩:=cut_int ms 2 32
 have ez:cutU (ms.map U.int) (some 2) (some 32)=zs.map U.int:=ez
 rw [ez]
 replace e0:=e0.trans (Ext.new (o:=.lst (zs.map U.int)) hp2)
 replace a0:=Ext.new (o:=.lst (zs.map U.int)) hp2 _ _ a0
 replace ac:=Ext.new (o:=.lst (zs.map U.int)) hp2 _ _ ac
 have a2:updA A1 p2 (.lst (zs.map U.int)) p2=some (.lst (zs.map U.int)):=Zd
 generalize updA A1 p2 (.lst (zs.map U.int))=A2 at e0 a0 ac a2 ⊢
 refine ⟨tup2,fun p3 hp3=>?_⟩
 have e3:=Ext.new (o:=.lst [U.str (Str.ofString "bag"),.str (Str.ofString "ring")]) hp3
 refine ⟨l,ms,1,rfl,e3 _ _ a0,by decide,fun z1=>?_⟩
 obtain ⟨k,hk,hka⟩:=br_at z1
 walk_at "qd"
 refine ⟨by decide,_,_,Zd,hka,?_⟩
 replace e0:=e0.trans e3
 replace a0:=e3 _ _ a0
 replace ac:=e3 _ _ ac
 replace a2:=e3 _ _ a2
 generalize updA A2 p3 (.lst [U.str (Str.ofString "bag"),.str (Str.ofString "ring")])=A3 at e0 a0 ac a2 ⊢
 refine ⟨p2,c,zs,ss,k,rfl,hk,a2,by lia,ac,hs3,hso,fun ws A4 e4 hg0 ht0 hf0 hs0 hz0=>?_⟩
 replace e0:=e0.trans e4
 replace a0:=e4 _ _ a0
 have hd0:=(Wr.many k ws).dep_le
 generalize Wr.many k ws=W at hg0 ht0 hd0 hf0 hs0 hz0 ⊢
 walk_at "qd"
 refine ⟨_,a0,fun p6 hp6=>⟨_,Zd,fun p7 hp7=>?_⟩⟩
 rw [cutU_map] at hp7 ⊢
 have e6:=Ext.new (o:=.lst ((cutL ms (some 2) (some 62)).map U.int)) hp6
 generalize cutL ms (some 2) (some 62)=ds at e6 hp7 ⊢
 replace e0:=e0.trans e6
 generalize updA A4 p6 (.lst (ds.map U.int))=A5 at e0 hp7 ⊢
 have hA7:A p7=none:=e0.none hp7
 refine ⟨W,p7,ds,rfl,Zd,hg0,by lia,ht0,fun v ms' Lv=>?_⟩
 have eB:Ext A (updA (updA A5 p7 (.lst (ds.map U.int))) p7 (.lst (ms'.map U.int))):=fun b o hb=>by rw [ZaJ,Zm (neA hb hA7)];exact e0 _ _ hb
 generalize updA (updA A5 p7 (.lst (ds.map U.int))) p7 (.lst (ms'.map U.int))=A6 at eB ⊢
 refine ⟨W,rfl,by lia,by lia,W.size,rfl,hz0,fun lo ads A7 e7 b1 O=>?_⟩
 replace eB:=eB.trans e7
 walk_at "qd"
 refine ⟨by decide,fun ls hls=>?_⟩
 have nos:lo≠ls:=neA b1 hls
 have hlsA:A ls=none:=eB.none hls
 have e8:=Ext.new (o:=.lst []) hls
 have c1:(updA A7 ls (.lst [])) ls=some (.lst []):=Zd
 generalize updA A7 ls (.lst [])=A8 at e8 c1 ⊢
 walk_at "qd"
 refine ⟨⟨_,e8 _ _ b1⟩,Zeq (ads.map U.ref) (fun i ρ A9=>Ext A7 A9/\∃ (ts:List Wr) (r6 r7:Option U),ρ=[some (.ref l),some (.ref c),some W.toU,some v.toU,some (.ref lo),some (.ref ls),r6,r7]/\A9 ls=some (.lst (ts.map Wr.toU))/\ts.Nodup/\ts.length<=i/\(∀ o∈(Zad (rvn W.size)).take i,(W.mk o).pl∈ts)/\∀ d∈ts,∃ o∈Zad (rvn W.size),d=(W.mk o).pl)
  ⟨e8,[],_,_,rfl,c1,List.nodup_nil,Yg _,fun o ho=>by simp at ho,fun d hd=>by cases hd⟩ (fun i ρ A9 _ h=>h.1 _ _ b1) (fun i u ρ A9 hu h=>?_) (fun ρ A9 h=>?_)⟩
 ·obtain ⟨e9,ts,r6,r7,rfl,d1,nd,tl,h1,h2⟩:=h
  obtain ⟨a,ha,rfl⟩:=Zai hu
  obtain ⟨o,ho,hao⟩:=O.2 i a ha
  have hom:=Yn ho
  obtain ⟨hol,hok⟩:=ZiK hz0 hom
  have hil:i < 120:=by
   have:=(Yp.mp ho).1
   rw [ZbL,ZbQ] at this
   have:fct W.size<=120:=Zcj hz0
   lia
  walk_at "qd"
  refine ⟨_,e9 _ _ hao,fun p9 hp9=>?_⟩
  have hp9A:A7 p9=none:=e9.none hp9
  have hgm:=ZcU W o hg0 hok
  obtain ⟨tm,dm⟩:=mk_td W o
  refine ⟨W,p9,o,rfl,Zd,hg0,by lia,ht0,by lia,hok,hs0,?_⟩
  have eto:o.take W.size=o:=Yal (by lia)
  rw [eto,ZaJ]
  have n9s:ls≠p9:=neA d1 hp9
  have e10:=e9.trans (Ext.new (o:=.lst (nI (o.drop W.size))) hp9)
  have d2:=Ext.new (o:=.lst (nI (o.drop W.size))) hp9 _ _ d1
  generalize updA A9 p9 (.lst (nI (o.drop W.size)))=A10 at e10 d2 ⊢
  refine ⟨W.mk o,rfl,hgm,by lia,by lia,(eB.trans e10) _ _ hC2,?_⟩
  have hgp:=(W.mk o).pl_gd hgm
  have gts:∀ d∈ts,d.gd=true/\d.dep<=95:=fun d hd=>by
   obtain ⟨o2,ho2,rfl⟩:=h2 d hd
   have g2:=ZcU W o2 hg0 (ZiK hz0 ho2).2
   have:=mk_td W o2
   exact ⟨(W.mk o2).pl_gd g2,by rw [(W.mk o2).pl_dep];lia⟩
  have step:∀ ts':List Wr,(∀ d∈ts,d∈ts')->(W.mk o).pl∈ts'->∀ o'∈(Zad (rvn W.size)).take (i + 1),(W.mk o').pl∈ts':=fun ts' g1 g2 o' ho'=>by
   rw [YbE,ho] at ho'
   rcases YK.mp ho' with h | h
   ·exact g1 _ (h1 o' h)
   ·rw [show o'=o by simpa using h];exact g2
  walk_at "qd"
  by_cases hin:(W.mk o).pl∈ts
  ·refine inW d2 (fun d hd=>(gts d hd).1) (fun d hd=>(gts d hd).2) hgp true ⟨fun _=>hin,fun _=>rfl⟩ ⟨_,rfl,ZB rfl ?_⟩
   exact ⟨e10,ts,_,_,rfl,d2,nd,by lia,step ts (fun d hd=>hd) hin,h2⟩
  ·refine inW d2 (fun d hd=>(gts d hd).1) (fun d hd=>(gts d hd).2) hgp false ⟨fun h=>(by cases h),fun h=>absurd h hin⟩ ⟨_,rfl,iteTt rfl ?_⟩
   refine ⟨⟨_,d2⟩,_,d2,Zbc (by rw [Yb];lia),fun b x hb=>by rw [Zm (neA hb hls)];exact e10 _ _ hb,ts++[(W.mk o).pl],_,_,rfl,by rw [Zd,Ym];rfl,?_,by rw [Yh,List.length_singleton];lia,step _ (fun d hd=>Yau _ hd) (by simp),fun d hd=>?_⟩
   ·rw [List.nodup_append]
    exact ⟨nd,by simp,fun a ha b hb=>by rw [Yv.mp hb];exact fun e=>hin (by rw [<- e];exact ha)⟩
   ·rcases YK.mp hd with h | h
    ·exact h2 d h
    ·exact ⟨o,hom,Yv.mp h⟩
 ·obtain ⟨e9,ts,r6,r7,rfl,d1,nd,tl,h1,h2⟩:=h
  rw [Yb,O.1,Yat] at h1
  have hD:=seen_all hg0 hf0 hz0 nd h1 h2
  have hDv:ts.length * v.pl.ways=fct v.size:=by rw [Lv.pl,Lv.size];exact hD
  have htv:v.tups<=95:=by rw [Lv.tups];exact ht0
  have hsv:v.size<=10:=by rw [Lv.size];lia
  have hC3:Cp t_q6 A9:=(eB.trans e9) _ _ hC1
  have f120:fct W.size<=120:=Zcj hz0
  have hadl:ads.length=fct W.size:=by rw [O.1,ZbL,ZbQ]
  walk_at "qd"
  refine ⟨W,ts.length,rfl,hg0,ht0,by lia,hD,hC3,_,d1,?_⟩
  rw [Yb]
  refine ⟨_,rfl,_,rfl,ZB rfl ⟨v,ts.length,rfl,Lv.gd,htv,hsv,hDv,hC3,_,d1,?_⟩⟩
  rw [Yb]
  refine ⟨_,rfl,_,rfl,ZB rfl ⟨W,rfl,hg0,ht0,hC3,_,d1,?_⟩⟩
  rw [Yb]
  walk_at "qd"
  have hle:W.pl.ways<=2 ^ 1200:=ZdJ (W.pl_gd hg0) (by rw [W.pl_tups];lia)
  have hlt:ts.length<=2 ^ 1200:=by
   rw [Yb] at tl
   exact YE (show ts.length<=120 by lia) (by decide +kernel)
  refine ⟨ZcS hle hlt,_,e9 _ _ b1,?_⟩
  rw [Yb,hadl,<- Int.natCast_mul,Nat.mul_comm,hD]
  walk_at "qd"
  refine iteTt rfl ⟨v,rfl,Lv.gd,htv,hC3,W,rfl,hg0,ht0,hC3,?_⟩
  rw [Lv.pl]
  walk_at "qd"
  exact fg (q _)
end
noncomputable abbrev tabs:Tabs:=[(65,Zfu,"plain_by.<locals>.<lambda>"),(163,ZgT,"_law_plain.<locals>.<lambda>")]
structure FQ (K:YFr) (n:Str) (f c:Nat) (s:Stmt) (m:Str) (t:Nat):Prop where
 a:PySem.W.nsIn K mainGlobals n=some (some (.ref f))
 l:K.lookup f=some ⟨.type "function",none,.func (PySem.W.fnOf n n (L2.defArgs s) (L2.defBody s) (L2.defScope s) .none .none .none (.str m t) none (.ref c) .none),#[]⟩
 x:PySem.W.codeIn K (.ref c) n=true
 k:PySem.W.keepIn K (.ref f)=true
theorem ff (K:YFr) (n:Str) (f c:Nat) (s:Stmt) (m:Str) (t:Nat) (h:(PySem.W.nsIn K mainGlobals n,K.lookup f,PySem.W.codeIn K (.ref c) n,PySem.W.keepIn K (.ref f))=(some (some (.ref f)),some ⟨.type "function",none,.func (PySem.W.fnOf n n (L2.defArgs s) (L2.defBody s) (L2.defScope s) .none .none .none (.str m t) none (.ref c) .none),#[]⟩,true,true)):FQ K n f c s m t:=by
 simp only [Prod.mk.injEq] at h
 exact ⟨h.1,h.2.1,h.2.2.1,h.2.2.2⟩
theorem all_mk {l:PySem.W.OpenLaw} {w:World} {K:YFr} {h:Heap} {mg:Str->Option Value} {fa:Addr} {f_qa f_qd f_qk f_q3 f_qe f_qf f_qn f_q6 f_q4 f_qu f_qc f_q2 f_q0 f_q1 f_q5 f_qp f_qq f_qg f_qh f_qb f_qm f_qo f_qr f_qj f_q7 f_q8 f_q9 f_ql f_qi f_qs f_qt:Addr} {c_q6 c_qj:Addr} {a_KINDS:Addr} {oc_KINDS:Value} {od_KINDS:Option Addr} {is_KINDS:Array Value} {sn_KINDS:Nat} {sl_KINDS:Array (Option Value)} {a_MANY:Addr} {oc_MANY:Value} {od_MANY:Option Addr} {is_MANY:Array Value} {sn_MANY:Nat} {sl_MANY:Array (Option Value)} {c_qa c_qd c_qk c_q3 c_qe c_qf c_qn c_q4 c_qu c_qc c_q2 c_q0 c_q1 c_q5 c_qp c_qq c_qg c_qh c_qb c_qm c_qo c_qr c_q7 c_q8 c_q9 c_ql c_qi c_qs c_qt:Nat} {m_qa m_qd m_qk m_q3 m_qe m_qf m_qn m_q6 m_q4 m_qu m_qc m_q2 m_q0 m_q1 m_q5 m_qp m_qq m_qg m_qh m_qb m_qm m_qo m_qr m_qj m_q7 m_q8 m_q9 m_ql m_qi m_qs m_qt:Str} {t_qa t_qd t_qk t_q3 t_qe t_qf t_qn t_q6 t_q4 t_qu t_qc t_q2 t_q0 t_q1 t_q5 t_qp t_qq t_qg t_qh t_qb t_qm t_qo t_qr t_qj t_q7 t_q8 t_q9 t_ql t_qi t_qs t_qt:Nat} (X:K.In h) (G:h.Ns mainGlobals mg) (hfa:mg "law"=some (.ref fa))
  (p_qa:FQ K "parts_of" f_qa c_qa s_qa m_qa t_qa)
  (p_qd:FQ K "made_of" f_qd c_qd s_qd m_qd t_qd)
  (p_qk:FQ K "folded" f_qk c_qk s_qk m_qk t_qk)
  (p_q3:FQ K "folded_over" f_q3 c_q3 s_q3 m_q3 t_q3)
  (p_qe:FQ K "size_of" f_qe c_qe s_qe m_qe t_qe)
  (p_qf:FQ K "size_by" f_qf c_qf s_qf m_qf t_qf)
  (p_qn:FQ K "key_by" f_qn c_qn s_qn m_qn t_qn)
  (p_q6:FQ K "plain_by" f_q6 c_q6 s_q6 m_q6 t_q6)
  (h_q6:PySem.W.codeHdIn K c_q6 65=true)
  (p_q4:FQ K "least_start" f_q4 c_q4 s_q4 m_q4 t_q4)
  (p_qu:FQ K "own" f_qu c_qu s_qu m_qu t_qu)
  (p_qc:FQ K "namings" f_qc c_qc s_qc m_qc t_qc)
  (p_q2:FQ K "own_with_plain" f_q2 c_q2 s_q2 m_q2 t_q2)
  (p_q0:FQ K "pourings_to_itself" f_q0 c_q0 s_q0 m_q0 t_q0)
  (p_q1:FQ K "turns_to_itself" f_q1 c_q1 s_q1 m_q1 t_q1)
  (p_q5:FQ K "factorial" f_q5 c_q5 s_q5 m_q5 t_q5)
  (p_qp:FQ K "_law_cell" f_qp c_qp s_qp m_qp t_qp)
  (p_qq:FQ K "_law_next" f_qq c_qq s_qq m_qq t_qq)
  (p_qg:FQ K "_law_names" f_qg c_qg s_qg m_qg t_qg)
  (p_qh:FQ K "_law_group" f_qh c_qh s_qh m_qh t_qh)
  (p_qb:FQ K "_law_tuples" f_qb c_qb s_qb m_qb t_qb)
  (p_qm:FQ K "_law_deed" f_qm c_qm s_qm m_qm t_qm)
  (p_qo:FQ K "_law_size" f_qo c_qo s_qo m_qo t_qo)
  (p_qr:FQ K "_law_key" f_qr c_qr s_qr m_qr t_qr)
  (p_qj:FQ K "_law_plain" f_qj c_qj s_qj m_qj t_qj)
  (h_qj:PySem.W.codeHdIn K c_qj 163=true)
  (p_q7:FQ K "_law_shaken" f_q7 c_q7 s_q7 m_q7 t_q7)
  (p_q8:FQ K "_law_orders" f_q8 c_q8 s_q8 m_q8 t_q8)
  (p_q9:FQ K "_law_marked" f_q9 c_q9 s_q9 m_q9 t_q9)
  (p_ql:FQ K "_law_five" f_ql c_ql s_ql m_ql t_ql)
  (p_qi:FQ K "_law_right" f_qi c_qi s_qi m_qi t_qi)
  (p_qs:FQ K "_law_mix" f_qs c_qs s_qs m_qs t_qs)
  (p_qt:FQ K "law" f_qt c_qt s_qt m_qt t_qt)
  (n_all:PySem.W.nsIn K mainGlobals "all"=some none)
  (n_any:PySem.W.nsIn K mainGlobals "any"=some none)
  (n_bool:PySem.W.nsIn K mainGlobals "bool"=some none)
  (n_enumerate:PySem.W.nsIn K mainGlobals "enumerate"=some none)
  (n_int:PySem.W.nsIn K mainGlobals "int"=some none)
  (n_isinstance:PySem.W.nsIn K mainGlobals "isinstance"=some none)
  (n_len:PySem.W.nsIn K mainGlobals "len"=some none)
  (n_list:PySem.W.nsIn K mainGlobals "list"=some none)
  (n_max:PySem.W.nsIn K mainGlobals "max"=some none)
  (n_min:PySem.W.nsIn K mainGlobals "min"=some none)
  (n_range:PySem.W.nsIn K mainGlobals "range"=some none)
  (n_reversed:PySem.W.nsIn K mainGlobals "reversed"=some none)
  (n_sorted:PySem.W.nsIn K mainGlobals "sorted"=some none)
  (n_str:PySem.W.nsIn K mainGlobals "str"=some none)
  (n_sum:PySem.W.nsIn K mainGlobals "sum"=some none)
  (n_tuple:PySem.W.nsIn K mainGlobals "tuple"=some none)
  (n_zip:PySem.W.nsIn K mainGlobals "zip"=some none)
  (c_KINDS:PySem.W.nsIn K mainGlobals "KINDS"=some (some (.ref a_KINDS))) (o_KINDS:K.lookup a_KINDS=some ⟨oc_KINDS,od_KINDS,.seq is_KINDS sn_KINDS,sl_KINDS⟩) (t_KINDS:(oc_KINDS == .type "tuple")=true/\(od_KINDS == none)=true) (i_KINDS:is_KINDS.toList.map absV=[(.str "nothing":V),(.str "bead":V),(.str "left":V),(.str "right":V),(.str "pair":V),(.str "row":V),(.str "bag":V),(.str "choice":V),(.str "ring":V)].map some)
  (c_MANY:PySem.W.nsIn K mainGlobals "MANY"=some (some (.ref a_MANY))) (o_MANY:K.lookup a_MANY=some ⟨oc_MANY,od_MANY,.seq is_MANY sn_MANY,sl_MANY⟩) (t_MANY:(oc_MANY == .type "tuple")=true/\(od_MANY == none)=true) (i_MANY:is_MANY.toList.map absV=[(.str "row":V),(.str "bag":V),(.str "choice":V),(.str "ring":V)].map some) :
  ∃ fd:FuncData,(∀ (s:Shared) (v:Value),BindsTo s fd ⟨[v],[]⟩ [("_law_script",v)])/\∀ base:Heap,K.In base->base.Ns mainGlobals mg->(∀ t∈tabs,base.BuiltinsAt mg t.1)->FnOk l.prog w K mg base CX0 200 fa fd ["_law_script"] (spOf K (Zc2 tabs)):=by
 have e:=hfa.symm.trans (YB X G p_qt.a)
 cases e
 have F_qa:=Zag (st:=s_qa) p_qa.l p_qa.x p_qa.k
 have B_qa:=F_qa.binds (ps:=["writing"]) fun _ _ _ _ _ _=>by refine len1 ?_;intros;rfl
 have F_qd:=Zag (st:=s_qd) p_qd.l p_qd.x p_qd.k
 have B_qd:=F_qd.binds (ps:=["kind","parts"]) fun _ _ _ _ _ _=>by refine len2 ?_;intros;rfl
 have F_qk:=Zag (st:=s_qk) p_qk.l p_qk.x p_qk.k
 have B_qk:=F_qk.binds (ps:=["writing","deed"]) fun _ _ _ _ _ _=>by refine len2 ?_;intros;rfl
 have F_q3:=Zag (st:=s_q3) p_q3.l p_q3.x p_q3.k
 have B_q3:=F_q3.binds (ps:=["whole","parts","deed"]) fun _ _ _ _ _ _=>by refine len3 ?_;intros;rfl
 have F_qe:=Zag (st:=s_qe) p_qe.l p_qe.x p_qe.k
 have B_qe:=F_qe.binds (ps:=["figure"]) fun _ _ _ _ _ _=>by refine len1 ?_;intros;rfl
 have F_qf:=Zag (st:=s_qf) p_qf.l p_qf.x p_qf.k
 have B_qf:=F_qf.binds (ps:=["figure","sizes"]) fun _ _ _ _ _ _=>by refine len2 ?_;intros;rfl
 have F_qn:=Zag (st:=s_qn) p_qn.l p_qn.x p_qn.k
 have B_qn:=F_qn.binds (ps:=["figure","keys"]) fun _ _ _ _ _ _=>by refine len2 ?_;intros;rfl
 have F_q6:=Zag (st:=s_q6) p_q6.l p_q6.x p_q6.k
 have B_q6:=F_q6.binds (ps:=["writing","told"]) fun _ _ _ _ _ _=>by refine len2 ?_;intros;rfl
 have F_q4:=Zag (st:=s_q4) p_q4.l p_q4.x p_q4.k
 have B_q4:=F_q4.binds (ps:=["keys"]) fun _ _ _ _ _ _=>by refine len1 ?_;intros;rfl
 have F_qu:=Zag (st:=s_qu) p_qu.l p_qu.x p_qu.k
 have B_qu:=F_qu.binds (ps:=["writing"]) fun _ _ _ _ _ _=>by refine len1 ?_;intros;rfl
 have F_qc:=Zag (st:=s_qc) p_qc.l p_qc.x p_qc.k
 have B_qc:=F_qc.binds (ps:=["writing"]) fun _ _ _ _ _ _=>by refine len1 ?_;intros;rfl
 have F_q2:=Zag (st:=s_q2) p_q2.l p_q2.x p_q2.k
 have B_q2:=F_q2.binds (ps:=["writing","told"]) fun _ _ _ _ _ _=>by refine len2 ?_;intros;rfl
 have F_q0:=Zag (st:=s_q0) p_q0.l p_q0.x p_q0.k
 have B_q0:=F_q0.binds (ps:=["keys"]) fun _ _ _ _ _ _=>by refine len1 ?_;intros;rfl
 have F_q1:=Zag (st:=s_q1) p_q1.l p_q1.x p_q1.k
 have B_q1:=F_q1.binds (ps:=["keys"]) fun _ _ _ _ _ _=>by refine len1 ?_;intros;rfl
 have F_q5:=Zag (st:=s_q5) p_q5.l p_q5.x p_q5.k
 have B_q5:=F_q5.binds (ps:=["n"]) fun _ _ _ _ _ _=>by refine len1 ?_;intros;rfl
 have F_qp:=Zag (st:=s_qp) p_qp.l p_qp.x p_qp.k
 have B_qp:=F_qp.binds (ps:=["_law_script","_law_k"]) fun _ _ _ _ _ _=>by refine len2 ?_;intros;rfl
 have F_qq:=Zag (st:=s_qq) p_qq.l p_qq.x p_qq.k
 have B_qq:=F_qq.binds (ps:=["_law_cells"]) fun _ _ _ _ _ _=>by refine len1 ?_;intros;rfl
 have F_qg:=Zag (st:=s_qg) p_qg.l p_qg.x p_qg.k
 have B_qg:=F_qg.binds (ps:=["_law_cell_here","_law_many"]) fun _ _ _ _ _ _=>by refine len2 ?_;intros;rfl
 have F_qh:=Zag (st:=s_qh) p_qh.l p_qh.x p_qh.k
 have B_qh:=F_qh.binds (ps:=["_law_stack","_law_many","_law_word"]) fun _ _ _ _ _ _=>by refine len3 ?_;intros;rfl
 have F_qb:=Zag (st:=s_qb) p_qb.l p_qb.x p_qb.k
 have B_qb:=F_qb.binds (ps:=["_law_figure"]) fun _ _ _ _ _ _=>by refine len1 ?_;intros;rfl
 have F_qm:=Zag (st:=s_qm) p_qm.l p_qm.x p_qm.k
 have B_qm:=F_qm.binds (ps:=["_law_stack","_law_cell_here","_law_words","_law_most"]) fun _ _ _ _ _ _=>by refine len4 ?_;intros;rfl
 have F_qo:=Zag (st:=s_qo) p_qo.l p_qo.x p_qo.k
 have B_qo:=F_qo.binds (ps:=["_law_figure"]) fun _ _ _ _ _ _=>by refine len1 ?_;intros;rfl
 have F_qr:=Zag (st:=s_qr) p_qr.l p_qr.x p_qr.k
 have B_qr:=F_qr.binds (ps:=["_law_figure"]) fun _ _ _ _ _ _=>by refine len1 ?_;intros;rfl
 have F_qj:=Zag (st:=s_qj) p_qj.l p_qj.x p_qj.k
 have B_qj:=F_qj.binds (ps:=["_law_figure"]) fun _ _ _ _ _ _=>by refine len1 ?_;intros;rfl
 have F_q7:=Zag (st:=s_q7) p_q7.l p_q7.x p_q7.k
 have B_q7:=F_q7.binds (ps:=["_law_figure","_law_cells"]) fun _ _ _ _ _ _=>by refine len2 ?_;intros;rfl
 have F_q8:=Zag (st:=s_q8) p_q8.l p_q8.x p_q8.k
 have B_q8:=F_q8.binds (ps:=["_law_size_here"]) fun _ _ _ _ _ _=>by refine len1 ?_;intros;rfl
 have F_q9:=Zag (st:=s_q9) p_q9.l p_q9.x p_q9.k
 have B_q9:=F_q9.binds (ps:=["_law_figure","_law_order"]) fun _ _ _ _ _ _=>by refine len2 ?_;intros;rfl
 have F_ql:=Zag (st:=s_ql) p_ql.l p_ql.x p_ql.k
 have B_ql:=F_ql.binds (ps:=["_law_cells","_law_words","_law_word"]) fun _ _ _ _ _ _=>by refine len3 ?_;intros;rfl
 have F_qi:=Zag (st:=s_qi) p_qi.l p_qi.x p_qi.k
 have B_qi:=F_qi.binds (ps:=["_law_found","_law_due"]) fun _ _ _ _ _ _=>by refine len2 ?_;intros;rfl
 have F_qs:=Zag (st:=s_qs) p_qs.l p_qs.x p_qs.k
 have B_qs:=F_qs.binds (ps:=["_law_script"]) fun _ _ _ _ _ _=>by refine len1 ?_;intros;rfl
 have F_qt:=Zag (st:=s_qt) p_qt.l p_qt.x p_qt.k
 have B_qt:=F_qt.binds (ps:=["_law_script"]) fun _ _ _ _ _ _=>by refine len1 ?_;intros;rfl
 have T:TX K mg _ _ _ _ _ _ _ _ _ _ _ _ _ _ _ _ _ _ _ _ _ _ _ _ _ _ _ _ _ _ _ 65 _ 163 _ _ _ _ _ _ _ _ _ _ _ _ _ _ _ _ _ _ _ _ _ _ _ _ _ _ _ _ _ _ _ _ _ _:=⟨F_qa,B_qa,YB X G p_qa.a,F_qd,B_qd,YB X G p_qd.a,F_qk,B_qk,YB X G p_qk.a,F_q3,B_q3,YB X G p_q3.a,F_qe,B_qe,YB X G p_qe.a,F_qf,B_qf,YB X G p_qf.a,F_qn,B_qn,YB X G p_qn.a,F_q6,B_q6,YB X G p_q6.a,rfl,h_q6,(by decide),F_q4,B_q4,YB X G p_q4.a,F_qu,B_qu,YB X G p_qu.a,F_qc,B_qc,YB X G p_qc.a,F_q2,B_q2,YB X G p_q2.a,F_q0,B_q0,YB X G p_q0.a,F_q1,B_q1,YB X G p_q1.a,F_q5,B_q5,YB X G p_q5.a,F_qp,B_qp,YB X G p_qp.a,F_qq,B_qq,YB X G p_qq.a,F_qg,B_qg,YB X G p_qg.a,F_qh,B_qh,YB X G p_qh.a,F_qb,B_qb,YB X G p_qb.a,F_qm,B_qm,YB X G p_qm.a,F_qo,B_qo,YB X G p_qo.a,F_qr,B_qr,YB X G p_qr.a,F_qj,B_qj,YB X G p_qj.a,rfl,h_qj,(by decide),F_q7,B_q7,YB X G p_q7.a,F_q8,B_q8,YB X G p_q8.a,F_q9,B_q9,YB X G p_q9.a,F_ql,B_ql,YB X G p_ql.a,F_qi,B_qi,YB X G p_qi.a,F_qs,B_qs,YB X G p_qs.a,F_qt,B_qt,YB X G p_qt.a,YM X G n_all,YM X G n_any,YM X G n_bool,YM X G n_enumerate,YM X G n_int,YM X G n_isinstance,YM X G n_len,YM X G n_list,YM X G n_max,YM X G n_min,YM X G n_range,YM X G n_reversed,YM X G n_sorted,YM X G n_str,YM X G n_sum,YM X G n_tuple,YM X G n_zip,⟨_,YB X G c_KINDS,rfl⟩,ZeG o_KINDS t_KINDS i_KINDS,ZgB o_KINDS t_KINDS,⟨_,YB X G c_MANY,rfl⟩,ZeG o_MANY t_MANY i_MANY,ZgB o_MANY t_MANY⟩
 exact ⟨_,fun s v=>.of_eq rfl,fun base _ _ hB=>ok_qt T (hB _ (.head _)) (hB _ (.tail _ (.head _)))⟩
theorem walk {l:PySem.W.OpenLaw} {q:Program} {loose:List Str} {XP:(Str->Option Value)->Heap->Prop} {YP:World->Heap->Prop} {d:DefRec} {K:Params->YFr} (hn:l.most=some 63) (hdf:d.params.defaults=[])
  (hY:∀ (w:World) (h:Heap),YP w h->(K w.params).In h/\∀ t∈tabs,h.get? t.1=some (PySem.W.tabObj #[]))
  (hK:∀ (w:World) (t:Addr × Pos × Str),t∈tabs->(K w.params).lookup t.1=none/\∃ c,PySem.W.codeHdIn (K w.params) c t.1=true)
  (F : ∀ (w:World) (mg:Str->Option Value) (fa:Addr) (h:Heap),(K w.params).In h->h.Ns mainGlobals mg->mg d.name=some (.ref fa) ->
   ∃ fd:FuncData,(∀ (s:Shared) (u:Value),BindsTo s fd ⟨[u],[]⟩ [("_law_script",u)])/\∀ base:Heap,(K w.params).In base->base.Ns mainGlobals mg->(∀ t∈tabs,base.BuiltinsAt mg t.1)->FnOk l.prog w (K w.params) mg base CX0 200 fa fd ["_law_script"] (spOf (K w.params) (Zc2 tabs))) :
  PySem.W.WalkO q loose XP YP l.row.toRowW d [] (fun f vs=>PySem.call f vs) :=
 L2.walk_ofT (n:=63) (k:=200) (x:="_law_script") (ts:=tabs) (sp:=fun w=>spOf (K w.params) (Zc2 tabs)) hn (by decide) hdf ⟨rfl,by decide,by decide⟩ hY hK F (fun _ _ a ns hl hO hT hS=>law_inT (by decide) hl hO hT hS)
theorem pr0:(("a":String) == "a" && Nat.beq [PySem.W.boot_o_0].length 1)=true:=by k_qdec
noncomputable def hq:Program:=PySem.W.view PySem.Challenge.pw_figurebook_k35_namings_by_all_orders [35]
noncomputable def hloose:List Str:=(["KINDS","MANY","parts_of","made_of","folded","folded_over","size_of","size_by","key_by","plain_by","least_start","own","namings","own_with_plain","pourings_to_itself","turns_to_itself","factorial","_law_cell","_law_next","_law_names","_law_group","_law_tuples","_law_deed","_law_size","_law_key"]:List Str)++(["_law_plain","_law_shaken","_law_orders","_law_marked","_law_five","_law_right","_law_mix"]:List Str)
noncomputable def hKl (P:Params):List (Addr × Obj):=[(2,(Obj.mk .none none (.dict #[] 0) #[])),
 (3,hNs 42 [hEnt P "__name__" 165 (.str "law_figurebook_k35_namings_by_all_orders" 331),hEnt P "__doc__" 166 .none,hEnt P "__package__" 167 .none,hEnt P "__loader__" 168 (.builtin "__main__.__loader__#opaque"),hEnt P "__spec__" 169 .none,hEnt P "__annotations__" 170 (.ref 6),hEnt P "__builtins__" 171 (.ref 4),hEnt P "__file__" 173 (.str "/claim/cut.py" 172),hEnt P "__cached__" 174 .none,hEnt P "KINDS" 198 (.ref 15),hEnt P "MANY" 203 (.ref 16),hEnt P "parts_of" 211 (.ref 23),hEnt P "made_of" 219 (.ref 30),hEnt P "folded" 227 (.ref 37),hEnt P "folded_over" 243 (.ref 44),hEnt P "size_of" 250 (.ref 51),hEnt P "size_by" 258 (.ref 58),hEnt P "key_by" 264 (.ref 63),hEnt P "plain_by" 270 (.ref 68),hEnt P "least_start" 281 (.ref 75),hEnt P "own" 290 (.ref 82),hEnt P "namings" 297 (.ref 89),hEnt P "own_with_plain" 303 (.ref 94),hEnt P "pourings_to_itself" 315 (.ref 101),hEnt P "turns_to_itself" 321 (.ref 106),hEnt P "factorial" 330 (.ref 113),hEnt P "_law_cell" 340 (.ref 120),hEnt P "_law_next" 347 (.ref 127),hEnt P "_law_names" 361 (.ref 134),hEnt P "_law_group" 371 (.ref 141),hEnt P "_law_tuples" 377 (.ref 146),hEnt P "_law_deed" 383 (.ref 151),hEnt P "_law_size" 389 (.ref 156),hEnt P "_law_key" 395 (.ref 161),hEnt P "_law_plain" 401 (.ref 166),hEnt P "_law_shaken" 407 (.ref 171),hEnt P "_law_orders" 419 (.ref 178),hEnt P "_law_marked" 425 (.ref 183),hEnt P "_law_five" 431 (.ref 188),hEnt P "_law_right" 439 (.ref 195),hEnt P "_law_mix" 449 (.ref 202),hEnt P "law" 463 (.ref 209)]),
 (15,hTup [(.str "nothing" 189),(.str "bead" 190),(.str "left" 191),(.str "right" 192),(.str "pair" 193),(.str "row" 194),(.str "bag" 195),(.str "choice" 196),(.str "ring" 197)]),
 (16,hTup [(.str "row" 199),(.str "bag" 200),(.str "choice" 201),(.str "ring" 202)]),
 (22,ZaX "parts_of" "parts_of" 204 4 1 3 17 18 (some 19) (some 20) 21 209 210),
 (23,hFun s_qa "parts_of" "parts_of" (.str "figurebook.figures" 187) 22),
 (29,ZaX "made_of" "made_of" 212 11 2 3 24 25 (some 26) (some 27) 28 217 218),
 (30,hFun s_qd "made_of" "made_of" (.str "figurebook.figures" 187) 29),
 (36,ZaX "folded" "folded" 220 15 2 3 31 32 (some 33) (some 34) 35 225 226),
 (37,hFun s_qk "folded" "folded" (.str "figurebook.figures" 187) 36),
 (43,ZaX "folded_over" "folded_over" 228 17 3 3 38 39 (some 40) (some 41) 42 241 242),
 (44,hFun s_q3 "folded_over" "folded_over" (.str "figurebook.figures" 187) 43),
 (50,ZaX "size_of" "size_of" 244 30 1 3 45 46 (some 47) (some 48) 49 248 249),
 (51,hFun s_qe "size_of" "size_of" (.str "figurebook.figures" 187) 50),
 (57,ZaX "size_by" "size_by" 251 32 2 3 52 53 (some 54) (some 55) 56 256 257),
 (58,hFun s_qf "size_by" "size_by" (.str "figurebook.figures" 187) 57),
 (62,ZaX "key_by" "key_by" 259 36 2 3 59 60 none none 61 262 263),
 (63,hFun s_qn "key_by" "key_by" (.str "figurebook.figures" 187) 62),
 (67,ZaX "plain_by" "plain_by" 265 41 2 3 64 65 none none 66 268 269),
 (68,hFun s_q6 "plain_by" "plain_by" (.str "figurebook.figures" 187) 67),
 (74,ZaX "least_start" "least_start" 271 52 1 3 69 70 (some 71) (some 72) 73 279 280),
 (75,hFun s_q4 "least_start" "least_start" (.str "figurebook.figures" 187) 74),
 (81,ZaX "own" "own" 284 62 1 3 76 77 (some 78) (some 79) 80 288 289),
 (82,hFun s_qu "own" "own" (.str "figurebook.owns" 282) 81),
 (88,ZaX "namings" "namings" 291 64 1 3 83 84 (some 85) (some 86) 87 295 296),
 (89,hFun s_qc "namings" "namings" (.str "figurebook.owns" 282) 88),
 (93,ZaX "own_with_plain" "own_with_plain" 298 66 2 3 90 91 none none 92 301 302),
 (94,hFun s_q2 "own_with_plain" "own_with_plain" (.str "figurebook.owns" 282) 93),
 (100,ZaX "pourings_to_itself" "pourings_to_itself" 304 76 1 3 95 96 (some 97) (some 98) 99 313 314),
 (101,hFun s_q0 "pourings_to_itself" "pourings_to_itself" (.str "figurebook.owns" 282) 100),
 (105,ZaX "turns_to_itself" "turns_to_itself" 316 84 1 3 102 103 none none 104 319 320),
 (106,hFun s_q1 "turns_to_itself" "turns_to_itself" (.str "figurebook.owns" 282) 105),
 (112,ZaX "factorial" "factorial" 322 87 1 3 107 108 (some 109) (some 110) 111 328 329),
 (113,hFun s_q5 "factorial" "factorial" (.str "figurebook.owns" 282) 112),
 (119,ZaX "_law_cell" "_law_cell" 333 93 2 3 114 115 (some 116) (some 117) 118 338 339),
 (120,hFun s_qp "_law_cell" "_law_cell" (.str "law_figurebook_k35_namings_by_all_orders" 331) 119),
 (126,ZaX "_law_next" "_law_next" 341 97 1 3 121 122 (some 123) (some 124) 125 345 346),
 (127,hFun s_qq "_law_next" "_law_next" (.str "law_figurebook_k35_namings_by_all_orders" 331) 126),
 (133,ZaX "_law_names" "_law_names" 348 101 2 3 128 129 (some 130) (some 131) 132 359 360),
 (134,hFun s_qg "_law_names" "_law_names" (.str "law_figurebook_k35_namings_by_all_orders" 331) 133),
 (140,ZaX "_law_group" "_law_group" 362 114 3 3 135 136 (some 137) (some 138) 139 369 370),
 (141,hFun s_qh "_law_group" "_law_group" (.str "law_figurebook_k35_namings_by_all_orders" 331) 140),
 (145,ZaX "_law_tuples" "_law_tuples" 372 119 1 3 142 143 none none 144 375 376),
 (146,hFun s_qb "_law_tuples" "_law_tuples" (.str "law_figurebook_k35_namings_by_all_orders" 331) 145),
 (150,ZaX "_law_deed" "_law_deed" 378 125 4 3 147 148 none none 149 381 382),
 (151,hFun s_qm "_law_deed" "_law_deed" (.str "law_figurebook_k35_namings_by_all_orders" 331) 150),
 (155,ZaX "_law_size" "_law_size" 384 140 1 3 152 153 none none 154 387 388),
 (156,hFun s_qo "_law_size" "_law_size" (.str "law_figurebook_k35_namings_by_all_orders" 331) 155),
 (160,ZaX "_law_key" "_law_key" 390 146 1 3 157 158 none none 159 393 394),
 (161,hFun s_qr "_law_key" "_law_key" (.str "law_figurebook_k35_namings_by_all_orders" 331) 160),
 (165,ZaX "_law_plain" "_law_plain" 396 154 1 3 162 163 none none 164 399 400),
 (166,hFun s_qj "_law_plain" "_law_plain" (.str "law_figurebook_k35_namings_by_all_orders" 331) 165),
 (170,ZaX "_law_shaken" "_law_shaken" 402 166 2 3 167 168 none none 169 405 406),
 (171,hFun s_q7 "_law_shaken" "_law_shaken" (.str "law_figurebook_k35_namings_by_all_orders" 331) 170),
 (177,ZaX "_law_orders" "_law_orders" 408 180 1 3 172 173 (some 174) (some 175) 176 417 418),
 (178,hFun s_q8 "_law_orders" "_law_orders" (.str "law_figurebook_k35_namings_by_all_orders" 331) 177),
 (182,ZaX "_law_marked" "_law_marked" 420 189 2 3 179 180 none none 181 423 424),
 (183,hFun s_q9 "_law_marked" "_law_marked" (.str "law_figurebook_k35_namings_by_all_orders" 331) 182),
 (187,ZaX "_law_five" "_law_five" 426 197 3 3 184 185 none none 186 429 430),
 (188,hFun s_ql "_law_five" "_law_five" (.str "law_figurebook_k35_namings_by_all_orders" 331) 187),
 (194,ZaX "_law_right" "_law_right" 432 208 2 3 189 190 (some 191) (some 192) 193 437 438),
 (195,hFun s_qi "_law_right" "_law_right" (.str "law_figurebook_k35_namings_by_all_orders" 331) 194),
 (201,ZaX "_law_mix" "_law_mix" 440 210 1 3 196 197 (some 198) (some 199) 200 447 448),
 (202,hFun s_qs "_law_mix" "_law_mix" (.str "law_figurebook_k35_namings_by_all_orders" 331) 201),
 (208,ZaX "law" "law" 450 215 1 3 203 204 (some 205) (some 206) 207 461 462),
 (209,hFun s_qt "law" "law" (.str "law_figurebook_k35_namings_by_all_orders" 331) 208)]
noncomputable def hK (P:Params):YFr:=hKl P
noncomputable def hAs:List Addr:=[2,3,15,16,22,23,29,30,36,37,43,44,50,51,57,58,62,63,67,68,74,75,81,82,88,89,93,94,100,101,105,106,112,113,119,120,126,127,133,134,140,141,145,146,150,151,155,156,160,161,165,166,170,171,177,178,182,183,187,188,194,195,201,202,208,209]
noncomputable def hTs:List Addr:=[65,163]
noncomputable abbrev hH:PySem.W.Hook:=PySem.W.kmHook hK hAs (fun _=>rfl) hTs
noncomputable abbrev hXt:Shared->Bool:=fun s=>PySem.W.xlAt hq [] s && PySem.W.recOk (PySem.W.RowW.records (PySem.W.OpenRow.toRowW (PySem.W.OpenLaw.row PySem.Challenge.rw_figurebook_k35_namings_by_all_orders))) s
noncomputable def hL (w:World) (os:OsState):=headT PySem.Challenge.pw_figurebook_k35_namings_by_all_orders w os 11 (some (.ref 6)) 40000 (fun s=>(PySem.W.staticsOk (importedModules PySem.Challenge.pw_figurebook_k35_namings_by_all_orders.main.body) (PySem.W.boot_heap w.params) s.heap && PySem.W.namesBound PySem.Challenge.pw_figurebook_k35_namings_by_all_orders s.heap && PySem.W.gensDone s && PySem.W.laidKept (PySem.W.boot_heap w.params) s.heap,PySem.W.openSeen hq hloose (importedModules PySem.Challenge.pw_figurebook_k35_namings_by_all_orders.main.body) hXt true s,(hAs.map s.heap.get?,hTs.map s.heap.get?)))
noncomputable def hR (w:World) (_:OsState):=some (true,PySem.W.openGood hq hloose,((hKl w.params).map fun p=>some p.2,hTs.map fun _=>some (PySem.W.tabObj #[])))
lay_quick My.hL My.hR L2.hBoot
theorem h_run (w:World) (os:OsState):hL w os=hR w os:=(congrFun (congrFun PySem.W.Fast.te13887445390003487561 w) os).trans (Eq.trans (by kernel_rfl) (congrFun (congrFun PySem.W.Fast.te6075038599416009561 w) os).symm)
theorem h_boot (w:World):hBoot w=(true,11,some (.ref 6)):=(congrFun PySem.W.Fast.te16037136179764453472 w).trans (by kernel_rfl)
theorem h_left:PySem.W.LeftO PySem.Challenge.pw_figurebook_k35_namings_by_all_orders hq hloose hXt (PySem.W.Hook.obs hH) (PySem.W.Hook.val hH) 40000:=ZhG (by rfl) (by decide) (fun s=>rfl) h_boot h_run
end My
open PySem PySem.W PyProof.Rows
set_option maxRecDepth 100000 in
set_option maxHeartbeats 0 in
theorem PySem.Challenge.cw_figurebook_k35_namings_by_all_orders_holds : PySem.Challenge.rw_figurebook_k35_namings_by_all_orders.Holds := by
 w_on;o_law
 refine holds_open (q:=My.hq) (loose:=My.hloose) (Xt:=My.hXt) (XP:=XL My.hq []) (Yf:=Hook.obs My.hH) (Ya:=Hook.val My.hH) (YP:=Hook.says My.hH) (N:=40000) My.h_left (Hook.of My.hH) (Hook.keeps My.hH) (fun s e=>xl_of s (Yco.mp e).1) XL.keeps (by rfl) (by rfl) (by rfl) (fun s e=>recFacts_of (Yco.mp e).2) (by rfl) (by first | assumption | decide +kernel) (by decide +kernel) ⟨rfl,rfl,rfl,rfl,rfl,by decide +kernel⟩ ?hw ?hc
 case hw=>w_witness2
 k_fill
 refine My.walk (l:=PySem.Challenge.rw_figurebook_k35_namings_by_all_orders) rfl rfl (fun w h Y=>⟨PySem.W.km_in_of Y,fun t ht=>PySem.W.km_tabs_of Y t.1 (by simp only [My.tabs,Yt,Y4,YaI] at ht;rcases ht with rfl | rfl <;> simp [My.hTs])⟩) ?hK ?F
 case hK =>
  intro w t ht
  rcases Yt.mp ht with rfl | ht
  ·refine ⟨?_,67,?_⟩
   all_goals first | kernel_rfl | rfl
  rcases Yt.mp ht with rfl | ht
  ·refine ⟨?_,165,?_⟩
   all_goals first | kernel_rfl | rfl
  ·cases ht
 case F =>
  intro w mg fa h KX G hmg
  have q0:=My.ff (My.hK w.params) "parts_of" 23 22 My.s_qa "figurebook.figures" 187 (by kernel_rfl)
  have q1:=My.ff (My.hK w.params) "made_of" 30 29 My.s_qd "figurebook.figures" 187 (by kernel_rfl)
  have q2:=My.ff (My.hK w.params) "folded" 37 36 My.s_qk "figurebook.figures" 187 (by kernel_rfl)
  have q3:=My.ff (My.hK w.params) "folded_over" 44 43 My.s_q3 "figurebook.figures" 187 (by kernel_rfl)
  have q4:=My.ff (My.hK w.params) "size_of" 51 50 My.s_qe "figurebook.figures" 187 (by kernel_rfl)
  have q5:=My.ff (My.hK w.params) "size_by" 58 57 My.s_qf "figurebook.figures" 187 (by kernel_rfl)
  have q6:=My.ff (My.hK w.params) "key_by" 63 62 My.s_qn "figurebook.figures" 187 (by kernel_rfl)
  have q7:=My.ff (My.hK w.params) "plain_by" 68 67 My.s_q6 "figurebook.figures" 187 (by kernel_rfl)
  have q8:=My.ff (My.hK w.params) "least_start" 75 74 My.s_q4 "figurebook.figures" 187 (by kernel_rfl)
  have q9:=My.ff (My.hK w.params) "own" 82 81 My.s_qu "figurebook.owns" 282 (by kernel_rfl)
  have q10:=My.ff (My.hK w.params) "namings" 89 88 My.s_qc "figurebook.owns" 282 (by kernel_rfl)
  have q11:=My.ff (My.hK w.params) "own_with_plain" 94 93 My.s_q2 "figurebook.owns" 282 (by kernel_rfl)
  have q12:=My.ff (My.hK w.params) "pourings_to_itself" 101 100 My.s_q0 "figurebook.owns" 282 (by kernel_rfl)
  have q13:=My.ff (My.hK w.params) "turns_to_itself" 106 105 My.s_q1 "figurebook.owns" 282 (by kernel_rfl)
  have q14:=My.ff (My.hK w.params) "factorial" 113 112 My.s_q5 "figurebook.owns" 282 (by kernel_rfl)
  have q15:=My.ff (My.hK w.params) "_law_cell" 120 119 My.s_qp "law_figurebook_k35_namings_by_all_orders" 331 (by kernel_rfl)
  have q16:=My.ff (My.hK w.params) "_law_next" 127 126 My.s_qq "law_figurebook_k35_namings_by_all_orders" 331 (by kernel_rfl)
  have q17:=My.ff (My.hK w.params) "_law_names" 134 133 My.s_qg "law_figurebook_k35_namings_by_all_orders" 331 (by kernel_rfl)
  have q18:=My.ff (My.hK w.params) "_law_group" 141 140 My.s_qh "law_figurebook_k35_namings_by_all_orders" 331 (by kernel_rfl)
  have q19:=My.ff (My.hK w.params) "_law_tuples" 146 145 My.s_qb "law_figurebook_k35_namings_by_all_orders" 331 (by kernel_rfl)
  have q20:=My.ff (My.hK w.params) "_law_deed" 151 150 My.s_qm "law_figurebook_k35_namings_by_all_orders" 331 (by kernel_rfl)
  have q21:=My.ff (My.hK w.params) "_law_size" 156 155 My.s_qo "law_figurebook_k35_namings_by_all_orders" 331 (by kernel_rfl)
  have q22:=My.ff (My.hK w.params) "_law_key" 161 160 My.s_qr "law_figurebook_k35_namings_by_all_orders" 331 (by kernel_rfl)
  have q23:=My.ff (My.hK w.params) "_law_plain" 166 165 My.s_qj "law_figurebook_k35_namings_by_all_orders" 331 (by kernel_rfl)
  have q24:=My.ff (My.hK w.params) "_law_shaken" 171 170 My.s_q7 "law_figurebook_k35_namings_by_all_orders" 331 (by kernel_rfl)
  have q25:=My.ff (My.hK w.params) "_law_orders" 178 177 My.s_q8 "law_figurebook_k35_namings_by_all_orders" 331 (by kernel_rfl)
  have q26:=My.ff (My.hK w.params) "_law_marked" 183 182 My.s_q9 "law_figurebook_k35_namings_by_all_orders" 331 (by kernel_rfl)
  have q27:=My.ff (My.hK w.params) "_law_five" 188 187 My.s_ql "law_figurebook_k35_namings_by_all_orders" 331 (by kernel_rfl)
  have q28:=My.ff (My.hK w.params) "_law_right" 195 194 My.s_qi "law_figurebook_k35_namings_by_all_orders" 331 (by kernel_rfl)
  have q29:=My.ff (My.hK w.params) "_law_mix" 202 201 My.s_qs "law_figurebook_k35_namings_by_all_orders" 331 (by kernel_rfl)
  have q30:=My.ff (My.hK w.params) "law" 209 208 My.s_qt "law_figurebook_k35_namings_by_all_orders" 331 (by kernel_rfl)
  refine' My.all_mk KX G hmg q0 q1 q2 q3 q4 q5 q6 q7 ?h_q6 q8 q9 q10 q11 q12 q13 q14 q15 q16 q17 q18 q19 q20 q21 q22 q23 ?h_qj q24 q25 q26 q27 q28 q29 q30 ?n_all ?n_any ?n_bool ?n_enumerate ?n_int ?n_isinstance ?n_len ?n_list ?n_max ?n_min ?n_range ?n_reversed ?n_sorted ?n_str ?n_sum ?n_tuple ?n_zip ?c_KINDS ?o_KINDS ?t_KINDS ?i_KINDS ?c_MANY ?o_MANY ?t_MANY ?i_MANY
  (case h_q6=>exact (by kernel_rfl:PySem.W.codeHdIn (My.hK w.params) 67 65=true))
  (case h_qj=>exact (by kernel_rfl:PySem.W.codeHdIn (My.hK w.params) 165 163=true))
  (case n_all=>kernel_rfl)
  (case n_any=>kernel_rfl)
  (case n_bool=>kernel_rfl)
  (case n_enumerate=>kernel_rfl)
  (case n_int=>kernel_rfl)
  (case n_isinstance=>kernel_rfl)
  (case n_len=>kernel_rfl)
  (case n_list=>kernel_rfl)
  (case n_max=>kernel_rfl)
  (case n_min=>kernel_rfl)
  (case n_range=>kernel_rfl)
  (case n_reversed=>kernel_rfl)
  (case n_sorted=>kernel_rfl)
  (case n_str=>kernel_rfl)
  (case n_sum=>kernel_rfl)
  (case n_tuple=>kernel_rfl)
  (case n_zip=>kernel_rfl)
  (case c_KINDS=>exact (by kernel_rfl:PySem.W.nsIn (My.hK w.params) mainGlobals "KINDS"=some (some (.ref 15))))
  (case o_KINDS=>exact (by kernel_rfl:(My.hK w.params).lookup 15=some ⟨.type "tuple",none,.seq #[(.str "nothing" 189),(.str "bead" 190),(.str "left" 191),(.str "right" 192),(.str "pair" 193),(.str "row" 194),(.str "bag" 195),(.str "choice" 196),(.str "ring" 197)] 0,#[]⟩))
  (case t_KINDS=>exact ⟨rfl,rfl⟩)
  (case i_KINDS=>rfl)
  (case c_MANY=>exact (by kernel_rfl:PySem.W.nsIn (My.hK w.params) mainGlobals "MANY"=some (some (.ref 16))))
  (case o_MANY=>exact (by kernel_rfl:(My.hK w.params).lookup 16=some ⟨.type "tuple",none,.seq #[(.str "row" 199),(.str "bag" 200),(.str "choice" 201),(.str "ring" 202)] 0,#[]⟩))
  (case t_MANY=>exact ⟨rfl,rfl⟩)
  (case i_MANY=>rfl)
