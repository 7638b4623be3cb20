import PyProof.Rows.All
import Wide.All
import OpenK.AllK
import Wide.FinOn
import Lean
import PyProof.EqAt
import PyProof.EqKinds
import PyProof.TupleCall
import KE.KSortTup
import PyProof.TupleKey
import PyProof.DictRoadsH
import KE.KLam
import KE.KNestM
import KE.KDflt
import KE.KMinKey
import PyProof.Rows.FactsExc_ValueError
import PyProof.StationsW
import PyProof.RulesAs
import PyProof.InstStoreFacts
import PyProof.ExcArgsOwn
import KE.KIsAll
import PyProof.NsDelKeeps
import PyProof.FactsAll.NoneType_1
import PyProof.Rows.SetFrom
import PyProof.Rows.SortStr
import PyProof.Rows.SortWalk
import PyProof.Rows.EqNone
import PySem.Challenge.RW_figurebook_k09_whole_sound_or_round
noncomputable section
open PySem.W (Frag InitBack Looks RowW any_some bind_fn callWith_K0 clsIn emptyDict findObj_own handedOut_of instIn instObj keq_eq keq_flat kia_tup kitAny kitx_own kmHook lookIn looks_clsIn looks_find looks_findIn looks_instIn looks_mroIn make_core makes_of methodCall_KW methodObj mroIn notCls oi_run osa_eq plainGet_of recOk set_plain specialIn tabObj takesIn view xlAt)
section
open PySem PySem.Spec PyProof.Rows
abbrev YFr:=Frag
def Yb:=@wpAny_bind
def Yc:=@List.length_map
def Yd:=@wpAny_pure
def Ye:=@Heap.get?_push_of_some
def Yg:=@List.getElem?_eq_getElem
def Yh:=@List.getElem?_eq_some_iff
def Yi:=@List.getElem?_map
def Yj:=@Nat.le_refl
def Yk:=@List.mem_of_getElem?
def Yl:=@Heap.get?_push_size
def Ym:=@Heap.lt_size
def Yn:=@List.mem_cons
def Yo:=@Nat.ne_of_lt
def Yp:=@List.mem_singleton
def Yq:=@List.map_cons
def Yr:=@List.size_toArray
def Ys:=@List.length_append
def Yt:=@List.map_append
def Yu:=@Bool.false_ne_true
def Yv:=@beq_eq_false_iff_ne
def Yw:=@decide_eq_false
def Yx:=@List.mem_append_right
def Yy:=@PySem.F.plainAttrs_list
def Yz:=@List.mem_append
def YA:=@PassesOwn.never
def YB:=@Nat.le_trans
def YC:=@decide_eq_true
def YD:=@Heap.get?_update_self
def YE:=@Option.some.inj
def YF:=@Heap.get?_update_other
def YG:=@wpAny_mono
def YH:=@List.getElem?_eq_none_iff
def YI:=@Nat.lt_of_lt_of_le
def YJ:=@Heap.size_push
def YK:=@Option.map_eq_some_iff
def YL:=@List.length_take
def YM:=@List.not_mem_nil
def YN:=@List.append_nil
def YO:=@wpAny_newObj_type
def YQ:=@List.mem_map
def YR:=@PySem.F.slot_list_append
def YS:=@PySem.F.type_list_append
def YT:=@wpAny_holding
def YU:=@Bool.and_eq_true
def YV:=@Obj.data_mapFields
def YW:=@List.getElem?_append_right
def YX:=@List.getD_eq_getElem?_getD
def YY:=@wpAny_call_entry
def YZ:=@List.take_length
def Y0:=@Nat.lt_succ_of_lt
def Y1:=@Bool.false_eq_true
def Y2:=@Nat.zero_le
def Y3:=@List.getElem?_eq_none
def Y4:=@wpAny_callSpecial?_slot
def Y5:=@PySem.W.kia_one
def Y6:=@List.getElem?_append_left
def Y7:=@List.mem_append_left
def Y8:=@sizeLine_eq
def Y9:=@wpAny_field
def Yaa:=@List.take_of_length_le
def Yab:=@List.mem_cons_self
def Yac:=@Heap.SameBut.update
def Yad:=@List.mem_cons_of_mem
def Yae:=@List.nodup_cons
def Yaf:=@Nat.le_succ
def Yag:=@PyProof.Rows.slot_tuple_getitem
def Yah:=@wpAny_Call_Name_kw
def Yai:=@List.map_map
def Yaj:=@Nat.lt_succ_self
def Yak:=@of_decide_eq_true
def Yal:=@if_false
def Yam:=@List.mem_iff_getElem
def Yan:=@or_false
def Yao:=@Around.under_plainId
def Yap:=@Calls.callWith_builtin
def Yaq:=@PySem.mem_of_lookup
def Yar:=@codeAny_builtin
def Yas:=@Array.getElem?_toList
def Yat:=@codeAny_mono
def Yau:=@Int.emod_lt_of_pos
def Yav:=@List.length_range
def Yaw:=@wpAny_updateSeq
def Yax:=@Int.emod_nonneg
def Yay:=@Nat.ne_of_gt
def Yaz:=@PySem.W.callWith_K
def YaA:=@PySem.F.slot_list_pop
def YaB:=@PySem.F.type_list_pop
def YaC:=@Array.getElem?_eq_getElem
def YaD:=@wpAny_call
def YaE:=@wpAny_loadPart'
def YaF:=@wpAny_standAt
def YaG:=@plainId_quiet
def YaH:=@Int.eq_ofNat_of_zero_le
def YaI:=@List.length_eq_zero_iff
def YaJ:=@List.mem_range
def YaK:=@List.length_drop
def YaL:=@PyProof.Rows.callWith_type1
def YaM:=@wpAny_execs_nil
def YaN:=@wpAny_passesOwn
def YaO:=@Nat.min_eq_left
def YaP:=@F.slot_tuple_iterator_next
def YaQ:=@wpAny_attempt
def YaR:=@wpAny_truthy_bool
def YaS:=@wpAny_pyIter_list
def YaT:=@Nat.le_of_lt
def YaU:=@Option.isSome_iff_exists
def YaV:=@List.map_nil
def YaW:=@List.all_eq_true
def YaX:=@List.getElem_mem
def YaY:=@wpAny_isInstance
def YaZ:=@decide_eq_false_iff_not
def Ya0:=@wpAny_setField_rec
def Ya1:=@List.append_assoc
def Ya2:=@decide_eq_true_eq
def Ya3:=@wpAny_typeOf
def Ya4:=@wpAny_seqItems
def Ya5:=@F.slot_enumerate_next
def Ya6:=@List.eq_nil_or_concat
def Ya7:=@wpAny_rule
def Ya8:=@Nat.lt_irrefl
def Ya9:=@List.map_take
def Yba:=@wpAny_letGo
def Ybb:=@List.filter_eq_self
def Ybc:=@Bool.eq_iff_iff
def Ybd:=@List.cons.injEq
def Ybe:=@PySem.F.args_tuple_add_2
def Ybf:=@List.filter_append
def Ybg:=@Nat.sub_self
def Ybh:=@call_meets
def Ybi:=@PySem.F.entry_tuple_add
def Ybj:=@wpAny_pyIter_enum
def Ybk:=@List.getElem?_set_self
def Ybl:=@PySem.F.slot_tuple_add
def Ybm:=@List.getElem?_set_ne
def Ybn:=@Nat.not_lt_zero
def Ybo:=@List.forIn_cons
def Ybp:=@List.getElem?_range
def Ybq:=@List.drop_zero
def Ybr:=@F.args_tuple_iterator_next_1
def Ybs:=@wpAny_tryCatch
def Ybt:=@wpAny_of_eq
def Ybu:=@F.entry_tuple_iterator_next
def Ybv:=@Nat.add_sub_cancel
def Ybw:=@wpAny_pyIter_tuple
def Ybx:=@Calls.Name_function_global
def Yby:=@wpAny_letOwnedTupleGo_enum
def Ybz:=@wpAny_assign_Name
def YbA:=@PySem.W.kitx_list
def YbB:=@Walks.list
def YbC:=@wpAny_execs_cons
def YbD:=@concat_meets
def YbE:=@Nat.le_of_not_lt
def YbF:=@Array.toList_inj
def YbG:=@PySem.F.slot_list_extend
def YbH:=@PySem.F.type_list_extend
def YbI:=@List.getElem?_replicate
def YbJ:=@F.args_enumerate_next_1
def YbK:=@List.of_mem_zip
def YbL:=@Nat.min_le_left
def YbM:=@wpAny_pyNext_range_end
def YbN:=@wpAny_pyIter_rangeiter
def YbO:=@PyProof.noPylong_small
def YbP:=@PySem.W.cellsFrom_some
def YbQ:=@subscriptTail_builtinR
def YbR:=@F.entry_enumerate_next
def YbS:=@List.length_replicate
def YbT:=@Bool.and_false
def YbU:=@builtinLookup_eq_fast
def YbV:=@List.mem_iff_getElem?
def YbW:=@List.dropLast_eq_take
def YbX:=@List.take_append_drop
def YbY:=@F.args_list_extend_2
def YbZ:=@codeAny_extend_loopS
def Yb0:=@Bool.and_eq_true_iff
def Yb1:=@wpAny_newList
def Yb2:=@F.entry_list_extend
def Yb3:=@List.map_congr_left
def Yb4:=@F.plain_extend_loop
def Yb5:=@Array.toList_append
def Yb6:=@SeqAt.EqAt.int_str
def Yb7:=@SeqAt.EqAt.str_int
def Yb8:=@wpAny_pyIter_range
def Yb9:=@List.mem_filterMap
def Yca:=@PySem.W.kitx_tuple
def Ycb:=@F.slot_list_extend
def Ycc:=@Nat.le_of_eq
def Ycd:=@List.getElem?_drop
def Yce:=@PySem.W.kitx_dict
def Ycf:=@wpAny_sequenceKey
def Ycg:=@slot_list_getitem
def Ych:=@List.ext_getElem?
def Yci:=@F.plain_list_iadd
def Ycj:=@noFill_tuple_add
def Yck:=@Nat.le_add_right
def Ycl:=@List.ext_getElem
def Ycm:=@beq_self_eq_true
def Ycn:=@wpAny_Name
end
set_option Elab.async false
set_option compiler.extract_closed false
set_option bootstrap.genMatcherCode false
set_option linter.all false
set_option maxRecDepth 100000
namespace L2
open PySem PySem.Spec PyProof.Rows
abbrev Key:=Sum Int Str
def ZqF:Key->Value->Bool
 | .inl k,v=>Value.isInt k v
 | .inr x,v=>Value.isStrOf x v
def Zwj(w:World):Key->Int
 | .inl k=>hashInt k
 | .inr x=>hashStr w x
def keyIs_shape:∀ {k:Key} {v:Value},ZqF k v=true->(∃i t,k=Sum.inl i/\v=Value.int i t)\/(∃x t,k=Sum.inr x/\v=Value.str x t)
 | .inl i,v,h=>by
  obtain⟨t,e⟩:=Value.isInt_shape (k:=i) (v:=v) h
  exact .inl ⟨i,t,rfl,e⟩
 | .inr x,v,h=>by
  obtain⟨t,e⟩:=Value.isStrOf_shape (x:=x) (v:=v) h
  exact .inr ⟨x,t,rfl,e⟩
def Zqy(a b:Int):decide ((Sum.inl a:Key)=Sum.inl b)=(a==b):=by
 by_cases e:a=b
 .subst e;simp
 .have h:¬(Sum.inl a:Key)=Sum.inl b:=fun q=>e (Sum.inl.inj q);rw[Yw h];exact(Yv.mpr e).symm
def ZqN(a b:Str):decide ((Sum.inr a:Key)=Sum.inr b)=decide (a=b):=by
 by_cases e:a=b
 .subst e;simp
 .have h:¬(Sum.inr a:Key)=Sum.inr b:=fun q=>e (Sum.inr.inj q);rw[Yw h,Yw e]
def Zrl(a:Int)(b:Str):decide ((Sum.inl a:Key)=Sum.inr b)=false:=Yw (fun q=>nomatch q)
def Zru(a:Str)(b:Int):decide ((Sum.inr a:Key)=Sum.inl b)=false:=Yw (fun q=>nomatch q)
def Zfu(prog:Program)(w:World):PySem.KeyKind prog w Key where
 is:=ZqF
 hash:=Zwj w
 inj := fun v a b ha hb=>by
  rcases keyIs_shape ha with⟨i,t,rfl,rfl⟩|⟨x,t,rfl,rfl⟩
  .rcases keyIs_shape hb with⟨j,u,rfl,e⟩|⟨y,u,rfl,e⟩
   .injection e with e1 _;rw[e1]
   .exact nomatch e
  .rcases keyIs_shape hb with⟨j,u,rfl,e⟩|⟨y,u,rfl,e⟩
   .exact nomatch e
   .injection e with e1 _;rw[e1]
 byValue:=fun k v h=>by
  rcases keyIs_shape h with⟨i,t,rfl,rfl⟩|⟨x,t,rfl,rfl⟩<;>rfl
 pyHash:=fun hv h=>by
  rcases keyIs_shape hv with⟨i,t,rfl,rfl⟩|⟨x,t,rfl,rfl⟩
  .exact wpAny_pyHash_int h
  .exact wpAny_pyHash_str h
 eqBool:=fun hu hv h=>by
  rcases keyIs_shape hu with⟨i,t,rfl,rfl⟩|⟨x,t,rfl,rfl⟩
  .rcases keyIs_shape hv with⟨j,u,rfl,rfl⟩|⟨y,u,rfl,rfl⟩
   .rw[Zqy]at h;exact wpAny_eqBool_int h
   .rw[Zrl]at h;exact Yb6 i t y u _ _ _ _ h
  .rcases keyIs_shape hv with⟨j,u,rfl,rfl⟩|⟨y,u,rfl,rfl⟩
   .rw[Zru]at h;exact Yb7 x t j u _ _ _ _ h
   .rw[ZqN]at h;exact wpAny_eqBool_str h
 «strs»:=fun k x t v h=>by
  rcases keyIs_shape h with⟨i,u,rfl,e⟩|⟨y,u,rfl,e⟩
  .exact nomatch e
  .injection e with e1 _
   subst e1
   cases v<;>rfl
inductive V where
 | non|bl (b:Bool)|int (i:Int)|str (x:Str)|byt (b:Array UInt8)|flt (b:UInt64)|ref (a:Addr)|ty (n:String)
 deriving DecidableEq
def Zau:V->Value->Prop
 | .non,u=>u=Value.none
 | .bl b,u=>u=Value.bool b
 | .int i,u=>∃t,u=Value.int i t
 | .str x,u=>∃t,u=Value.str x t
 | .byt b,u=>∃t,u=Value.bytes b t
 | .flt b,u=>∃t,u=Value.float b t
 | .ref a,u=>u=Value.ref a
 | .ty n,u=>u=Value.type n
abbrev Z6:List V->List Value->Prop:=Paired Zau
def Z6.length(r:Z6 xs us):xs.length=us.length:=Paired.length r
def Z6.get:∀ {xs:List V} {us:List Value} {i:Nat} {x:V},Z6 xs us->xs[i]? = some x->∃u,us[i]? = some u/\Zau x u
 | _,_,_,_,.nil,e=>by simp at e
 | _,_,0,_,.cons r _,e=>by simp at e;subst e;exact⟨_,rfl,r⟩
 | _, _,i+1,x,.cons _ t,e=>by
  obtain⟨u,h1,h2⟩:=Z6.get (i:=i) (x:=x) t (by simpa using e)
  exact⟨u,by simpa using h1,h2⟩
def Z6.append:∀ {xs ys:List V} {us ws:List Value},Z6 xs us->Z6 ys ws->Z6 (xs++ys) (us++ws)
 | _,_,_,_,.nil,s=>s
 | _,_,_,_,.cons r t,s=>.cons r (Z6.append t s)
def Z6.take:∀ {xs:List V} {us:List Value} (n:Nat),Z6 xs us->Z6 (xs.take n) (us.take n)
 | _,_,0,_=>.nil
 | _,_,_+1,.nil=>.nil
 | _,_,n+1,.cons r t=>.cons r (Z6.take n t)
def Z6.drop:∀ {xs:List V} {us:List Value} (n:Nat),Z6 xs us->Z6 (xs.drop n) (us.drop n)
 | _,_,0,r=>r
 | _,_,_+1,.nil=>.nil
 | _,_,n+1,.cons _ t=>Z6.drop n t
def Z6.none_of:∀ {xs:List V} {us:List Value} {i:Nat},Z6 xs us->xs[i]? = none->us[i]? = none:=fun {xs us i} r e=>by
 have h1:=r.length
 have h2:xs.length<=i:=YH.mp e
 exact YH.mpr (by lia)
def Zfs:Option V->Option Value->Prop
 | some v,some u=>Zau v u
 | none,none=>True
 | _,_=>False
def KV{κ:Type}:List (κ×V)->List (κ×Value)->Prop:=Paired fun(p:κ×V)(q:κ×Value)=>p.1=q.1/\Zau p.2 q.2
def kV:Key->V
 | .inl i=>.int i
 | .inr x=>.str x
inductive HO where
 | lst (xs:List V)
 | tup (xs:List V)
 | dK (kvs:List (Key×V))|dT (kvs:List (List Key×V))
 | set (S:Int->Bool) (n:Nat)
 | ins (C dx:Addr) (fs:List (Str×V))
 | own (x:Addr)
 | xd (fs:List (Str×V))
 | met (f x:Addr)
 | rng (lo hi:Int)
 | frz (o:Obj) (u:HO)
 | tbl (ps:Array Value)
 | ext (φ:Heap->Prop)
abbrev Hp:=Addr->Option HO
def upd(H:Hp)(a:Addr)(o:HO):Hp:=fun b=>if b=a then some o else H b
def Zv:upd H a o a=some o:=by unfold upd;rw[if_pos rfl]
def Zr(h:b≠a):upd H a o b=H b:=by unfold upd;rw[if_neg h]
def ZcE{H:Hp}(h:H a=some o)(h':H b=some u)(d:o≠u):a≠b:=by
 intro e;subst e;rw[h]at h';exact d (YE h')
def Z8{H:Hp}(h:H a=some o)(h':H b=none):a≠b:=by
 intro e;subst e;rw[h]at h';cases h'
section
variable(P:Program)(w:World)
def ZaO(H:Hp)(h:Heap)(a:Addr):HO->Prop
 | .lst xs=>xs.length<=sizeLine/\∃(its:List Value)(n:Nat),Z6 xs its/\h.get? a=some { cls:=.type "list",data:=.seq its.toArray n }
 | .tup xs=>xs.length<=sizeLine/\∃its:List Value,Z6 xs its/\IsTup h a its.toArray
 | .dK kvs=>kvs.length<=sizeLine/\(a==sysModules)=false/\∃vs,KV kvs vs/\h.DictOf (Zfu P w) a vs
 | .dT kvs=>kvs.length<=sizeLine/\(a==sysModules)=false/\∃xs:List (List Key×Addr×Value),
   Paired (fun(p:List Key×V)(q:List Key×Addr×Value)=>p.1=q.1/\H q.2.1=some (.tup (p.1.map kV))/\Zau p.2 q.2.2) kvs xs /\
   ∃o es ep,h.get? a=some o/\o.ExactDict/\o.data=.dict es ep/\es.toList=xs.map (entryOfKey (tupleKind (Zfu P w)))/\(xs.map (·.1)).Nodup
 | .set S n=>h.SetOf (intKind P w) a S n
 | .ins C dx fs=>H dx=some (.own a)/\fs.length<=1000/\dx≠a/\h.get? a=some (instObj C dx) /\
   ∃mA,h.Ns1 dx mA/\(∀f,Zfs (fs.lookup f) (mA f))/\PySem.Within mA (fs.map (·.1))
 | .own _=>∃o,h.get? a=some o
 | .xd fs=>∃mA,h.Ns1 a mA/\∀f,Zfs (fs.lookup f) (mA f)
 | .rng lo hi=>∃t u v,h.get? a=some { cls:=.type "range",data:=.fields #[.int lo t,.int hi u,.int 1 v] }
 | .frz o u=>h.get? a=some o/\ZaO H h a u
 | .tbl ps=>h.get? a=some { cls:=.none,data:=.fields ps }
 | .met f x=>h.get? a=some (methodObj (.ref f) (.ref x))
 | .ext φ=>φ h/\(∃o,h.get? a=some o)/\∀h1 h2:Heap,φ h1->(∀o,h1.get? a=some o->h2.get? a=some o)->φ h2
def HOk(H:Hp)(h:Heap):Prop:=∀a o,H a=some o->ZaO P w H h a o
end
section
def ZaO.lt(x:ZaO P w H h a o):a<h.objs.size:=by
 cases o with
 | lst xs=>obtain⟨_,_,_,_,e⟩:=x;exact Ym e
 | tup xs=>obtain⟨_,_,_,p⟩:=x;exact p.lt
 | dK kvs=>obtain⟨_,_,_,_,o,_,_,e,_⟩:=x;exact Ym e
 | dT kvs=>obtain⟨_,_,_,_,o,_,_,e,_⟩:=x;exact Ym e
 | set S n=>obtain⟨o,_,_,_,e,_⟩:=x;exact Ym e
 | ins C dx fs=>obtain⟨_,_,_,e,_⟩:=x;exact Ym e
 | own y=>obtain⟨_,e⟩:=x;exact Ym e
 | xd fs=>obtain⟨_,⟨_,_,_,e,_⟩,_⟩:=x;exact Ym e
 | rng lo hi=>obtain⟨_,_,_,e⟩:=x;exact Ym e
 | frz ob u=>obtain⟨e,_⟩:=x;exact Ym e
 | tbl ps=>exact Ym (show h.get? a=some _ from x)
 | met f y=>exact Ym (show h.get? a=some _ from x)
 | ext φ=>obtain⟨_,⟨_,e⟩,_⟩:=x;exact Ym e
def Paired.mapP:∀ {l₁:List α} {l₂:List β},Paired F l₁ l₂->(∀a b,F a b->G a b)->Paired G l₁ l₂
 | _,_,.nil,_=>.nil
 | _,_,.cons r t,f=>.cons (f _ _ r) (Paired.mapP t f)
def ZaO.stay(x:ZaO P w H h a o)(k:∀b u,(b=a\/H b=some (.own a))->h.get? b=some u->h'.get? b=some u)(ho:∀b,H b=some (.own a)->H' b=some (.own a))(ht:∀b xs,H b=some (.tup xs)->H' b=some (.tup xs)):ZaO P w H' h' a o:=by
 induction o with
 | lst xs=>obtain⟨z,its,n,r,e⟩:=x;exact⟨z,its,n,r,k _ _ (.inl rfl) e⟩
 | tup xs=>obtain⟨z,its,r,ob,e,c⟩:=x;exact⟨z,its,r,ob,k _ _ (.inl rfl) e,c⟩
 | dK kvs=>obtain⟨z,y,vs,r,ob,es,ep,e,c⟩:=x;exact⟨z,y,vs,r,ob,es,ep,k _ _ (.inl rfl) e,c⟩
 | dT kvs =>
  obtain⟨z,y,xs,r,ob,es,ep,e,c⟩:=x;exact⟨z,y,xs,Paired.mapP r fun p q z=>⟨z.1,ht _ _ z.2.1,z.2.2⟩,ob,es,ep,k _ _ (.inl rfl) e,c⟩
 | set S n=>obtain⟨ob,es,ep,t,e,c⟩:=x;exact⟨ob,es,ep,t,k _ _ (.inl rfl) e,c⟩
 | ins C dx fs =>
  obtain⟨d,z,ne,e,mA,⟨od,es,ep,e2,c⟩,r⟩:=x;exact⟨ho _ d,z,ne,k _ _ (.inl rfl) e,mA,⟨od,es,ep,k _ _ (.inr d) e2,c⟩,r⟩
 | own y=>obtain⟨ob,e⟩:=x;exact⟨ob,k _ _ (.inl rfl) e⟩
 | xd fs=>obtain⟨mA,⟨od,es,ep,e,c⟩,r⟩:=x;exact⟨mA,⟨od,es,ep,k _ _ (.inl rfl) e,c⟩,r⟩
 | rng lo hi=>obtain⟨t,u,v,e⟩:=x;exact⟨t,u,v,k _ _ (.inl rfl) e⟩
 | frz ob u ih=>obtain⟨e,q⟩:=x;exact⟨k _ _ (.inl rfl) e,ih q⟩
 | tbl ps =>
  have e:h.get? a=some { cls:=.none,data:=.fields ps }:=x;show h'.get? a=some { cls:=.none,data:=.fields ps };exact k a _ (.inl rfl) e
 | met f y =>
  have e:h.get? a=some (methodObj (.ref f) (.ref y)):=x;show h'.get? a=some (methodObj (.ref f) (.ref y));exact k a _ (.inl rfl) e
 | ext φ=>obtain⟨p,⟨o,e⟩,st⟩:=x;exact⟨st _ _ p fun o q=>k _ _ (.inl rfl) q,⟨o,k _ _ (.inl rfl) e⟩,st⟩
def HOk.lt(x:HOk P w H h)(e:H a=some o):a<h.objs.size:=(x a o e).lt
def HOk.fresh(x:HOk P w H h)(e:h.objs.size<=a):H a=none:=by
 cases q:H a with
 | none=>rfl
 | some u=>exact absurd (YI (x.lt q) e) (Ya8 _)
def HOk.kept(x:HOk P w H h)(k:∀b u,h.get? b=some u->h'.get? b=some u):HOk P w H h':=fun a o e =>
 (x a o e).stay (fun b u _ q=>k b u q) (fun _ q=>q) fun _ _ q=>q
def HOk.laid(x:HOk P w H h)(k:∀b u,h.get? b=some u->h'.get? b=some u)(hp:h.objs.size<=a)(new:ZaO P w (upd H a o) h' a o):HOk P w (upd H a o) h':=fun b u e=>by
 have hn:=x.fresh hp
 by_cases hb:b=a
 .subst hb;rw[Zv]at e;cases e;exact new
 .rw[Zr hb]at e
  exact(x b u e).stay (fun c v _ q=>k c v q) (fun c q=>by rw[Zr (Z8 q hn)];exact q) fun c xs q=>by rw[Zr (Z8 q hn)];exact q
end
def Rd(H:Hp)(a:Addr)(u:HO):Prop:=H a=some u\/∃o,H a=some (.frz o u)
def Rd.ok(r:Rd H a u)(x:HOk P w H h):ZaO P w H h a u:=by
 rcases r with r|⟨o,r⟩
 .exact x a u r
 .obtain⟨_,q⟩:=x a _ r;exact q
def Mut:Option HO->Prop
 | some (.lst _)=>True
 | some (.dK _)=>True
 | some (.dT _)=>True
 | some (.set _ _)=>True
 | some (.ins _ _ _)=>True
 | some (.ext _)=>True
 | _=>False
section
def HOk.write(ok:HOk P w H h)(mu:Mut (H x))(he:e=x\/H e=some (.own x))(k:∀b u,b≠e->h.get? b=some u->h'.get? b=some u)(heo:∃u,h'.get? e=some u)(new:ZaO P w (upd H x o') h' x o'):HOk P w (upd H x o') h':=fun b u q=>by
 have nown:∀c y,H c=some (.own y)->c≠x:=fun c y r z=>by subst z;rw[r]at mu;exact mu
 have ntup:∀c xs,H c=some (.tup xs)->c≠x:=fun c xs r z=>by subst z;rw[r]at mu;exact mu
 by_cases hb:b=x
 .subst hb;rw[Zv]at q;cases q;exact new
 .rw[Zr hb]at q
  by_cases hbe:b=e
  .have q':H b=some (.own x):=by
    rcases he with z|z
    .exact absurd (hbe.trans z) hb
    .rw[hbe];exact z
   rw[q]at q';cases q';obtain⟨v,hv⟩:=heo;exact⟨v,by rw[hbe];exact hv⟩
  .refine(ok b u q).stay (fun c v hc r=>k c v ?_ r) (fun c r=>by rw[Zr (nown c b r)];exact r) fun c xs r=>by rw[Zr (ntup c xs r)];exact r
   rcases hc with rfl|hc
   .exact hbe
   .rintro rfl;rcases he with z|z
    .exact nown c b hc z
    .rw[hc]at z;cases z;exact hb rfl
end
structure Un (fs ex:List Addr) (H H':Hp) (h h':Heap):Prop where
 keep:∀b o,h.get? b=some o->H b=none->b∉fs->b∉ex->h'.get? b=some o
 slot:∀b o,h.get? b=some o->H b=none->b∈fs->b∉ex->∃sl,h'.get? b=some { o with slots:=sl }
 free:∀b o,h.get? b=some o->H b=none->b∉ex->H' b=none
 there:∀b o,h.get? b=some o->b∉ex->∃o',h'.get? b=some o'
 tups:∀b xs,H b=some (.tup xs)->H' b=some (.tup xs)
 frzs:∀b o u,H b=some (.frz o u)->H' b=some (.frz o u)
 tbls:∀b ps,H b=some (.tbl ps)->∃more,H' b=some (.tbl (ps++more))
section
def Un.any(u:Un fs ex H H1 h h1)(q:h.get? b=some ob)(n:H b=none)(hx:b∉ex):∃sl,h1.get? b=some { ob with slots:=sl }:=by
 by_cases hb:b∈fs
 .exact u.slot b ob q n hb hx
 .exact⟨ob.slots,u.keep b ob q n hb hx⟩
def Un.kept(k:∀b u,h.get? b=some u->h'.get? b=some u):Un fs ex H H h h' :=
 ⟨fun b ob q _ _ _=>k b ob q,fun b ob q _ _ _=>⟨ob.slots,k b ob q⟩,fun _ _ _ n _=>n,fun b ob q _=>⟨ob,k b ob q⟩,fun _ _ q=>q,fun _ _ _ q=>q,fun _ ps q=>⟨#[],by rw[q];simp⟩⟩
def Un.refl:Un fs ex H H h h:=Un.kept fun _ _ q=>q
def Un.laid(k:∀b u,h.get? b=some u->h'.get? b=some u)(hp:h.objs.size<=a)(hn:H a=none):Un fs ex H (upd H a o) h h' where
 keep:=fun b u q _ _ _=>k b u q
 slot:=fun b u q _ _ _=>⟨u.slots,k b u q⟩
 free:=fun b u q n _=>by rw[Zr (Yo (YI (Ym q) hp))];exact n
 there:=fun b u q _=>⟨u,k b u q⟩
 tups:=fun b xs q=>by rw[Zr (Z8 q hn)];exact q
 frzs:=fun b u xs q=>by rw[Zr (Z8 q hn)];exact q
 tbls:=fun b ps q=>⟨#[],by rw[Zr (Z8 q hn),q];simp⟩
def Un.write(mu:Mut (H x))(he:e=x\/H e=some (.own x))(k:∀b u,b≠e->h.get? b=some u->h'.get? b=some u)(heo:∃u,h'.get? e=some u):Un fs ex H (upd H x o) h h':=by
 have hx:∀b,H b=none->b≠x:=fun b n z=>by subst z;rw[n]at mu;exact mu
 have hb:∀b,H b=none->b≠e:=fun b n z=>by
  subst z;rcases he with r|r
  .exact hx b n r
  .rw[n]at r;cases r
 have hm:∀b u,H b=some u->¬Mut (some u)->b≠x:=fun b u q nm z=>by subst z;rw[q]at mu;exact nm mu
 refine⟨fun b u q n _ _=>k b u (hb b n) q,fun b u q n _ _=>⟨u.slots,k b u (hb b n) q⟩,fun b u q n _=>by rw[Zr (hx b n)];exact n,fun b u q _=>?_,
  fun b xs q=>by rw[Zr (hm b _ q fun z=>z)];exact q,fun b u xs q=>by rw[Zr (hm b _ q fun z=>z)];exact q,fun b ps q=>⟨#[],by rw[Zr (hm b _ q fun z=>z),q];simp⟩⟩
 by_cases hbe:b=e
 .subst hbe;exact heo
 .exact⟨u,k b u hbe q⟩
end
def trk(h:Heap)(H:Hp):List Addr:=(List.range h.objs.size).filter fun a=>(H a).isSome
def Zlj(h:Heap)(H:Hp):Heap:=PySem.W.hideAll h (trk h H)
def Zjm(h:Heap)(H:Hp):(Zlj h H).objs.size=h.objs.size:=PySem.W.hideAll_size _ _
def ZlF(e:h.get? b=some o)(n:H b=none):(Zlj h H).get? b=some o :=
 PySem.W.hideAll_get _ e fun hm=>by
  have q:(H b).isSome=true:=(List.mem_filter.mp hm).2
  rw[n]at q;simp at q
def ZnF(e:(Zlj h H).get? b=some o):h.get? b=some o/\H b=none:=by
 have e':h.get? b=some o:=PySem.W.of_hideAll (trk h H) e;refine⟨e',?_⟩;cases q:H b with
 | none=>rfl
 | some x =>
  have hm:b∈trk h H:=List.mem_filter.mpr ⟨YaJ.mpr (Ym e'),by simp[q]⟩;have z:(Zlj h H).get? b=none:=PySem.W.hideAll_none (trk h H) hm;rw[z]at e;cases e
def ZoQ(g h:Heap)(L:Addr):List (Addr×Obj):=(List.range h.objs.size).filterMap fun a=>if a=L\/(g.get? a).isSome=true then none else(h.get? a).map fun o=>(a,o)
def rest(g h:Heap)(L d:Addr):List (Addr×Obj):=(ZoQ g h L).filter fun p=>decide (p.1≠d)
structure Mod (K:YFr) (mg:Str->Option Value) (base:Heap):Prop where
 kin:K.In base
 glob:base.Ns mainGlobals mg
 blt:∃mb,base.Ns builtinsNs mb/\∀x:Str,x≠"__name__"->mb x=bootBuiltins x
 nolimit:base.NoLimit
structure Cx where
 prog:Program
 w : World
 K : YFr
 mg:Str->Option Value
 base:Heap
 A : Around
 N : List Str
 s₀:Shared
 H₀:Hp
 env:Env
 outer:List Env
 stack:List Env
 ex:List Addr
 fn:Str->Bool
 calm:Bool
 pn:List (Addr×Obj)
 xe:Value->Shared->Prop
def frs(l:List Env):List Addr:=l.filterMap (·.frame)
abbrev Cx.fs(X:Cx):List Addr:=frs X.outer
def Vis(sc:Scope)(x:Str):Prop:=sc.names.lookup x=some .local\/sc.names.lookup x=some .cell\/sc.names.lookup x=some .free
def Loc(sc:Scope)(x:Str):Prop:=sc.names.lookup x=some .local\/sc.names.lookup x=some .cell
def Zv4(env:Env)(h:Heap)(m:Str->Option Value)(x:Str)(u:Value):Prop :=
 (env.kindOf x=some .local/\m x=some u)\/((env.kindOf x=some .cell\/env.kindOf x=some .free)/\∃c,env.cells.lookup x=some c/\h.IsCell c (some u))
structure Cx.Ok (X:Cx):Prop where
 mod:Mod X.K X.mg X.base
 kind:X.env.scope.kind=.function
 glob:X.env.globals=mainGlobals
 blt:X.env.builtins=builtinsNs
 above:X.s₀.heap.objs.size<=X.env.locals
 inj:∀x y c,X.env.cells.lookup x=some c->X.env.cells.lookup y=some c->x=y
 has:∀x,(X.env.kindOf x=some .cell\/X.env.kindOf x=some .free)->∃c,X.env.cells.lookup x=some c
 cab:∀x c,X.fn x=true->X.env.cells.lookup x=some c->X.s₀.heap.objs.size<=c
 hd:X.calm=true->X.A.handled=none
 frames:X.A.frames=some X.stack
 stk:X.stack=X.outer\/(X.stack=X.env::X.outer/\X.env.frame=some X.env.locals)
 exf:∀b∈X.ex,b≠X.env.locals/\∀x c,X.env.cells.lookup x=some c->c≠b
 bs:∀b o,X.base.get? b=some o->X.s₀.heap.get? b=some o/\X.H₀ b=none
 bsz:X.base.objs.size<=X.s₀.heap.objs.size
 noex:∀b o,X.base.get? b=some o->b∉X.ex
 exfs:∀b∈X.ex,b∉X.fs
 funs:X.s₀.heap.FunFrames X.base X.outer
 frf:∀b∈X.fs,X.H₀ b=none
structure Inv (X:Cx) (pins:List (Addr×Obj)) (σ:List (Option V)) (H:Hp) (s:Shared):Prop where
 ok:X.Ok
 os:s.os=X.s₀.os
 bare:AllBare s.gens
 base:Un X.fs X.ex X.H₀ H X.s₀.heap s.heap
 loc:∃m,s.heap.Ns X.env.locals m/\∀(i:Nat)(x:Str)(v:V),X.N[i]? = some x->σ[i]? = some (some v)->Vis X.env.scope x->∃u,Zau v u/\Zv4 X.env s.heap m x u
 cell:∀x c,X.env.cells.lookup x=some c->∃v,s.heap.IsCell c v
 free:H X.env.locals=none
 freeC:∀x c,X.env.cells.lookup x=some c->H c=none
 pin:∀p∈X.pn++pins,s.heap.get? p.1=some p.2/\H p.1=none/\p.1≠X.env.locals/\p.1∉X.fs/\∀v,p.2.data≠.cell v
 hok:HOk X.prog X.w H s.heap
 len:σ.length=X.N.length
section
variable{X:Cx}
def Cx.Ok.nofr(ok:X.Ok)(e:X.base.get? b=some o):b∉X.fs:=fun hb=>by
 have:=(ok.funs.mem hb).1
 rw[e]at this;cases this
def Inv.bs(I:Inv X pins σ H s):∀b o,X.base.get? b=some o->s.heap.get? b=some o/\H b=none:=fun b o e =>
 ⟨I.base.keep b o (I.ok.bs b o e).1 (I.ok.bs b o e).2 (I.ok.nofr e) (I.ok.noex b o e),I.base.free b o (I.ok.bs b o e).1 (I.ok.bs b o e).2 (I.ok.noex b o e)⟩
def Inv.bk(I:Inv X pins σ H s):∀b o,X.base.get? b=some o->s.heap.get? b=some o:=fun b o e=>(I.bs b o e).1
def Inv.mod(I:Inv X pins σ H s):Mod X.K X.mg X.base:=I.ok.mod
def Inv.kIn(I:Inv X pins σ H s):X.K.In s.heap:=I.ok.mod.kin.keeps I.bk
def Inv.lt(I:Inv X pins σ H s):X.env.locals<s.heap.objs.size:=let⟨_,hn,_⟩:=I.loc;hn.lt
def Inv.sz(I:Inv X pins σ H s):X.s₀.heap.objs.size<=s.heap.objs.size:=YB I.ok.above (YaT I.lt)
def Inv.nofs(I:Inv X pins σ H s)(h:s.heap.objs.size<=a):a∉X.fs:=fun hb=>by
 obtain⟨_,o,ho,_⟩:=I.ok.funs.mem hb
 exact absurd (YI (Ym ho) (YB I.sz h)) (Ya8 _)
def Inv.cne(I:Inv X pins σ H s):∀x c,X.env.cells.lookup x=some c->c≠X.env.locals:=fun x c e z=>by
 obtain⟨v,o,ho,hd⟩:=I.cell x c e
 obtain⟨m,⟨o',es,ep,ho',hd',_⟩,_⟩:=I.loc
 rw[z,ho']at ho;cases ho;rw[hd']at hd;cases hd
def Inv.funs(I:Inv X pins σ H s):s.heap.FunFrames X.base X.outer:=by
 have all:∀(l:List Env),(∀b∈frs l,b∈X.fs)->X.s₀.heap.FunFrames X.base l->s.heap.FunFrames X.base l:=by
  intro l;induction l with
  | nil=>intro _ _;trivial
  | cons env r ih =>
   intro hs hl;obtain⟨hk,⟨L,o,hf,hn,ho,hd⟩,hr⟩:=hl;have hL:L∈X.fs:=hs L (by unfold frs;rw[List.filterMap_cons,hf];exact Yab);obtain⟨sl,e⟩:=I.base.slot L o ho (I.ok.frf L hL) hL fun z=>I.ok.exfs L z hL;exact⟨hk,⟨L,_,hf,hn,e,hd⟩,ih (fun b hb=>hs b (by unfold frs;rw[List.filterMap_cons,hf];exact Yad _ hb)) hr⟩
 exact all X.outer (fun _ hb=>hb) I.ok.funs
def Inv.stack(I:Inv X pins σ H s):s.heap.FunFrames X.base X.stack:=by
 rcases I.ok.stk with e|⟨e,hf⟩
 .rw[e];exact I.funs
 .rw[e];obtain⟨m,hn,_⟩:=I.loc;refine .cons (by rw[I.ok.kind];decide) hf hn ?_ I.funs;exact Heap.get?_none_of_le (YB I.ok.bsz I.ok.above)
def Inv.stkSub(I:Inv X pins σ H s):∀b∈frs X.stack,b∈X.env.locals::X.fs:=fun b hb=>by
 rcases I.ok.stk with e|⟨e,hf⟩
 .rw[e]at hb;exact Yad _ hb
 .rw[e]at hb
  unfold frs at hb
  rw[List.filterMap_cons,hf]at hb
  exact hb
def Inv.stkFree(I:Inv X pins σ H s):∀b∈frs X.stack,H b=none:=fun b hb=>by
 rcases Yn.mp (I.stkSub b hb)with e|hb
 .rw[e];exact I.free
 .obtain⟨_,o,ho,_⟩:=I.ok.funs.mem hb
  exact I.base.free b o ho (I.ok.frf b hb) fun z=>I.ok.exfs b z hb
def Inv.step{ch:List Addr}(I:Inv X pins σ H s)(hch:∀b∈ch,(b∈X.ex\/X.s₀.heap.objs.size<=b)/\b≠X.env.locals/\(∀x c,X.env.cells.lookup x=some c->c≠b)/\∀p∈X.pn++pins,p.1≠b)(keep:∀b o,b≠X.env.locals->b∉X.fs->b∉ch->s.heap.get? b=some o->H b=none->h'.get? b=some o)(slot:∀b o,b≠X.env.locals->b∈X.fs->b∉ch->s.heap.get? b=some o->H b=none->∃sl,h'.get? b=some { o with slots:=sl })(free:∀b o,b∉ch->s.heap.get? b=some o->H b=none->H' b=none)(there:∀b o,b∉ch->s.heap.get? b=some o->∃o',h'.get? b=some o')(tups:∀b xs,H b=some (.tup xs)->H' b=some (.tup xs))(frzs:∀b o u,H b=some (.frz o u)->H' b=some (.frz o u))(tbls:∀b ps,H b=some (.tbl ps)->∃more,H' b=some (.tbl (ps++more)))(ns:∀m,s.heap.Ns X.env.locals m->h'.Ns X.env.locals m)(hok:HOk X.prog X.w H' h')(hg:AllBare g'):
  Inv X pins σ H' { s with heap:=h',gens:=g',drawn:=d',toks:=t' }:=by
 have neL:∀b o,X.s₀.heap.get? b=some o->b≠X.env.locals:=fun b o e=>Yo (YI (Ym e) I.ok.above);have neC:∀b o,X.s₀.heap.get? b=some o->b∉X.ex->b∉ch:=fun b o e hx hb=>by
  rcases(hch b hb).1 with z|z
  .exact hx z
  .exact absurd (YI (Ym e) z) (Ya8 _)
 have cellK:∀x c,X.env.cells.lookup x=some c->∀v,s.heap.IsCell c v->h'.IsCell c v:=fun x c e v hq0=>by
  obtain⟨o,ho,hd⟩:=hq0;have nch:c∉ch:=fun z=>(hch c z).2.2.1 x c e rfl;by_cases hc:c∈X.fs
  .obtain⟨sl,q⟩:=slot c o (I.cne x c e) hc nch ho (I.freeC x c e);exact⟨_,q,hd⟩
  .exact⟨o,keep c o (I.cne x c e) hc nch ho (I.freeC x c e),hd⟩
 refine⟨I.ok,I.os,hg,⟨fun b o e n hb hx=>keep b o (neL b o e) hb (neC b o e hx) (I.base.keep b o e n hb hx) (I.base.free b o e n hx),fun b o e n hb hx=>?_,fun b o e n hx=>?_,fun b o e hx=>?_,fun b xs e=>tups b xs (I.base.tups b xs e),fun b o xs e=>frzs b o xs (I.base.frzs b o xs e),fun b ps e=>?_⟩,?_,fun x c e=>?_,?_,fun x c e=>?_,fun p hp=>?_,hok,I.len⟩
 .obtain⟨sl,e1⟩:=I.base.slot b o e n hb hx;obtain⟨sl',e2⟩:=slot b _ (neL b o e) hb (neC b o e hx) e1 (I.base.free b o e n hx);exact⟨sl',e2⟩
 .obtain⟨o',e1⟩:=I.base.there b o e hx;exact free b o' (neC b o e hx) e1 (I.base.free b o e n hx)
 .obtain⟨o',e1⟩:=I.base.there b o e hx;exact there b o' (neC b o e hx) e1
 .obtain⟨m1,e1⟩:=I.base.tbls b ps e;obtain⟨m2,e2⟩:=tbls b _ e1;exact⟨m1++m2,by rw[e2,Array.append_assoc]⟩
 .obtain⟨m,hn,hl⟩:=I.loc;refine⟨m,ns m hn,fun i x v e1 e2 e3=>?_⟩;obtain⟨u,r,l⟩:=hl i x v e1 e2 e3;refine⟨u,r,?_⟩;rcases l with l|⟨k,c,e,z⟩
  .exact .inl l
  .exact .inr ⟨k,c,e,cellK x c e _ z⟩
 .obtain⟨v,z⟩:=I.cell x c e;exact⟨v,cellK x c e v z⟩
 .obtain⟨m,⟨o,_,_,ho,_⟩,_⟩:=I.loc;exact free _ o (fun z=>(hch _ z).2.1 rfl) ho I.free
 .obtain⟨v,o,ho,hd⟩:=I.cell x c e;exact free c o (fun z=>(hch c z).2.2.1 x c e rfl) ho (I.freeC x c e)
 .obtain⟨e,n,ne,nf,d⟩:=I.pin p hp;have nch:p.1∉ch:=fun z=>(hch p.1 z).2.2.2 p hp rfl;exact⟨keep p.1 p.2 ne nf nch e n,free p.1 p.2 nch e n,ne,nf,d⟩
def Inv.un(I:Inv X pins σ H s)(u:Un X.fs [] H H' s.heap h')(hok:HOk X.prog X.w H' h'):Inv X pins σ H' { s with heap:=h',toks:=t' }:=by
 obtain⟨m,⟨o,es,ep,ho,r⟩,_⟩:=id I.loc;obtain⟨sl,hL⟩:=u.any ho I.free (by simp);exact I.step (g':=s.gens) (d':=s.drawn) (ch:=[]) (fun _ z=>nomatch z) (fun b o _ hb _ e n=>u.keep b o e n hb (by simp)) (fun b o _ hb _ e n=>u.slot b o e n hb (by simp)) (fun b o _ e n=>u.free b o e n (by simp)) (fun b o _ e=>u.there b o e (by simp)) u.tups u.frzs u.tbls (fun m' hm=>by
  obtain⟨o',es',ep',ho',r'⟩:=hm;rw[ho]at ho';cases ho';exact⟨_,es',ep',hL,r'⟩) hok I.bare
def Inv.call(I:Inv X pins σ H s)(u:Un (frs X.stack) ch H H' s.heap h')(hok:HOk X.prog X.w H' h')(hg:AllBare g')(hch:∀b∈ch,(b∈X.ex\/X.s₀.heap.objs.size<=b)/\b≠X.env.locals/\(∀x c,X.env.cells.lookup x=some c->c≠b)/\∀p∈X.pn++pins,p.1≠b):
  Inv X pins σ H' { s with heap:=h',gens:=g',drawn:=d',toks:=t' }:=by
 obtain⟨m,⟨o,es,ep,ho,r⟩,_⟩:=id I.loc;obtain⟨sl,hL⟩:=u.any ho I.free fun z=>(hch _ z).2.1 rfl;exact I.step (ch:=ch) hch (fun b o hL hb hc e n=>u.keep b o e n (fun z=>(Yn.mp (I.stkSub b z)).elim hL hb) hc) (fun b o _ _ hc e n=>u.any e n hc) (fun b o hc e n=>u.free b o e n hc) (fun b o hc e=>u.there b o e hc) u.tups u.frzs u.tbls (fun m' hm=>by
  obtain⟨o',es',ep',ho',r'⟩:=hm;rw[ho]at ho';cases ho';exact⟨_,es',ep',hL,r'⟩) hok hg
def Inv.turned(I:Inv X pins σ H s)(k:∀b o,b≠it->s.heap.get? b=some o->h'.get? b=some o)(hn:H it=none)(hL:it≠X.env.locals)(h1:it∈X.ex\/X.s₀.heap.objs.size<=it)(h2:∀x c,X.env.cells.lookup x=some c->c≠it)(h3:∀p∈X.pn++pins,p.1≠it):Inv X pins σ H { s with heap:=h',toks:=t' }:=by
 have nit:∀b u,H b=some u->b≠it:=fun b u e z=>by rw[z,hn]at e;cases e
 refine I.step (g':=s.gens) (d':=s.drawn) (ch:=[it]) (fun b hb=>?_) (fun b o _ _ hc e _=>k b o (fun z=>hc (by simp[z])) e) (fun b o _ _ hc e _=>⟨o.slots,k b o (fun z=>hc (by simp[z])) e⟩) (fun _ _ _ _ n=>n)
  (fun b o hc e=>⟨o,k b o (fun z=>hc (by simp[z])) e⟩) (fun _ _ e=>e) (fun _ _ _ e=>e) (fun b ps e=>⟨#[],by rw[e];simp⟩) (fun m hm=>?_) (fun b u e=>?_) I.bare
 .have e:b=it:=by simpa using hb
  subst e;exact⟨h1,hL,h2,h3⟩
 .obtain⟨o,es,ep,ho,r⟩:=hm;exact⟨o,es,ep,k _ o (Ne.symm hL) ho,r⟩
 .refine(I.hok b u e).stay (fun c v hc q=>k c v ?_ q) (fun _ q=>q) fun _ _ q=>q;rcases hc with z|z
  .rw[z];exact nit b u e
  .exact nit c _ z
def Inv.tok(I:Inv X pins σ H s)(t:Nat):Inv X pins σ H { s with toks:=t }:=I.un (h':=s.heap) (t':=t) Un.refl I.hok
def Inv.kept(I:Inv X pins σ H s)(k:∀b u,s.heap.get? b=some u->h'.get? b=some u):Inv X pins σ H { s with heap:=h',toks:=t' }:=I.un (Un.kept k) (I.hok.kept k)
def Inv.laid(I:Inv X pins σ H s)(k:∀b u,s.heap.get? b=some u->h'.get? b=some u)(hp:s.heap.objs.size<=a)(new:ZaO X.prog X.w (upd H a o) h' a o):
  Inv X pins σ (upd H a o) { s with heap:=h',toks:=t' }:=I.un (Un.laid k hp (I.hok.fresh hp)) (I.hok.laid k hp new)
def Inv.write(I:Inv X pins σ H s)(mu:Mut (H x))(he:e=x\/H e=some (.own x))(k:∀b u,b≠e->s.heap.get? b=some u->h'.get? b=some u)(heo:∃u,h'.get? e=some u)(new:ZaO X.prog X.w (upd H x o) h' x o):Inv X pins σ (upd H x o) { s with heap:=h',toks:=t' }:=I.un (Un.write mu he k heo) (I.hok.write mu he k heo new)
def Inv.pins_of(I:Inv X pins σ H s)(h:∀p∈pins',s.heap.get? p.1=some p.2/\H p.1=none/\p.1≠X.env.locals/\p.1∉X.fs/\∀v,p.2.data≠.cell v):Inv X pins' σ H s :=
 ⟨I.ok,I.os,I.bare,I.base,I.loc,I.cell,I.free,I.freeC,fun p hp=>(Yz.mp hp).elim (fun z=>I.pin p (Y7 _ z)) (h p),I.hok,I.len⟩
def Zad{N:List Str}(hN:N.Nodup){i j:Nat}(a:N[i]? = some x)(b:N[j]? = some x):i=j:=by
 obtain⟨h1,e1⟩:=Yh.mp a;obtain⟨h2,e2⟩:=Yh.mp b;exact(List.getElem_inj hN).mp (e1.trans e2.symm)
def Zdo(I:Inv X pins σ H s)(hN:X.N.Nodup)(hi:X.N[i]? = some x)(hx:Loc X.env.scope x)(r:Zau v u)(h:∀s',Inv X pins (σ.set i (some v)) H s'->(∃a,Heap.SameBut a s.heap s'.heap/\(a=X.env.locals\/X.env.cells.lookup x=some a))->Q () s')(hf:X.fn x=true\/X.env.scope.names.lookup x=some .local:=by first|exact .inl rfl|exact .inr rfl|assumption):wpAny M A (storeName X.env x u) Q E s:=by
 obtain⟨m,hn,hl⟩:=id I.loc;have hcls:(X.env.scope.kind==.class||(X.env.scope.kind==.module&&X.env.locals != X.env.globals))=false:=by rw[I.ok.kind];rfl
 have hiσ:i<σ.length:=by rw[I.len];exact(Yh.mp hi).1
 have cne:=I.cne;have tracked:∀ {a:Addr} {h':Heap},(∃o,s.heap.get? a=some o/\H a=none)->Heap.SameBut a s.heap h'->HOk X.prog X.w H h':=fun {a h'} ha hs b ob e=>by
  obtain⟨_,_,hfree⟩:=ha;refine(I.hok b ob e).stay (fun c w' hc q=>(hs.2 c ?_).trans q) (fun _ q=>q) fun _ _ q=>q;rintro rfl;rcases hc with rfl|hc
  .rw[hfree]at e;cases e
  .rw[hfree]at hc;cases hc
 rcases hx with hk|hk
 .refine wpAny_storeName_local hk hn (fun h' hn' hs=>?_) hcls;obtain⟨oL,_,_,hoL,_⟩:=id hn;refine h _ ⟨I.ok,I.os,I.bare,⟨fun b o e n hb hx=>(hs.2 b (Yo (YI (Ym e) I.ok.above))).trans (I.base.keep b o e n hb hx),fun b o e n hb hx=>?_,I.base.free,fun b o e hx=>?_,I.base.tups,I.base.frzs,I.base.tbls⟩,⟨_,hn',fun j y v' e1 e2 e3=>?_⟩,fun y c e=>?_,I.free,I.freeC,fun p hp=>?_,tracked ⟨oL,hoL,I.free⟩ hs,by simpa using I.len⟩ ⟨_,hs,.inl rfl⟩
  .obtain⟨sl,e1⟩:=I.base.slot b o e n hb hx;exact⟨sl,(hs.2 b (Yo (YI (Ym e) I.ok.above))).trans e1⟩
  .obtain⟨o',e1⟩:=I.base.there b o e hx;exact⟨o',(hs.2 b (Yo (YI (Ym e) I.ok.above))).trans e1⟩
  .by_cases hj:j=i
   .subst hj;rw[hi]at e1;cases e1;rw[Ybk hiσ]at e2;cases e2;exact⟨u,r,.inl ⟨hk,by simp⟩⟩
   .rw[Ybm (Ne.symm hj)]at e2;obtain⟨u',r',q⟩:=hl j y v' e1 e2 e3;refine⟨u',r',?_⟩;rcases q with⟨k,e⟩|⟨k,c,e,z⟩
    .refine .inl ⟨k,?_⟩;have:y≠x:=fun e=>hj (Zad hN e1 (e▸hi));simp[this,e]
    .exact .inr ⟨k,c,e,z.sameBut hs (cne y c e)⟩
  .obtain⟨w',z⟩:=I.cell y c e;exact⟨w',z.sameBut hs (cne y c e)⟩
  .obtain⟨e,n,ne,nf,d⟩:=I.pin p hp;exact⟨(hs.2 p.1 ne).trans e,n,ne,nf,d⟩
 .have hfn:X.fn x=true:=by
   rcases hf with z|z
   .exact z
   .rw[z]at hk;cases hk
  obtain⟨c,hc⟩:=I.ok.has x (.inl hk);obtain⟨w',z⟩:=I.cell x c hc;refine wpAny_storeName_cell I.ok.kind hk hc z (fun h' hc' hs=>?_);obtain⟨oc,hoc,hocd⟩:=id z;refine h { s with heap:=h' } ⟨I.ok,I.os,I.bare,⟨fun b o e n hb hx=>(hs.2 b (Yo (YI (Ym e) (I.ok.cab x c hfn hc)))).trans (I.base.keep b o e n hb hx),fun b o e n hb hx=>?_,I.base.free,fun b o e hx=>?_,I.base.tups,I.base.frzs,I.base.tbls⟩,⟨m,hn.sameBut hs (Ne.symm (cne x c hc)),fun j y v' e1 e2 e3=>?_⟩,fun y c' e=>?_,I.free,I.freeC,fun p hp=>?_,tracked ⟨oc,hoc,I.freeC x c hc⟩ hs,by simpa using I.len⟩ ⟨c,hs,.inr hc⟩
  .obtain⟨sl,e1⟩:=I.base.slot b o e n hb hx;exact⟨sl,(hs.2 b (Yo (YI (Ym e) (I.ok.cab x c hfn hc)))).trans e1⟩
  .obtain⟨o',e1⟩:=I.base.there b o e hx;exact⟨o',(hs.2 b (Yo (YI (Ym e) (I.ok.cab x c hfn hc)))).trans e1⟩
  .by_cases hj:j=i
   .subst hj;rw[hi]at e1;cases e1;rw[Ybk hiσ]at e2;cases e2;exact⟨u,r,.inr ⟨.inl hk,c,hc,hc'⟩⟩
   .rw[Ybm (Ne.symm hj)]at e2;obtain⟨u',r',q⟩:=hl j y v' e1 e2 e3;refine⟨u',r',?_⟩;rcases q with q|⟨k,c',e,z'⟩
    .exact .inl q
    .refine .inr ⟨k,c',e,z'.sameBut hs ?_⟩;rintro rfl;exact hj (Zad hN e1 (I.ok.inj _ _ _ e hc▸hi))
  .by_cases hcc:c'=c
   .subst hcc;exact⟨_,hc'⟩
   .obtain⟨w2,z2⟩:=I.cell y c' e;exact⟨w2,z2.sameBut hs hcc⟩
  .obtain⟨e,n,ne,nf,d⟩:=I.pin p hp;refine⟨(hs.2 p.1 ?_).trans e,n,ne,nf,d⟩;intro q;rw[q,hoc]at e;have q':oc=p.2:=YE e;exact d w' (by rw[<- q'];exact hocd)
def ZcF(I:Inv X pins σ H s)(hN:X.N.Nodup)(hi:X.N[i]? = some x)(hx:Loc X.env.scope x)(r:Zau v u)(h:∀s',Inv X pins (σ.set i (some v)) H s'->Q () s')(hf:X.fn x=true\/X.env.scope.names.lookup x=some .local:=by first|exact .inl rfl|exact .inr rfl|assumption):wpAny M A (storeName X.env x u) Q E s :=
 Zdo I hN hi hx r (fun s' I' _=>h s' I') hf
def Inv.call'(I:Inv X pins σ H s)(ho:s'.os=s.os)(u:Un (frs X.stack) ch H H' s.heap s'.heap)(hok:HOk X.prog X.w H' s'.heap)(hg:AllBare s'.gens)(hch:∀b∈ch,(b∈X.ex\/X.s₀.heap.objs.size<=b)/\b≠X.env.locals/\(∀x c,X.env.cells.lookup x=some c->c≠b)/\∀p∈X.pn++pins,p.1≠b):Inv X pins σ H' s':=by
 obtain⟨h',g',d',t',o'⟩:=s';have e:o'=s.os:=ho;subst e;exact I.call (g':=g') (t':=t') (d':=d') u hok hg hch
end
abbrev XK:=Value->Option Addr->Hp->Prop
abbrev St:=List (Option V)
abbrev VK:=V->Hp->Prop
abbrev TE:=St->Hp->VK->Prop
abbrev TT:=St->Hp->(Bool->Hp->Prop)->Prop
abbrev TA:=St->Hp->(List V->Hp->Prop)->Prop
structure Zez where
 nx:St->Hp->Prop
 rt:VK
 bk:St->Hp->Prop:=fun _ _=>False
 ct:St->Hp->Prop:=fun _ _=>False
abbrev TS:=Zez->St->Hp->Prop
def EP(X:Cx)(pins:List (Addr×Obj))(σ:St)(Q:VK)(u:Value)(s':Shared):Prop:=∃v H',Inv X pins σ H' s'/\Zau v u/\Q v H'
def TP(X:Cx)(pins:List (Addr×Obj))(σ:St)(Q:Bool->Hp->Prop)(b:Bool)(s':Shared):Prop:=∃H',Inv X pins σ H' s'/\Q b H'
def AP(X:Cx)(pins:List (Addr×Obj))(σ:St)(Q:List V->Hp->Prop)(us:List Value)(s':Shared):Prop:=∃vs H',Inv X pins σ H' s'/\Z6 vs us/\Q vs H'
def SP(X:Cx)(pins:List (Addr×Obj))(D:Zez)(f:Flow)(s':Shared):Prop :=
 match f with
 | .next=>∃σ' H',Inv X pins σ' H' s'/\D.nx σ' H'
 | .brk=>∃σ' H',Inv X pins σ' H' s'/\D.bk σ' H'
 | .cont=>∃σ' H',Inv X pins σ' H' s'/\D.ct σ' H'
 | .ret u=>∃v σ' H',Inv X pins σ' H' s'/\Zau v u/\D.rt v H'
def PE(X:Cx)(e:Expr)(t:TE):Prop :=
 ∀(pins:List (Addr×Obj))(s:Shared)(σ:St)(H:Hp)(Q:VK),Inv X pins σ H s->t σ H Q->wpAny (model X.prog X.w) X.A (eval e X.env) (EP X pins σ Q) X.xe s
def PT(X:Cx)(e:Expr)(t:TT):Prop :=
 ∀(pins:List (Addr×Obj))(s:Shared)(σ:St)(H:Hp)(Q:Bool->Hp->Prop),Inv X pins σ H s->t σ H Q->wpAny (model X.prog X.w) X.A (isTrue e X.env (eval e X.env)) (TP X pins σ Q) X.xe s
def PW(X:Cx)(e:Expr)(t:TT):Prop :=
 ∀(whole:Sem Value)(pins:List (Addr×Obj))(s:Shared)(σ:St)(H:Hp)(Q:Bool->Hp->Prop),Inv X pins σ H s->t σ H Q->wpAny (model X.prog X.w) X.A (isTrue e X.env whole) (TP X pins σ Q) X.xe s
def PW.pt(h:PW X e t):PT X e t:=h _
def PA(X:Cx)(es:List Expr)(t:TA):Prop :=
 ∀(pos:Pos)(pins:List (Addr×Obj))(s:Shared)(σ:St)(H:Hp)(Q:List V->Hp->Prop),Inv X pins σ H s->t σ H Q->wpAny (model X.prog X.w) X.A (spliced (backTo pos (starEach es X.env))) (AP X pins σ Q) X.xe s
def PS(X:Cx)(st:Stmt)(t:TS):Prop :=
 ∀(pins:List (Addr×Obj))(s:Shared)(σ:St)(H:Hp)(D:Zez),Inv X pins σ H s->t D σ H->wpAny (model X.prog X.w) X.A (exec st X.env) (SP X pins D) X.xe s
def PSs(X:Cx)(st:List Stmt)(t:TS):Prop :=
 ∀(pins:List (Addr×Obj))(s:Shared)(σ:St)(H:Hp)(D:Zez),Inv X pins σ H s->t D σ H->wpAny (model X.prog X.w) X.A (execs st X.env) (SP X pins D) X.xe s
def thn(h:wpAny M A t Q E s)(hQ:∀a s,Q a s->Q' a s):wpAny M A t Q' E s:=YG h hQ fun _ _ x=>x
section
def Zjh(i:Nat):TE:=fun σ H Q=>∃v,σ[i]? = some (some v)/\Q v H
def tC(v:V):TE:=fun _ H Q=>Q v H
def ZrU(hN:X.N[i]? = some x)(hv:Vis X.env.scope x)(hd:(x==("__debug__":Str))=false:=by decide)(hcd:(x==("__classdict__":Str))=false:=by decide):PE X (.Name x pos) (Zjh i):=by
 intro pins s σ H Q I h;obtain⟨v,e,h⟩:=h;obtain⟨m,hn,hl⟩:=I.loc;obtain⟨u,r,l⟩:=hl i x v hN e hv;have fin:EP X pins σ Q u s:=⟨v,H,I,r,h⟩;rcases l with⟨hk,hm⟩|⟨hk,c,hc,hcell⟩
 .exact Ycn (wpAny_loadName_local I.ok.kind hk hn hm fin) hd
 .rcases hk with hk|hk
  .exact Ycn (wpAny_loadName_cell I.ok.kind hk hc hcell fin) hd
  .exact Ycn (wpAny_loadName_free I.ok.kind hk hc hcell fin hcd) hd
def Zl:PE X (.Constant (.int i) j pos) (tC (.int i)):=fun _ _ _ H _ I h=>wpAny_Constant_int ⟨.int i,H,I.tok _,⟨_,rfl⟩,h⟩
def Zda:PE X (.Constant (.bool b) j pos) (tC (.bl b)):=fun _ _ _ H _ I h=>Constant_bool ⟨.bl b,H,I,rfl,h⟩
def Zb6:PE X (.Constant .none j pos) (tC .non):=fun _ _ _ H _ I h=>Constant_none ⟨.non,H,I,rfl,h⟩
def ZF:PE X (.Constant (.str x) j pos) (tC (.str x)):=fun _ _ _ H _ I h=>Calls.Constant_str ⟨.str x,H,I.tok _,⟨_,rfl⟩,h⟩
def Gl(X:Cx)(x:Str):Prop:=X.env.kindOf x=some .globalImplicit
def Za0(I:Inv X pins σ H s)(hg:Gl X x)(hm:X.mg x=some u)(h:Q u s)(hd:(x==("__debug__":Str))=false:=by decide):wpAny (model X.prog X.w) X.A (eval (.Name x pos) X.env) Q E s :=
 Ybx I.ok.kind hg (Calls.loadGlobal_global (by rw[I.ok.glob];exact I.mod.glob.keeps I.bk) hm h) hd
def ZcA(I:Inv X pins σ H s)(hg:Gl X x)(hm:X.mg x=none)(hv:bootBuiltins x=some u)(h:Q u s)(hn:x≠"__name__":=by decide)(hd:(x==("__debug__":Str))=false:=by decide):wpAny (model X.prog X.w) X.A (eval (.Name x pos) X.env) Q E s:=by
 obtain⟨mb,h1,h2⟩:=I.mod.blt;exact Ybx I.ok.kind hg (Calls.loadGlobal_builtin (by rw[I.ok.glob];exact I.mod.glob.keeps I.bk) hm (by rw[I.ok.blt];exact h1.keeps I.bk) ((h2 x hn).trans hv) h) hd
def Zan(hg:Gl X x)(hm:X.mg x=some u)(r:Zau v u)(hd:(x==("__debug__":Str))=false:=by decide):PE X (.Name x pos) (tC v) :=
 fun _ _ _ H _ I h=>Za0 I hg hm ⟨v,H,I,r,h⟩ hd
def Zoq(hg:Gl X x)(hm:X.mg x=none)(hv:bootBuiltins x=some u)(r:Zau v u)(hn:x≠"__name__":=by decide)(hd:(x==("__debug__":Str))=false:=by decide):PE X (.Name x pos) (tC v) :=
 fun _ _ _ H _ I h=>ZcA I hg hm hv ⟨v,H,I,r,h⟩ hn hd
def PC(X:Cx)(op:CmpOp)(a b:Expr)(t:TE):Prop :=
 ∀(pins:List (Addr×Obj))(s:Shared)(σ:St)(H:Hp)(Q:VK),Inv X pins σ H s->t σ H Q ->
  wpAny (model X.prog X.w) X.A (eval a X.env) (fun v s₁=>wpAny (model X.prog X.w) X.A (eval b X.env) (fun u s₂=>wpAny (model X.prog X.w) X.A (compareOp op v u) (EP X pins σ Q) X.xe s₂) X.xe s₁) X.xe s
def tB(t:TE):TT:=fun σ H Q=>t σ H fun x H1=>∃c,x=.bl c/\Q c H1
def Za8(h:PE X e t)(he:∀whole,isTrue e X.env whole=(do let v <- whole;standAt e.pos;holding [v] (truthy v)):=by intro _;rfl):PT X e (tB t):=by
 intro pins s σ H Q I hw;refine isTrue_plain (thn (h pins s σ H _ I hw) fun v s1 ⟨x,H1,I1,r1,q1⟩=>?_) (he _);obtain⟨d,rfl,q⟩:=q1;cases r1;exact YaR ⟨H1,I1,q⟩
variable{rest:List Expr}
def Zvl(t u:TT):TT:=fun σ H Q=>t σ H fun c H1=>if c=true then u σ H1 Q else Q false H1
def tOr(t u:TT):TT:=fun σ H Q=>t σ H fun c H1=>if c=true then Q true H1 else u σ H1 Q
def Zu7(t:TT):TT:=fun σ H Q=>t σ H fun c H1=>Q (!c) H1
def ZbO(ha:PT X a tA):PW X (.BoolOp .And [a] pos) tA:=by
 intro wh pins s σ H Q I h;refine isTrue_and (thn (ha pins s σ H Q I h) fun c s1 e=>?_);cases c with
 | true=>exact isTrue_and_nil e
 | false=>exact e
def Zdw(ha:PT X a tA):PW X (.BoolOp .Or [a] pos) tA:=by
 intro wh pins s σ H Q I h;refine isTrue_or (thn (ha pins s σ H Q I h) fun c s1 e=>?_);cases c with
 | false=>exact isTrue_or_nil e
 | true=>exact e
def Zcz(ha:PT X a tA)(hb:PW X (.BoolOp .And (b::rest) pos) tB'):PW X (.BoolOp .And (a::b::rest) pos) (Zvl tA tB'):=by
 intro wh pins s σ H Q I h;refine isTrue_and (thn (ha pins s σ H _ I h) fun c s1 h_q=>?_);obtain⟨H1,I1,q1⟩:=h_q;cases c with
 | true=>exact hb wh pins s1 σ H1 Q I1 q1
 | false=>exact⟨H1,I1,q1⟩
def ZfM(ha:PT X a tA)(hb:PW X (.BoolOp .Or (b::rest) pos) tB'):PW X (.BoolOp .Or (a::b::rest) pos) (tOr tA tB'):=by
 intro wh pins s σ H Q I h;refine isTrue_or (thn (ha pins s σ H _ I h) fun c s1 h_q=>?_);obtain⟨H1,I1,q1⟩:=h_q;cases c with
 | true=>exact⟨H1,I1,q1⟩
 | false=>exact hb wh pins s1 σ H1 Q I1 q1
def Zjw(ha:PT X a tA):PT X (.UnaryOp .Not a pos) (Zu7 tA):=by
 intro pins s σ H Q I h;exact isTrue_not (ha pins s σ H (fun c H1=>Q (!c) H1) I h)
def ZvJ(ta tb:TE):TE:=fun σ H Q=>ta σ H fun x H1=>∃c,x=.bl c/\if c=true then Q (.bl true) H1 else tb σ H1 Q
def Zq8(h:PE X a t):PE X (.BoolOp op [a] pos) t:=fun pins s σ H Q I hw=>BoolOp_one (h pins s σ H Q I hw)
def Zte(ha:PE X a ta)(hb:PE X (.BoolOp .Or (b::rest) pos) tb):PE X (.BoolOp .Or (a::b::rest) pos) (ZvJ ta tb):=by
 intro pins s σ H Q I h;refine BoolOp_or (thn (ha pins s σ H _ I h) fun v s1 h_q=>?_);obtain⟨x,H1,I1,r1,q1⟩:=h_q;obtain⟨c,rfl,q1⟩:=q1;cases r1;refine YaR ?_;cases c with
 | false=>exact hb pins s1 σ H1 Q I1 q1
 | true=>exact⟨.bl true,H1,I1,rfl,q1⟩
end
def SqL(K:YFr)(H:Hp)(a:Addr)(xs:List V):Prop :=
 Rd H a (.lst xs) \/
  ∃(o:Obj)(its:Array Value)(n:Nat),K.lookup a=some o/\o.cls=.type "list"/\o.dict=none/\o.data=.seq its n/\its.size<=sizeLine/\Z6 xs its.toList
def SqT(K:YFr)(H:Hp)(a:Addr)(xs:List V):Prop :=
 Rd H a (.tup xs) \/
  ∃(o:Obj)(its:Array Value)(n:Nat),K.lookup a=some o/\o.cls=.type "tuple"/\o.data=.seq its n/\its.size<=sizeLine/\Z6 xs its.toList
def Zv8:Value->Option V
 | .none=>some .non
 | .bool b=>some (.bl b)
 | .int i _=>some (.int i)
 | .str x _=>some (.str x)
 | .bytes b _=>some (.byt b)
 | .float b _=>some (.flt b)
 | .ref a=>some (.ref a)
 | .type n=>some (.ty n)
 | _=>none
def Zau.abs(r:Zau x u):Zv8 u=some x:=by
 cases x with
 | non=>cases r;rfl
 | bl _=>cases r;rfl
 | int _=>obtain⟨t,rfl⟩:=r;rfl
 | str _=>obtain⟨t,rfl⟩:=r;rfl
 | byt _=>obtain⟨t,rfl⟩:=r;rfl
 | flt _=>obtain⟨t,rfl⟩:=r;rfl
 | ref _=>cases r;rfl
 | ty _=>cases r;rfl
def Zau.inj(r:Zau x u)(q:Zau y u):x=y:=YE (r.abs.symm.trans q.abs)
def Z6.inj:∀ {xs ys:List V} {us:List Value},Z6 xs us->Z6 ys us->xs=ys
 | _,_,_,.nil,.nil=>rfl
 | _,_,_,.cons r t,.cons r' t'=>by rw[r.inj r',Z6.inj t t']
section
def SqL.of{K:YFr}(h:H a=some (.lst xs)):SqL K H a xs:=.inl (.inl h)
def SqT.of{K:YFr}(h:H a=some (.tup xs)):SqT K H a xs:=.inl (.inl h)
def Inv.list(I:Inv X pins σ H s)(h:SqL X.K H a xs):∃its:List Value,Z6 xs its/\PlainL s.heap a its.toArray/\xs.length<=sizeLine:=by
 rcases h with h|⟨o,its,n,hk,hc,hd,hs,hz,r⟩
 .obtain⟨z,its,n,r,e⟩:=h.ok I.hok;exact⟨its,r,⟨_,n,e,rfl,rfl,rfl⟩,z⟩
 .refine⟨its.toList,r,⟨o,n,I.kIn a o hk,hc,hd,by simpa using hs⟩,?_⟩;have e:=r.length;simp only[Array.length_toList]at e;lia
def Inv.tuple(I:Inv X pins σ H s)(h:SqT X.K H a xs):∃its:List Value,Z6 xs its/\IsTup s.heap a its.toArray/\xs.length<=sizeLine:=by
 rcases h with h|⟨o,its,n,hk,hc,hs,hz,r⟩
 .obtain⟨z,its,r,p⟩:=h.ok I.hok;exact⟨its,r,p,z⟩
 .refine⟨its.toList,r,⟨o,I.kIn a o hk,hc,n,by simpa using hs⟩,?_⟩;have e:=r.length;simp only[Array.length_toList]at e;lia
def Inv.list_inj(I:Inv X pins σ H s)(h:SqL X.K H a xs)(h':SqL X.K H a ys):xs=ys:=by
 obtain⟨its,r,⟨o,n,e,_,_,d⟩,_⟩:=I.list h;obtain⟨its',r',⟨o',n',e',_,_,d'⟩,_⟩:=I.list h';rw[e]at e';cases e';rw[d]at d';injection d' with d1 _;have:its=its':=by simpa using congrArg Array.toList d1
 subst this;exact r.inj r'
def Inv.tuple_inj(I:Inv X pins σ H s)(h:SqT X.K H a xs)(h':SqT X.K H a ys):xs=ys:=by
 obtain⟨its,r,⟨o,e,_,n,d⟩,_⟩:=I.tuple h;obtain⟨its',r',⟨o',e',_,n',d'⟩,_⟩:=I.tuple h';rw[e]at e';cases e';rw[d]at d';injection d' with d1 _;have:its=its':=by simpa using congrArg Array.toList d1
 subst this;exact r.inj r'
end
abbrev Cx.wish(X:Cx)(E:Value->Shared->Prop):Cx:={ X with xe:=E }
abbrev Cx.nox(X:Cx):Cx:=X.wish fun _ _=>False
def Cx.Ok.wish{X:Cx}(ok:X.Ok)(E:Value->Shared->Prop):(X.wish E).Ok :=
 ⟨ok.mod,ok.kind,ok.glob,ok.blt,ok.above,ok.inj,ok.has,ok.cab,ok.hd,ok.frames,ok.stk,ok.exf,ok.bs,ok.bsz,ok.noex,ok.exfs,ok.funs,ok.frf⟩
def Cx.Ok.unwish{X:Cx}(ok:(X.wish E).Ok):X.Ok :=
 ⟨ok.mod,ok.kind,ok.glob,ok.blt,ok.above,ok.inj,ok.has,ok.cab,ok.hd,ok.frames,ok.stk,ok.exf,ok.bs,ok.bsz,ok.noex,ok.exfs,ok.funs,ok.frf⟩
section
def Inv.wish(I:Inv X pins σ H s)(E:Value->Shared->Prop):Inv (X.wish E) pins σ H s:=⟨I.ok.wish E,I.os,I.bare,I.base,I.loc,I.cell,I.free,I.freeC,I.pin,I.hok,I.len⟩
def Inv.unwish(I:Inv (X.wish E) pins σ H s):Inv X pins σ H s:=⟨I.ok.unwish,I.os,I.bare,I.base,I.loc,I.cell,I.free,I.freeC,I.pin,I.hok,I.len⟩
def SP.unwish(h:SP (X.wish E) pins D f s'):SP X pins D f s':=by
 cases f with
 | next=>obtain⟨σ',H',I,q⟩:=h;exact⟨σ',H',I.unwish,q⟩
 | brk=>obtain⟨σ',H',I,q⟩:=h;exact⟨σ',H',I.unwish,q⟩
 | cont=>obtain⟨σ',H',I,q⟩:=h;exact⟨σ',H',I.unwish,q⟩
 | ret u=>obtain⟨v,σ',H',I,r,q⟩:=h;exact⟨v,σ',H',I.unwish,r,q⟩
def PSs.nox{st:List Stmt}(h:PSs X.nox st t):PSs X st t:=fun pins s σ H D I hw =>
 YG (h pins s σ H D (I.wish _) hw) (fun _ _ q=>q.unwish) fun _ _ z=>False.elim z
end
section
variable{st:Stmt}{rest:List Stmt}
def ZpX:TS:=fun D σ H=>D.nx σ H
def ZsA(t u:TS):TS:=fun D σ H=>t { D with nx:=u D } σ H
def Zz:PSs X [] ZpX:=fun _ _ σ H _ I h=>YaM ⟨σ,H,I,h⟩
def Ze(h1:PS X st t)(h2:PSs X rest u):PSs X (st::rest) (ZsA t u):=by
 intro pins s σ H D I h;refine YbC (thn (h1 pins s σ H { D with nx:=u D } I h) fun f s1 q=>?_);cases f with
 | next =>
  obtain⟨σ',H',I',q⟩:=q;exact h2 pins s1 σ' H' D I' q
 | ret v=>exact q
 | brk=>exact q
 | cont=>exact q
def Zh(h1:PS X st t):PSs X [st] t:=by
 intro pins s σ H D I h;refine YbC (thn (h1 pins s σ H D I h) fun f s1 q=>?_);cases f with
 | next=>exact YaM q
 | ret v=>exact q
 | brk=>exact q
 | cont=>exact q
def Inv.quiet(I:Inv X pins σ H s):interactive X.env=false:=by simp[interactive,I.ok.kind]
def ZkN(te:TE):TS:=fun D σ H=>te σ H fun _ H1=>D.nx σ H1
def ZU(he:PE X e te)(hs:swapsWith e none pos.line X.env=pure false:=by rfl):PS X (.Expr e pos) (ZkN te):=by
 intro pins s σ H D I h;exact wpAny_Expr_any (thn (he pins s σ H _ I h) fun v s1 ⟨x,H1,I1,r1,q1⟩=>⟨σ,H1,I1,q1⟩) I.quiet hs
def Zvf(te:TE):TS:=fun D σ H=>te σ H D.rt
def Zt(he:PE X e te):PS X (.Return (some e) pos) (Zvf te):=by
 intro pins s σ H D I h;exact wpAny_Return_some (thn (he pins s σ H _ I h) fun v s1 ⟨x,H1,I1,r1,q1⟩=>⟨x,σ,H1,I1,r1,q1⟩)
def Zuy(c:TT)(t u:TS):TS:=fun D σ H=>c σ H fun b H1=>if b=true then t D σ H1 else u D σ H1
def ZQ(hc:PT X c tc)(ha:PSs X a t)(hb:PSs X b u):PS X (.If c a b pos) (Zuy tc t u):=by
 intro pins s σ H D I h;refine wpAny_If (thn (hc pins s σ H _ I h) fun d s1 h_q=>?_);obtain⟨H1,I1,q1⟩:=h_q;cases d with
 | true=>exact ha pins s1 σ H1 D I1 q1
 | false=>exact hb pins s1 σ H1 D I1 q1
end
abbrev TG:=V->St->Hp->(St->Hp->Prop)->Prop
abbrev TGs:=List V->St->Hp->(St->Hp->Prop)->Prop
def PG(X:Cx)(target:Expr)(t:TG):Prop :=
 ∀(pins:List (Addr×Obj))(s:Shared)(σ:St)(H:Hp)(v:V)(u:Value)(Q:St->Hp->Prop),Inv X pins σ H s->Zau v u->t v σ H Q ->
  wpAny (model X.prog X.w) X.A (assign target X.env u) (fun _ s'=>∃σ' H',Inv X pins σ' H' s'/\Q σ' H') X.xe s
def PGs(X:Cx)(ts:List Expr)(t:TGs):Prop :=
 ∀(pins:List (Addr×Obj))(s:Shared)(σ:St)(H:Hp)(vs:List V)(us:List Value)(Q:St->Hp->Prop),Inv X pins σ H s->Z6 vs us->t vs σ H Q ->
  wpAny (model X.prog X.w) X.A (assignInOrder ((assignEach ts X.env).map (·.2)) us) (fun _ s'=>∃σ' H',Inv X pins σ' H' s'/\Q σ' H') X.xe s
abbrev Zud:=V->V->V->Hp->(Hp->Prop)->Prop
def Zvo(X:Cx)(t:Zud):Prop :=
 ∀(pins:List (Addr×Obj))(s:Shared)(σ:St)(H:Hp)(o i v:V)(ov iv u:Value)(Q:Hp->Prop),Inv X pins σ H s->Zau o ov->Zau i iv->Zau v u->t o i v H Q ->
  wpAny (model X.prog X.w) X.A (setItem ov iv u) (fun _ s'=>∃H',Inv X pins σ H' s'/\Q H') X.xe s
section
def ZfG(i:Nat):TG:=fun v σ H Q=>Q (σ.set i (some v)) H
def Zq(hN:X.N.Nodup)(hi:X.N[i]? = some x)(hx:Loc X.env.scope x)(hf:X.fn x=true\/X.env.scope.names.lookup x=some .local:=by first|exact .inl rfl|exact .inr rfl|assumption):PG X (.Name x pos) (ZfG i):=by
 intro pins s σ H v u Q I r h;exact Ybz (ZcF I hN hi hx r (fun s' I'=>⟨_,H,I',h⟩) hf)
def ZuX:TGs:=fun vs σ H Q=>vs=[]/\Q σ H
def Zkz(t:TG)(u:TGs):TGs:=fun vs σ H Q=>∃v r,vs=v::r/\t v σ H fun σ' H'=>u r σ' H' Q
def Zax:PGs X [] ZuX:=by
 intro pins s σ H vs us Q I r h;obtain⟨e,h⟩:=h;subst e;cases r;exact assignInOrder_nil ⟨σ,H,I,h⟩
def ZG(h1:PG X e t)(h2:PGs X es u)(hs:(assignEach (e::es) X.env).map (·.2)=assign e X.env::(assignEach es X.env).map (·.2):=by rfl):PGs X (e::es) (Zkz t u):=by
 intro pins s σ H vs us Q I r h;obtain⟨v,vr,e1,h⟩:=h;subst e1;cases r with
 | cons r rr =>
  rw[hs];refine assignInOrder_cons (thn (h1 pins s σ H _ _ _ I r h) fun _ s1 h_q=>?_);obtain⟨σ1,H1,I1,q1⟩:=h_q;exact h2 pins s1 σ1 H1 _ _ Q I1 rr q1
def Zsw(K:YFr)(n:Nat)(t:TGs):TG:=fun v σ H Q=>∃a xs,v=.ref a/\SqT K H a xs/\xs.length=n/\t xs σ H Q
def ZbL(hc:X.calm=true)(h:PGs X es t)(hn:(assignEach es X.env).length=n:=by rfl)(hst:(assignEach es X.env).findIdx? (·.1)=none:=by rfl):PG X (.Tuple es k pos) (Zsw X.K n t):=by
 intro pins s σ H v u Q I r hw;obtain⟨a,xs,e1,hq,hl,hw⟩:=hw;subst e1;cases r;obtain⟨its,rv,ht,hz⟩:=I.tuple hq;refine assign_Tuple_tuple (I.ok.hd hc) ht (by simp[hn,<- hl,rv.length]) hst fun h' hx=>?_;have I1:Inv X pins σ H { s with heap:=h' }:=I.kept (t':=s.toks) fun b o e=>hx b o (Yo (Ym e)) e;exact h pins _ σ H xs _ Q I1 (by simpa using rv) hw
def Zvb(to ti:TE)(t:Zud):TG:=fun v σ H Q=>to σ H fun o H1=>ti σ H1 fun i H2=>t o i v H2 fun H3=>Q σ H3
def ZdD(ho:PE X o to)(hi:PE X i ti)(hs:Zvo X t)(ha : ∀ v,assign (.Subscript o i pos) X.env v=(do
   let ov <- holding [v] (eval o X.env)
   let iv <- holding [v,ov] (eval i X.env)
   standAt pos
   holding [v,ov,iv] (setItem ov iv v)
   release [v,ov,iv] []):=by intro _;rfl):PG X (.Subscript o i pos) (Zvb to ti t):=by
 intro pins s σ H v u Q I r h;rw[ha];refine Yb (YT (thn (ho pins s σ H _ I h) fun ov s1 h_q=>?_));obtain⟨x,H1,I1,r1,q1⟩:=h_q;refine Yb (YT (thn (hi pins s1 σ H1 _ I1 q1) fun iv s2 h_q=>?_));obtain⟨y,H2,I2,r2,q2⟩:=h_q;refine Yb (YaF (Yb (YT (thn (hs pins s2 σ H2 x y v ov iv u _ I2 r1 r2 r q2) fun _ s3 h_q=>?_))));obtain⟨H3,I3,q3⟩:=h_q;exact wpAny_release ⟨σ,H3,I3,q3⟩
def Zqm(te:TE)(g:TG):TS:=fun D σ H=>te σ H fun x H1=>g x σ H1 D.nx
def ZdN(he:PE X e te)(hg:PG X tg g)(hs:swapsWithSole [tg] e pos.line X.env=pure false:=by rfl)(hw:swappedStores [tg] e X.env=pure none:=by rfl)(h1:(assignEach [tg] X.env).map (·.2)=[assign tg X.env]:=by rfl):PS X (.Assign [tg] e pos) (Zqm te g):=by
 intro pins s σ H D I h;refine wpAny_Assign_stores (thn (he pins s σ H _ I h) fun v s1 ⟨x,H1,I1,r1,q1⟩=>?_) hs hw;rw[h1];exact thn (hg pins s1 σ H1 x v _ I1 r1 q1) fun _ s2 q=>q
def ZC(hN:X.N.Nodup)(hi:X.N[i]? = some x)(hx:Loc X.env.scope x)(he:PE X e te)(hs:swapsWith e (some (.Name x pos')) pos.line X.env=pure false:=by rfl)(hf:X.fn x=true\/X.env.scope.names.lookup x=some .local:=by first|exact .inl rfl|exact .inr rfl|assumption):
  PS X (.Assign [.Name x pos'] e pos) (Zqm te (ZfG i)):=by
 intro pins s σ H D I h;exact wpAny_Assign_Name (thn (he pins s σ H _ I h) fun v s1 ⟨y,H1,I1,r1,q1⟩=>ZcF I1 hN hi hx r1 (fun s2 I2=>⟨_,H1,I2,q1⟩) hf) hs
end
section
def ZmL(c:TT)(tb:TS):TS:=fun D σ H=>∃W:Nat->St->Hp->Prop,(∃m,W m σ H)/\∀m σ H,W m σ H ->
 c σ H fun b H1=>if b=true then ∃N:St->Hp->Prop,(∀σ' H',N σ' H'->∃m',m'<m/\W m' σ' H')/\tb { D with nx:=N,ct:=N,bk:=D.nx } σ H1 else D.nx σ H1
def Zcb(hp:PassesOwn (model X.prog X.w) X.A X.env X.xe)(hc:PT X c tc)(hb:PSs X body tb):PS X (.While c body [] pos) (ZmL tc tb):=by
 intro pins s σ H D I h;obtain⟨W,⟨m0,w0⟩,turn⟩:=h;refine wpAny_While (codeAny_whileLoop (fun n s'=>∃σ' H',Inv X pins σ' H' s'/\W n σ' H') ?_ m0 ⟨σ,H,I,w0⟩);rintro n s1 ⟨σ1,H1,I1,w1⟩;refine YaN hp (thn (hc pins s1 σ1 H1 _ I1 (turn n σ1 H1 w1)) fun b s2 h_q=>?_);obtain⟨H2,I2,q2⟩:=h_q;cases b with
 | true =>
  obtain⟨N,hN,q2⟩:=q2;rw[if_pos rfl];refine YaN hp (thn (hb pins s2 σ1 H2 _ I2 q2) fun f s3 q3=>?_);cases f with
  | next =>
   obtain⟨σ3,H3,I3,n3⟩:=q3;obtain⟨m',hm,w3⟩:=hN σ3 H3 n3;exact⟨m',hm,σ3,H3,I3,w3⟩
  | cont =>
   obtain⟨σ3,H3,I3,n3⟩:=q3;obtain⟨m',hm,w3⟩:=hN σ3 H3 n3;exact⟨m',hm,σ3,H3,I3,w3⟩
  | brk=>exact q3
  | ret v=>exact q3
 | false =>
  rw[if_neg Yu];exact YaM ⟨σ1,H2,I2,q2⟩
end
structure It where
 go:Nat->Hp->Prop
 yld:Nat->Hp->V->Hp->Prop
 stop:Nat->Hp->Prop
def Zey(X:Cx)(pins:List (Addr×Obj))(H:Hp)(b:Addr):Prop :=
 H b=none/\b≠X.env.locals/\b∉X.fs/\(b∈X.ex\/X.s₀.heap.objs.size<=b)/\(∀x c,X.env.cells.lookup x=some c->c≠b)/\∀p∈X.pn++pins,p.1≠b
def Inv.fpOk(I:Inv X pins σ H s)(hb:s.heap.objs.size<=b)(hn:H' b=none):Zey X pins H' b:=by
 refine⟨hn,Yay (YI I.lt hb),I.nofs hb,.inr (YB I.sz hb),fun x c e z=>?_,fun p hp z=>absurd (YI (Ym (I.pin p hp).1) (by rw[z];exact hb)) (Ya8 _)⟩
 .obtain⟨v,q⟩:=I.cell x c e;exact absurd (YI q.lt (by rw[z];exact hb)) (Ya8 _)
structure Zkc (P:Program) (w:World) (K:YFr) (tg:Expr) (J:It) (fp:List Addr) (it:Addr) (tn:Nat->Heap->Prop):Prop where
 mem:it∈fp
 obj:∀i h,tn i h->∀b∈fp,∃o,h.get? b=some o/\∀v,o.data≠.cell v
 keep:∀i h h',tn i h->(∀b∈fp,∀o,h.get? b=some o->h'.get? b=some o)->tn i h'
 item : ∀(X:Cx),X.prog=P->X.w=w->X.K=K->X.calm=true->∀(i:Nat)(pins:List (Addr×Obj))(s:Shared)(σ:St)(H:Hp)(E:Value->Shared->Prop),Inv X pins σ H s->(∀b∈fp,Zey X pins H b)->tn i s.heap->J.go i H ->
  wpAny (model P w) X.A (pyNext (.ref it)) (fun r s1=>∃u,r=some u /\
   wpAny (model P w) X.A (letOwnedTupleGo tg (.ref it) u) (fun _ s2=>∃x H',Inv X pins σ H' s2/\Zau x u/\J.yld i H x H'/\tn (i+1) s2.heap/\∀b∈fp,H' b=none) E s1) E s
 done:∀(X:Cx),X.prog=P->X.w=w->X.K=K->X.calm=true->∀(i:Nat)(pins:List (Addr×Obj))(s:Shared)(σ:St)(H:Hp)(E:Value->Shared->Prop),Inv X pins σ H s->(∀b∈fp,Zey X pins H b)->tn i s.heap->J.stop i H ->
  wpAny (model P w) X.A (pyNext (.ref it)) (fun r s1=>r=none/\Inv X pins σ H s1) E s
 self:∀(A:Around)(i:Nat)(s:Shared)(Q:Value->Shared->Prop)(E:Value->Shared->Prop),tn i s.heap->Q (.ref it) s->wpAny (model P w) A (pyIter (.ref it)) Q E s
abbrev TI:=St->Hp->(It->Hp->Prop)->Prop
def PIE(X:Cx)(pins:List (Addr×Obj))(σ:St)(tg:Expr)(R:It->Hp->Prop)(itv:Value)(s2:Shared):Prop :=
 ∃(it:Addr)(fp:List Addr)(tn:Nat->Heap->Prop)(J:It)(H':Hp),itv=.ref it/\Inv X pins σ H' s2/\Zkc X.prog X.w X.K tg J fp it tn/\tn 0 s2.heap/\(∀b∈fp,Zey X pins H' b)/\R J H'
def PI(X:Cx)(tg iter:Expr)(wi:TI):Prop :=
 ∀(pins:List (Addr×Obj))(s:Shared)(σ:St)(H:Hp)(R:It->Hp->Prop),Inv X pins σ H s->wi σ H R ->
  wpAny (model X.prog X.w) X.A (eval iter X.env) (fun v s1=>wpAny (model X.prog X.w) X.A (pyIter v) (PIE X pins σ tg R) X.xe s1) X.xe s
def Zhu(ho:s.heap.get? it=some o)(hc:o.cls=.type n)(hd:o.data=.fields vs)(hn:["enumerate","zip","dict_itemiterator","dict_reverseitemiterator","odict_iterator","itertools.zip_longest","itertools.pairwise"].contains n=false)(hQ:Q () s):wpAny M A (letOwnedTupleGo tg (.ref it) u) Q E s:=by
 unfold letOwnedTupleGo;cases tg<;>first
  | exact Yd hQ
  | (cases u<;>first
    | exact Yd hQ
    | (refine Yb (wpAny_load ho ?_);rw[hc,hd];show wpAny M A (if(["enumerate","zip","dict_itemiterator","dict_reverseitemiterator","odict_iterator","itertools.zip_longest","itertools.pairwise"].contains n&&vs[0]? == some (rawInt _))=true then _ else _) Q E s;rw[if_neg (by intro h;rw[hn,Bool.false_and]at h;cases h)];exact Yd hQ))
def Itl(K:YFr)(a:Addr):It :=
 ⟨fun i H=>∃xs x,SqL K H a xs/\xs[i]? = some x,fun i H x H'=>H'=H/\∀xs,SqL K H a xs->xs[i]? = some x,fun i H=>∃xs,SqL K H a xs/\xs.length<=i⟩
def Itt(K:YFr)(a:Addr):It :=
 ⟨fun i H=>∃xs x,SqT K H a xs/\xs[i]? = some x,fun i H x H'=>H'=H/\∀xs,SqT K H a xs->xs[i]? = some x,fun i H=>∃xs,SqT K H a xs/\xs.length<=i⟩
def Itr(lo:Int)(n:Nat):It:=⟨fun i _=>i<n,fun i H x H'=>H'=H/\x=.int (lo+i),fun i _=>n<=i⟩
def Zj1{K:YFr}(a it:Addr):Zkc P w K tg (Itl K a) [it] it (fun i h=>h.IsListIter it a i) where
 mem:=by simp
 obj := fun i h st b hb=>by
  have e:b=it:=by simpa using hb
  subst e
  obtain⟨o,e,c,d⟩:=st
  exact⟨o,e,fun v z=>by rw[d]at z;cases z⟩
 keep:=fun i h h' st k=>st.at fun o e=>k it (by simp) o e
 item:=by
  intro X hP hw hK hc i pins s σ H E I hf st hg;subst hP hw hK;obtain⟨xs,x,hq,hx⟩:=hg;obtain⟨its,rv,p,hz⟩:=I.list hq;obtain⟨u,hu,ru⟩:=rv.get hx;obtain⟨f0,f1,f2,f3,f4,f5⟩:=hf it (by simp);refine wpAny_pyNext_list_item st p.isList (x:=u) (by simpa using hu) fun h' st' sb=>?_;have I1:Inv X pins σ H { s with heap:=h' }:=I.turned (t':=s.toks) (fun b o hb e=>(sb.2 b hb).trans e) f0 f1 f3 f4 f5;obtain⟨o,e,c,d⟩:=id st';exact⟨u,rfl,Zhu (s:={ s with heap:=h' }) e c d (by decide) ⟨x,H,I1,ru,⟨rfl,fun ys hy=>by rw[I.list_inj hy hq];exact hx⟩,st',fun b hb=>(hf b hb).1⟩⟩
 done:=by
  intro X hP hw hK hc i pins s σ H E I hf st hg;subst hP hw hK;obtain⟨xs,hq,hx⟩:=hg;obtain⟨its,rv,p,hz⟩:=I.list hq;obtain⟨f0,f1,f2,f3,f4,f5⟩:=hf it (by simp);have hl:=rv.length;exact wpAny_pyNext_list_end (I.ok.hd hc) st p.isList (by simp;lia) fun h' eb=>⟨rfl,I.turned (t':=s.toks) (fun b o hb e=>eb b o hb e) f0 f1 f3 f4 f5⟩
 self:=fun _ _ _ _ _ st h=>wpAny_pyIter_listiter st h
def ZhJ{K:YFr}(a it:Addr):Zkc P w K tg (Itt K a) [it] it (fun i h=>h.IsTupleIter it a i) where
 mem:=by simp
 obj := fun i h st b hb=>by
  have e:b=it:=by simpa using hb
  subst e
  obtain⟨o,e,c,d⟩:=st
  exact⟨o,e,fun v z=>by rw[d]at z;cases z⟩
 keep:=fun i h h' st k=>st.at fun o e=>k it (by simp) o e
 item:=by
  intro X hP hw hK hc i pins s σ H E I hf st hg;subst hP hw hK;obtain⟨xs,x,hq,hx⟩:=hg;obtain⟨its,rv,p,hz⟩:=I.tuple hq;obtain⟨u,hu,ru⟩:=rv.get hx;obtain⟨f0,f1,f2,f3,f4,f5⟩:=hf it (by simp);refine wpAny_pyNext_tuple_item st (show s.heap.IsTuple a its.toArray from p) (x:=u) (by simpa using hu) fun h' st' sb=>?_;have I1:Inv X pins σ H { s with heap:=h' }:=I.turned (t':=s.toks) (fun b o hb e=>(sb.2 b hb).trans e) f0 f1 f3 f4 f5;obtain⟨o,e,c,d⟩:=id st';exact⟨u,rfl,Zhu (s:={ s with heap:=h' }) e c d (by decide) ⟨x,H,I1,ru,⟨rfl,fun ys hy=>by rw[I.tuple_inj hy hq];exact hx⟩,st',fun b hb=>(hf b hb).1⟩⟩
 done:=by
  intro X hP hw hK hc i pins s σ H E I hf st hg;subst hP hw hK;obtain⟨xs,hq,hx⟩:=hg;obtain⟨its,rv,p,hz⟩:=I.tuple hq;obtain⟨f0,f1,f2,f3,f4,f5⟩:=hf it (by simp);have hl:=rv.length;exact wpAny_pyNext_tuple_end (I.ok.hd hc) st (show s.heap.IsTuple a its.toArray from p) (by simp;lia) fun h' eb=>⟨rfl,I.turned (t':=s.toks) (fun b o hb e=>eb b o hb e) f0 f1 f3 f4 f5⟩
 self:=fun _ _ _ _ _ st h=>wpAny_pyIter_tupleiter st h
def Zhh{K:YFr}(it:Addr)(lo:Int)(n:Nat):Zkc P w K tg (Itr lo n) [it] it (fun i h=>IsRangeIter h it (lo+(i:Nat)*1) ((n:Int)-(i:Nat)) 1) where
 mem:=by simp
 obj := fun i h st b hb=>by
  have e:b=it:=by simpa using hb
  subst e
  exact⟨_,st,fun v z=>by
   have z':Data.fields _=Data.cell v:=z
   cases z'⟩
 keep:=fun i h h' st k=>k it (by simp) _ st
 item:=by
  intro X hP hw hK hc i pins s σ H E I hf st hg;subst hP hw hK;obtain⟨f0,f1,f2,f3,f4,f5⟩:=hf it (by simp);have W:=Walks.range (prog:=X.prog) (w:=X.w) (I.ok.hd hc) it lo 1 n;refine W.item i s _ _ hg st fun v h' tk hv st' kk=>?_;obtain⟨t,rfl⟩:=hv;have I1:Inv X pins σ H { s with heap:=h',toks:=tk }:=I.turned (fun b o hb e=>kk b o (by simpa using hb) e) f0 f1 f3 f4 f5;refine⟨_,rfl,Zhu (s:={ s with heap:=h',toks:=tk }) (n:="range_iterator") st' rfl rfl (by decide) ⟨.int (lo+i),H,I1,⟨t,?_⟩,⟨rfl,rfl⟩,st',fun b hb=>(hf b hb).1⟩⟩;rw[Int.mul_one]
 done:=by
  intro X hP hw hK hc i pins s σ H E I hf st hg;subst hP hw hK;obtain⟨f0,f1,f2,f3,f4,f5⟩:=hf it (by simp);exact YbM (I.ok.hd hc) st (by have:n<=i:=hg;lia) fun h' eb=>⟨rfl,I.turned (t':=s.toks) (fun b o hb e=>eb b o hb e) f0 f1 f3 f4 f5⟩
 self:=fun _ _ _ _ _ st h=>YbN st h
section
def Zlc{lo hi:Int}(I:Inv X pins σ H s)(h1:-(2^62)<=lo)(h2:lo<2^62)(h3:-(2^62)<=hi)(h4:hi<2^62)(q:R (Itr lo (hi-lo).toNat) H):wpAny (model X.prog X.w) X.A (pyIter (.ref s.heap.objs.size)) (PIE X pins σ tg R) E { s with heap:=s.heap.push { cls:=.type "range",data:=.fields #[.int lo t,.int hi u,.int 1 v] },toks:=tk }:=by
 refine Yb8 (IsRange.new ..) (small_one h1 h2 h3 h4) ?_;have I1:Inv X pins σ H { s with heap:=s.heap.push { cls:=.type "range",data:=.fields #[.int lo t,.int hi u,.int 1 v] },toks:=tk }:=I.kept fun b o e=>Ye _ e;refine⟨(s.heap.push { cls:=.type "range",data:=.fields #[.int lo t,.int hi u,.int 1 v] }).objs.size,[(s.heap.push { cls:=.type "range",data:=.fields #[.int lo t,.int hi u,.int 1 v] }).objs.size],_,_,H,rfl,
  I1.kept (t':=tk) fun b o e=>Ye _ e,Zhh _ lo (hi-lo).toNat,?_,fun b hb=>?_,q⟩
 .have e1:lo+((0:Nat):Int)*1=lo:=by simp
  have e2:(((hi-lo).toNat:Nat):Int)-((0:Nat):Int)=Builtin.Range.rangeSize lo hi 1:=by rw[rangeSize_one];split<;>lia
  show IsRangeIter _ _ (lo+((0:Nat):Int)*1) ((((hi-lo).toNat:Nat):Int)-((0:Nat):Int)) 1;rw[e1,e2];exact Yl _ rfl
 .have e:b=(s.heap.push { cls:=.type "range",data:=.fields #[.int lo t,.int hi u,.int 1 v] }).objs.size:=by simpa using hb
  subst e;exact I1.fpOk (Yj _) (I1.hok.fresh (Yj _))
def ZvV(wi:TI)(g:TG)(tb:TS):TS:=fun D σ H=>wi σ H fun J H1=>∃W:Nat->Nat->St->Hp->Prop,(∃m,W 0 m σ H1)/\∀i m σ H,W i m σ H ->
 (J.stop i H/\D.nx σ H)\/(J.go i H/\∃N:St->Hp->Prop,(∀σ' H',N σ' H'->∃m',m'<m/\W (i+1) m' σ' H')/\∀x H',J.yld i H x H'->g x σ H' fun σ2 H2=>tb { D with nx:=N,ct:=N,bk:=D.nx } σ2 H2)
def ZdI(fp:List Addr)(h:Heap):List (Addr×Obj):=fp.filterMap fun b=>(h.get? b).map fun o=>(b,o)
def ZaX(hb:b∈fp)(e:h.get? b=some o):(b,o)∈ZdI fp h:=Yb9.mpr ⟨b,hb,by rw[e];rfl⟩
def Zju(hp:p∈ZdI fp h):p.1∈fp/\h.get? p.1=some p.2:=by
 obtain⟨b,hb,e⟩:=Yb9.mp hp;cases q:h.get? b with
 | none=>rw[q]at e;cases e
 | some o =>
  rw[q]at e;have e':(b,o)=p:=YE e;subst e';exact⟨hb,q⟩
def Inv.pinned(I:Inv X pins σ H s)(hf:∀b∈fp,Zey X pins H b)(ho:∀b∈fp,∃o,s.heap.get? b=some o/\∀v,o.data≠.cell v):Inv X (pins++ZdI fp s.heap) σ H s :=
 I.pins_of fun p hp=>(Yz.mp hp).elim (fun z=>I.pin p (Yx _ z)) fun z=>by
  obtain⟨hb,e⟩:=Zju z
  obtain⟨f0,f1,f2,_⟩:=hf p.1 hb
  obtain⟨o,e',d⟩:=ho p.1 hb
  rw[e]at e';cases e'
  exact⟨e,f0,f1,f2,d⟩
def Inv.unpinned(I:Inv X (pins++pl) σ H s):Inv X pins σ H s:=I.pins_of fun p hp=>I.pin p (Yx _ (Y7 _ hp))
def Zae(hp:PassesOwn (model X.prog X.w) X.A X.env X.xe)(hc:X.calm=true)(hi:PI X tg iter wi)(hg:PG X tg g)(hb:PSs X body tb)(hs:∀x,foldedSetIterable iter X.env x=pure x:=by intro _;rfl):PS X (.For tg iter body [] pos) (ZvV wi g tb):=by
 intro pins s σ H D I h;refine wpAny_For (thn (hi pins s σ H _ I h) fun v s1 h1=>thn h1 fun itv s2 h2=>?_) hs;obtain⟨it,fp,tn,J,H2,e,I2,T,st2,f2,W,⟨m0,w0⟩,turn⟩:=h2;subst e;have stat:∀ {H':Hp},(∀b∈fp,H' b=none)->∀b∈fp,Zey X pins H' b:=fun hn b hb=>⟨hn b hb,(f2 b hb).2⟩;refine codeAny_forLoop_any (fun n s'=>∃i σ' H',Inv X pins σ' H' s'/\tn i s'.heap/\(∀b∈fp,H' b=none)/\W i n σ' H') ?_ m0 ⟨0,σ,H2,I2,st2,fun b hb=>(f2 b hb).1,w0⟩;rintro n s3 ⟨i,σ3,H3,I3,st3,fr3,w3⟩;rcases turn i n σ3 H3 w3 with⟨stop,qn⟩|⟨go,N,hN,step⟩
 .refine YaN hp (thn (T.done X rfl rfl rfl hc i pins s3 σ3 H3 X.xe I3 (stat fr3) st3 stop) fun r s4 h_q=>?_);obtain⟨hr,I4⟩:=h_q;subst hr;exact YaM ⟨σ3,H3,I4,qn⟩
 .refine YaN hp (thn (T.item X rfl rfl rfl hc i pins s3 σ3 H3 X.xe I3 (stat fr3) st3 go) fun r s4 h_q=>?_);obtain⟨u,hr,h4⟩:=h_q;subst hr;refine YaN hp (thn h4 fun _ s5 h_q=>?_);obtain⟨x,H5,I5,r5,y5,st5,fr5⟩:=h_q;have I5':=I5.pinned (stat fr5) (T.obj _ _ st5);refine YaN hp (thn (hg _ s5 σ3 H5 x u _ I5' r5 (step x H5 y5)) fun _ s6 h_q=>?_);obtain⟨σ6,H6,I6,q6⟩:=h_q;refine YaN hp (thn (hb _ s6 σ6 H6 _ I6 q6) fun f s7 q7=>?_);have again:∀ {σ7:St} {H7:Hp},Inv X (pins++ZdI fp s5.heap) σ7 H7 s7->N σ7 H7->∃m,m<n/\∃i σ' H',Inv X pins σ' H' s7/\tn i s7.heap/\(∀b∈fp,H' b=none)/\W i m σ' H':=fun {σ7 H7} I7 n7=>by
   obtain⟨m',hm,w7⟩:=hN σ7 H7 n7;refine⟨m',hm,i+1,σ7,H7,I7.unpinned,T.keep _ _ _ st5 fun b hb o e=>(I7.pin (b,o) (Yx _ (Yx _ (ZaX hb e)))).1,fun b hb=>?_,w7⟩;obtain⟨o,e,d⟩:=T.obj _ _ st5 b hb;exact(I7.pin (b,o) (Yx _ (Yx _ (ZaX hb e)))).2.1
  cases f with
  | next=>obtain⟨σ7,H7,I7,n7⟩:=q7;exact again I7 n7
  | cont=>obtain⟨σ7,H7,I7,n7⟩:=q7;exact again I7 n7
  | brk=>obtain⟨σ7,H7,I7,q7⟩:=q7;exact⟨σ7,H7,I7.unpinned,q7⟩
  | ret v=>obtain⟨x7,σ7,H7,I7,r7,q7⟩:=q7;exact⟨x7,σ7,H7,I7.unpinned,r7,q7⟩
end
abbrev R2:=V->V->Hp->VK->Prop
def OpR(X:Cx)(f:Value->Value->Sem Value)(r:R2):Prop :=
 ∀(pins:List (Addr×Obj))(s:Shared)(σ:St)(H:Hp)(x y:V)(v u:Value)(Q:VK),Inv X pins σ H s->Zau x v->Zau y u->r x y H Q ->
  wpAny (model X.prog X.w) X.A (f v u) (EP X pins σ Q) X.xe s
def Zaj(X:Cx)(f:Value)(r:List V->Hp->VK->Prop):Prop :=
 ∀(pins:List (Addr×Obj))(s:Shared)(σ:St)(H:Hp)(xs:List V)(us:List Value)(Q:VK),Inv X pins σ H s->Z6 xs us->r xs H Q ->
  wpAny (model X.prog X.w) X.A (call f us) (EP X pins σ Q) X.xe s
def Zv9(X:Cx)(r:V->Hp->(Bool->Hp->Prop)->Prop):Prop :=
 ∀(pins:List (Addr×Obj))(s:Shared)(σ:St)(H:Hp)(x:V)(v:Value)(Q:Bool->Hp->Prop),Inv X pins σ H s->Zau x v->r x H Q ->
  wpAny (model X.prog X.w) X.A (truthy v) (TP X pins σ Q) X.xe s
def tOp(r:R2)(ta tb:TE):TE:=fun σ H Q=>ta σ H fun x H1=>tb σ H1 fun y H2=>r x y H2 Q
def rI(C:Int->Int->Prop)(g:Int->Int->V):R2:=fun x y H Q=>∃i j,x=.int i/\y=.int j/\C i j/\Q (g i j) H
def rI0(g:Int->Int->V):R2:=fun x y H Q=>∃i j,x=.int i/\y=.int j/\Q (g i j) H
section
def Zs3(ha:PE X a ta)(hb:PE X b tb){R:V->V->Hp->Prop}(I:Inv X pins σ H s)(h:ta σ H fun x H1=>tb σ H1 fun y H2=>R x y H2){f:Value->Value->Sem Value}(hf:∀v u s2 x y H2,Inv X pins σ H2 s2->Zau x v->Zau y u->R x y H2->wpAny (model X.prog X.w) X.A (f v u) Q X.xe s2):
  wpAny (model X.prog X.w) X.A (eval a X.env) (fun v s₁=>wpAny (model X.prog X.w) X.A (eval b X.env) (fun u s₂=>wpAny (model X.prog X.w) X.A (f v u) Q X.xe s₂) X.xe s₁) X.xe s:=by
 refine thn (ha pins s σ H _ I h) fun v s1 h_q=>?_;obtain⟨x,H1,I1,r1,q1⟩:=h_q;refine thn (hb pins s1 σ H1 _ I1 q1) fun u s2 h_q=>?_;obtain⟨y,H2,I2,r2,q2⟩:=h_q;exact hf v u s2 x y H2 I2 r1 r2 q2
def Z3(ho:OpR X (binaryOp op) r)(ha:PE X a ta)(hb:PE X b tb):PE X (.BinOp a op b pos) (tOp r ta tb):=by
 intro pins s σ H Q I h;exact wpAny_BinOp (Zs3 ha hb I h fun v u s2 x y H2 I2 rx ry q=>ho pins s2 σ H2 x y v u Q I2 rx ry q)
def opI{g:Int->Int->Int}(rule:∀(i j:Int)(t u:Tok)(s:Shared)(Q:Value->Shared->Prop)(E:Value->Shared->Prop),C i j->Q (.int (g i j) s.toks) { s with toks:=s.toks+1 }->wpAny (model X.prog X.w) X.A (f (.int i t) (.int j u)) Q E s):
  OpR X f (rI C fun i j=>.int (g i j)):=by
 intro pins s σ H x y v u Q I rx ry h;obtain⟨i,j,rfl,rfl,hc,q⟩:=h;obtain⟨t,rfl⟩:=rx;obtain⟨t',rfl⟩:=ry;exact rule i j t t' s _ _ hc ⟨.int (g i j),H,I.tok _,⟨_,rfl⟩,q⟩
def Zu9{g:Int->Int->Int}(rule:∀(i j:Int)(t u:Tok)(s:Shared)(Q:Value->Shared->Prop)(E:Value->Shared->Prop),Q (.int (g i j) s.toks) { s with toks:=s.toks+1 }->wpAny (model X.prog X.w) X.A (f (.int i t) (.int j u)) Q E s):
  OpR X f (rI0 fun i j=>.int (g i j)):=by
 intro pins s σ H x y v u Q I rx ry h;obtain⟨i,j,rfl,rfl,q⟩:=h;obtain⟨t,rfl⟩:=rx;obtain⟨t',rfl⟩:=ry;exact rule i j t t' s _ _ ⟨.int (g i j),H,I.tok _,⟨_,rfl⟩,q⟩
def ZvR{g:Int->Int->Bool}(rule:∀(i j:Int)(t u:Tok)(s:Shared)(Q:Value->Shared->Prop)(E:Value->Shared->Prop),Q (.bool (g i j)) s->wpAny (model X.prog X.w) X.A (f (.int i t) (.int j u)) Q E s):
  OpR X f (rI0 fun i j=>.bl (g i j)):=by
 intro pins s σ H x y v u Q I rx ry h;obtain⟨i,j,rfl,rfl,q⟩:=h;obtain⟨t,rfl⟩:=rx;obtain⟨t',rfl⟩:=ry;exact rule i j t t' s _ _ ⟨.bl (g i j),H,I,rfl,q⟩
def ZuA(i j:Int):Prop:=0<j/\j<1073741824
def ZsT(i j:Int):Prop:=0<=j/\j<=1000000/\i.natAbs<2^64
def ZsP(i j:Int):Prop:=(-(2^64)<i/\i<2^64)\/(-(2^64)<j/\j<2^64)
def ZsP.ok(h:ZsP i j):IntMulOk i j:=by
 rcases h with⟨h1,h2⟩|⟨h1,h2⟩
 .exact .of_left (intBits_le_64 h1 h2)
 .exact .of_right (intBits_le_64 h1 h2)
def Zsr:OpR X (binaryOp .Add) (rI0 fun i j=>.int (i+j)):=Zu9 fun _ _ _ _ _ _ _ q=>add_int q
def Zpt:OpR X (binaryOp .Sub) (rI0 fun i j=>.int (i-j)):=Zu9 fun _ _ _ _ _ _ _ q=>sub_int q
def ZnW:OpR X (binaryOp .FloorDiv) (rI ZuA fun i j=>.int (i / j)):=opI fun i j _ _ _ _ _ hc q=>by
 have h1:(0:Int)<j:=hc.1
 have h2:j<1073741824:=hc.2
 exact floordiv_int (by lia) (by rw[Int.fdiv_eq_ediv_of_nonneg i (by lia)];exact q) (.inl (YbO (by lia)))
def Zpy:OpR X (binaryOp .Mod) (rI (fun _ j=>0<j) fun i j=>.int (i % j)):=opI fun i j _ _ _ _ _ hc q=>by
 have h1:(0:Int)<j:=hc
 exact mod_int' (by lia) (by rw[Int.fmod_eq_emod_of_nonneg i (by lia)];exact q)
def Zrp:OpR X (binaryOp .Pow) (rI ZsT fun i j=>.int (i^j.toNat)):=opI fun _ _ _ _ _ _ _ hc q=>pow_int_small hc.1 hc.2.1 hc.2.2 q
end
def Zu3:V->V->Bool
 | .non,.non=>true|.non,.int _=>true|.int _,.non=>true|.non,.bl _=>true|.bl _,.non=>true|.non,.str _=>true|.str _,.non=>true
 | .int _,.int _=>true|.bl _,.bl _=>true|.str _,.str _=>true|.byt _,.byt _=>true
 | .int _,.str _=>true|.str _,.int _=>true|.bl _,.str _=>true|.str _,.bl _=>true
 | _,_=>false
def rEq:R2:=fun x y H Q=>Zu3 x y=true/\Q (.bl (decide (x=y))) H
def rNe:R2:=fun x y H Q=>Zu3 x y=true/\Q (.bl (!decide (x=y))) H
def Zi7:decide (V.int i=V.int j)=(i==j):=by
 rw[Ybc];simp
def Zmz:decide (V.bl i=V.bl j)=(i==j):=by
 rw[Ybc];simp
def Zi8:decide (V.str i=V.str j)=(i==j):=by
 rw[Ybc];simp
def ZhT:decide (V.byt i=V.byt j)=(i.toList==j.toList):=by
 rw[Ybc];cases i;cases j;simp
section
def ZS(I:Inv X pins σ H s)(q:Q (.bl k) H)(e:k=k'):EP X pins σ Q (.bool k') s:=by
 subst e;exact⟨.bl k,H,I,rfl,q⟩
def ZtU:OpR X (compareOp .Eq) rEq:=by
 intro pins s σ H x y v u Q I rx ry h;obtain⟨hs,q⟩:=h;cases x with
 | non =>
  cases rx;cases y with
  | non=>cases ry;exact PySem.EqNone.eq_none_none (ZS I q (by simp))
  | bl j=>cases ry;exact PySem.EqNone.eq_none_bool (ZS I q (by simp))
  | int j=>obtain⟨t',rfl⟩:=ry;exact PySem.EqNone.eq_none_int (ZS I q (by simp))
  | str j=>obtain⟨t',rfl⟩:=ry;exact PySem.EqNone.eq_none_str (ZS I q (by simp))
  | _=>exact absurd (show false=true from hs) Yu
 | bl i =>
  cases rx;cases y with
  | non=>cases ry;exact PySem.EqNone.eq_bool_none (ZS I q (by simp))
  | bl j=>cases ry;exact eq_bool (ZS I q Zmz)
  | str j=>obtain⟨t',rfl⟩:=ry;exact PySem.EqMixed.eq_bool_str (ZS I q (by simp))
  | _=>exact absurd (show false=true from hs) Yu
 | int i =>
  obtain⟨t,rfl⟩:=rx;cases y with
  | non=>cases ry;exact PySem.EqNone.eq_int_none (ZS I q (by simp))
  | int j=>obtain⟨t',rfl⟩:=ry;exact eq_int (ZS I q Zi7)
  | str j=>obtain⟨t',rfl⟩:=ry;exact PySem.EqMixed.eq_int_str (ZS I q (by simp))
  | _=>exact absurd (show false=true from hs) Yu
 | str i =>
  obtain⟨t,rfl⟩:=rx;cases y with
  | non=>cases ry;exact PySem.EqNone.eq_str_none (ZS I q (by simp))
  | bl j=>cases ry;exact PySem.EqMixed.eq_str_bool (ZS I q (by simp))
  | int j=>obtain⟨t',rfl⟩:=ry;exact PySem.EqMixed.eq_str_int (ZS I q (by simp))
  | str j=>obtain⟨t',rfl⟩:=ry;exact eq_str (ZS I q Zi8)
  | _=>exact absurd (show false=true from hs) Yu
 | byt i =>
  obtain⟨t,rfl⟩:=rx;cases y with
  | byt j=>obtain⟨t',rfl⟩:=ry;exact PySem.W.eq_bytes (ZS I q ZhT)
  | _=>exact absurd (show false=true from hs) Yu
 | _=>cases y<;>exact absurd (show false=true from hs) Yu
def ZtO:OpR X (compareOp .NotEq) rNe:=by
 intro pins s σ H x y v u Q I rx ry h;obtain⟨hs,q⟩:=h;cases x with
 | non =>
  cases rx;cases y with
  | non=>cases ry;exact PySem.EqNone.ne_none_none (ZS I q (by simp))
  | bl j=>cases ry;exact PySem.EqNone.ne_none_bool (ZS I q (by simp))
  | int j=>obtain⟨t',rfl⟩:=ry;exact PySem.EqNone.ne_none_int (ZS I q (by simp))
  | str j=>obtain⟨t',rfl⟩:=ry;exact PySem.EqNone.ne_none_str (ZS I q (by simp))
  | _=>exact absurd (show false=true from hs) Yu
 | bl i =>
  cases rx;cases y with
  | non=>cases ry;exact PySem.EqNone.ne_bool_none (ZS I q (by simp))
  | bl j=>cases ry;exact ne_bool (ZS I q (congrArg not Zmz))
  | str j=>obtain⟨t',rfl⟩:=ry;exact PySem.EqMixed.ne_bool_str (ZS I q (by simp))
  | _=>exact absurd (show false=true from hs) Yu
 | int i =>
  obtain⟨t,rfl⟩:=rx;cases y with
  | non=>cases ry;exact PySem.EqNone.ne_int_none (ZS I q (by simp))
  | int j=>obtain⟨t',rfl⟩:=ry;exact ne_int (ZS I q (congrArg not Zi7))
  | str j=>obtain⟨t',rfl⟩:=ry;exact PySem.EqMixed.ne_int_str (ZS I q (by simp))
  | _=>exact absurd (show false=true from hs) Yu
 | str i =>
  obtain⟨t,rfl⟩:=rx;cases y with
  | non=>cases ry;exact PySem.EqNone.ne_str_none (ZS I q (by simp))
  | bl j=>cases ry;exact PySem.EqMixed.ne_str_bool (ZS I q (by simp))
  | int j=>obtain⟨t',rfl⟩:=ry;exact PySem.EqMixed.ne_str_int (ZS I q (by simp))
  | str j=>obtain⟨t',rfl⟩:=ry;exact ne_str (ZS I q (congrArg not Zi8))
  | _=>exact absurd (show false=true from hs) Yu
 | byt i =>
  obtain⟨t,rfl⟩:=rx;cases y with
  | byt j=>obtain⟨t',rfl⟩:=ry;exact PySem.W.ne_bytes (ZS I q (congrArg not ZhT))
  | _=>exact absurd (show false=true from hs) Yu
 | _=>cases y<;>exact absurd (show false=true from hs) Yu
def Zt5:OpR X (compareOp .Lt) (rI0 fun i j=>.bl (decide (i<j))):=ZvR fun _ _ _ _ _ _ _ q=>lt_int q
def Zt4:OpR X (compareOp .Gt) (rI0 fun i j=>.bl (decide (j<i))):=ZvR fun _ _ _ _ _ _ _ q=>gt_int q
def ZhY:OpR X (compareOp .Lt) (fun x y H Q=>∃i j,x=.str i/\y=.str j/\Q (.bl (decide (i.cps.toList<j.cps.toList))) H):=by
 intro pins s σ H x y v u Q I rx ry h;obtain⟨i,j,rfl,rfl,q⟩:=h;obtain⟨t,rfl⟩:=rx;obtain⟨t',rfl⟩:=ry;exact lt_str (ZS I q rfl)
def ZjN:OpR X (compareOp .In) (fun x y H Q=>∃i j,x=.str i/\y=.str j/\Q (.bl (!(Builtin.Str.occurrences j i 0 j.length 1).isEmpty)) H):=by
 intro pins s σ H x y v u Q I rx ry h;obtain⟨i,j,rfl,rfl,q⟩:=h;obtain⟨t,rfl⟩:=rx;obtain⟨t',rfl⟩:=ry;exact in_str (ZS I q rfl)
def ZlR:OpR X (compareOp .Is) (fun x y H Q=>y=.non/\Q (.bl (decide (x=.non))) H):=by
 intro pins s σ H x y v u Q I rx ry h;obtain⟨rfl,q⟩:=h;cases ry;refine is_none_gen (ZS I q ?_);cases x<;>first
  | (cases rx;rfl)
  | (obtain⟨t,rfl⟩:=rx;rfl)
def ZfQ:OpR X (compareOp .IsNot) (fun x y H Q=>y=.non/\Q (.bl (!decide (x=.non))) H):=by
 intro pins s σ H x y v u Q I rx ry h;obtain⟨rfl,q⟩:=h;cases ry;refine isnot_none_gen (ZS I q ?_);cases x<;>first
  | (cases rx;rfl)
  | (obtain⟨t,rfl⟩:=rx;rfl)
def OpR.or(h:OpR X f r)(h':OpR X f r'):OpR X f (fun x y H Q=>r x y H Q\/r' x y H Q):=by
 intro pins s σ H x y v u Q I rx ry q;rcases q with q|q
 .exact h pins s σ H x y v u Q I rx ry q
 .exact h' pins s σ H x y v u Q I rx ry q
def ZE(b:Expr)(h:op≠.In:=by decide)(h2:op≠.NotIn:=by decide):behindInMarks op b=false:=by
 have e1:(op==CmpOp.In)=false:=by cases op<;>first|rfl|exact absurd rfl h
 have e2:(op==CmpOp.NotIn)=false:=by cases op<;>first|rfl|exact absurd rfl h2
 cases b<;>simp[behindInMarks,e1,e2]
def Zdf(ho:OpR X (compareOp op) r)(ha:PE X a ta)(hb:PE X b tb)(hm:behindInMarks op b=false):PE X (.Compare a [op] [b] pos) (tOp r ta tb):=by
 intro pins s σ H Q I h;exact wpAny_Compare1 (Zs3 ha hb I h fun v u s2 x y H2 I2 rx ry q=>ho pins s2 σ H2 x y v u Q I2 rx ry q) hm
def Zpl(t:TE):TT:=fun σ H Q=>t σ H fun x H'=>∃k,x=.bl k/\Q k H'
def Zp(ho:OpR X (compareOp op) r)(ha:PE X a ta)(hb:PE X b tb)(hm:behindInMarks op b=false):PT X (.Compare a [op] [b] pos) (Zpl (tOp r ta tb)):=by
 intro pins s σ H Q I h;refine wpAny_isTrue_Compare1 (thn (ha pins s σ H _ I h) fun v s1 ⟨x,H1,I1,r1,q1⟩=>thn (hb pins s1 σ H1 _ I1 q1) fun u s2 ⟨y,H2,I2,r2,q2⟩ =>
  thn (ho pins s2 σ H2 x y v u _ I2 r1 r2 q2) fun c s3 ⟨z,H3,I3,r3,k,e,q3⟩=>?_) hm
 subst e;cases r3;exact YaR ⟨H3,I3,q3⟩
def ZtD(K:YFr)(x:V)(H:Hp)(k:Bool):Prop :=
 match x with
 | .non=>k=false
 | .bl b=>k=b
 | .int i=>k=(i != 0)
 | .str y=>y.length<=sizeLine/\k=((y.length:Int) != 0)
 | .byt y=>y.size<=sizeLine/\k=((y.size:Int) != 0)
 | .ref p=>(∃xs,SqL K H p xs/\k=!xs.isEmpty)\/(∃xs,SqT K H p xs/\k=!xs.isEmpty)\/∃kvs,H p=some (.dK kvs)/\k=!kvs.isEmpty
 | _=>False
def ZhF{vs:List (κ×Value)}(r:KV kvs vs):(!vs.isEmpty)=!kvs.isEmpty:=by
 cases r<;>rfl
def Zdx(r:Z6 xs its):(!its.toArray.isEmpty)=!xs.isEmpty:=by
 cases r<;>simp
def ZdO:(sizeLine:Nat)<2^63:=by rw[Y8];decide
def ZrY:Zv9 X (fun x H Q=>∃k,ZtD X.K x H k/\Q k H):=by
 intro pins s σ H x v Q I rx h;obtain⟨k,e,q⟩:=h;have hl:=ZdO;have hs:sizeLine=16777216:=Y8;cases x with
 | non =>
  cases rx;have e':k=false:=e;subst e';exact truthy_none ⟨H,I,q⟩
 | bl b =>
  cases rx;have e':k=b:=e;subst e';exact YaR ⟨H,I,q⟩
 | int i =>
  obtain⟨t,rfl⟩:=rx;have e':k=(i != 0):=e;subst e';exact PySem.P.truthy_int ⟨H,I,q⟩
 | str y =>
  obtain⟨t,rfl⟩:=rx;obtain⟨hy,e'⟩:y.length<=sizeLine/\k=((y.length:Int) != 0):=e;subst e';exact PySem.P.truthy_str (by lia) ⟨H,I.tok _,q⟩
 | byt y =>
  obtain⟨t,rfl⟩:=rx;obtain⟨hy,e'⟩:y.size<=sizeLine/\k=((y.size:Int) != 0):=e;subst e';exact PySem.W.truthy_bytes (by lia) ⟨H,I.tok _,q⟩
 | ref p =>
  cases rx;have e':(∃xs,SqL X.K H p xs/\k=!xs.isEmpty)\/(∃xs,SqT X.K H p xs/\k=!xs.isEmpty)\/∃kvs,H p=some (.dK kvs)/\k=!kvs.isEmpty:=e;rcases e' with⟨xs,hx,e'⟩|⟨xs,hx,e'⟩|⟨kvs,hx,e'⟩
  .subst e';obtain⟨its,r,pl,hz⟩:=I.list hx;have hlen:=r.length;exact wpAny_truthy_list pl.isList (by simp only[Yr];lia) ⟨H,I.tok _,by rw[Zdx r];exact q⟩
  .subst e';obtain⟨its,r,pl,hz⟩:=I.tuple hx;have hlen:=r.length;exact truthy_tuple pl (by simp only[Yr];lia) ⟨H,I.tok _,by rw[Zdx r];exact q⟩
  .subst e';obtain⟨hz,hS,vs,r,m⟩:kvs.length<=sizeLine/\(p==sysModules)=false/\∃vs,KV kvs vs/\s.heap.DictOf (Zfu X.prog X.w) p vs:=I.hok p _ hx;have hlen:kvs.length=vs.length:=Paired.length r;exact wpAny_truthy_dict hS m (by lia) ⟨H,I.tok _,by rw[ZhF r];exact q⟩
 | _=>exact(show False from e).elim
def Zep(ha:PE X a ta)(he:∀whole,isTrue a X.env whole=(do let v <- whole;standAt a.pos;holding [v] (truthy v))):
  PT X a (fun σ H Q=>ta σ H fun x H'=>∃k,ZtD X.K x H' k/\Q k H'):=by
 intro pins s σ H Q I h;exact isTrue_plain (thn (ha pins s σ H _ I h) fun v s1 ⟨x,H1,I1,r1,q1⟩=>ZrY pins s1 σ H1 x v Q I1 r1 q1) (he _)
def Zhp:OpR X (binaryOp .Add) (fun x y H Q=>∃i j,x=.str i/\y=.str j/\i.length+j.length<=sizeLine/\Q (.str (i++j)) H):=by
 intro pins s σ H x y v u Q I rx ry h;obtain⟨i,j,rfl,rfl,hz,q⟩:=h;obtain⟨t,rfl⟩:=rx;obtain⟨t',rfl⟩:=ry;exact add_str (fun t' tk=>⟨.str (i++j),H,I.tok _,⟨_,rfl⟩,q⟩) hz
def ZmW(r:Z6 [x] us):∃u,us=[u]/\Zau x u:=by
 cases r with
 | cons r1 r2=>cases r2;exact⟨_,rfl,r1⟩
def ZtI(r:Z6 [x,y] us):∃u w',us=[u,w']/\Zau x u/\Zau y w':=by
 cases r with
 | cons r1 r2 =>
  cases r2 with
  | cons r3 r4=>cases r4;exact⟨_,_,rfl,r1,r3⟩
def Zii(hc:X.calm=true):Zaj X (.builtin "min") (fun xs H Q=>∃i j,xs=[.int i,.int j]/\Q (.int (if j<i then j else i)) H):=by
 intro pins s σ H xs us Q I r h;obtain⟨i,j,rfl,q⟩:=h;obtain⟨u,w',rfl,⟨t,rfl⟩,⟨t',rfl⟩⟩:=ZtI r;refine min_two_ints (I.ok.hd hc) fun h' tk k=>⟨_,H,I.kept k,?_,q⟩;by_cases hj:j<i
 .rw[if_pos hj,if_pos hj];exact⟨_,rfl⟩
 .rw[if_neg hj,if_neg hj];exact⟨_,rfl⟩
end
structure Znd (h:Heap) (x dx C:Addr) (mA:Str->Option Value):Prop where
 obj:h.get? x=some (instObj C dx)
 ns:h.Ns1 dx mA
 ne:dx≠x
def Ze1{h:Heap}(n:h.Ns1 dx mA):∃od,h.get? dx=some od/\∀name,lookIn name od=some (mA name):=by
 obtain⟨o,es,ep,ho,hd,hk,_,hm⟩:=n;refine⟨o,ho,fun name=>?_⟩;have e:=hm name;unfold nsFind findBy at e;rw[<- Array.find?_toList]at e;unfold lookIn;rw[hd];dsimp only;split
 .rename_i y q;rw[q]at e;exact congrArg some e
 .rename_i q;rw[q]at e;have a:es.toList.any (·.refKey)=false:=by
   rw[List.any_eq_false];intro y hy;obtain⟨z,t,hkey⟩:=hk y (Array.mem_toList_iff.mp hy);simp[DictEntry.refKey,hkey]
  have a':¬es.toList.any (·.refKey)=true:=by rw[a];exact Yu
  rw[if_neg a'];exact congrArg some e
def Znd.look(I:Znd h x dx C mA):∃od,PySem.W.InstAt h x (instObj C dx) C (some od)/\∀name,lookIn name od=some (mA name) :=
 let⟨od,ho,hl⟩:=Ze1 I.ns
 ⟨od,⟨I.obj,rfl,rfl,ho⟩,hl⟩
section
variable{K:YFr}
def Zos(X:K.In s.heap)(I:Znd s.heap x dx C mA)(hg:PySem.W.plainGet K C name=true)(hh:PySem.W.hasDictIn K C=true)(ha:PySem.W.findIn K (.ref C) name=some none)(hv:mA name=some v)(hv':PySem.W.handedIn v=true)(h:Q v { s with toks:=s.toks+1 }):
  wpAny (model prog w) A (getAttr (.ref x) name expr) Q E s:=by
 obtain⟨od,J,hl⟩:=I.look;exact PySem.W.get_value X J (plainGet_of hg).1 (findObj_own hh ha rfl (by rw[hl,hv])) hv' h
def Zkv(X:K.In s.heap)(I:Znd s.heap x dx C mA)(hg:PySem.W.plainGet K C name=true)(hf:PySem.W.findIn K (.ref C) name=some (some (.ref f)))(ht:PySem.W.isFn K (.ref f)=true)(hv:mA name=none)(h:Q (.ref f,[.ref x]) s):
  wpAny (model prog w) A (getMethod (.ref x) name pl) Q E s:=by
 obtain⟨od,J,hl⟩:=I.look;exact PySem.W.method_fn X J (plainGet_of hg).1 (plainGet_of hg).2 hf (beq_iff_eq.mp ht) (by show(lookIn name od).map (·.isSome)=some false;rw[hl,hv];rfl) h
def Zox(X:K.In s.heap)(I:Znd s.heap x dx C mA)(hs:PySem.W.findIn K (.ref C) "__setattr__"=some (some (.builtin "object.__setattr__")))(hp:PySem.W.plainOver K C=true)(ht:PySem.W.takerIn K C name=some none)(hh:PySem.W.hasDictIn K C=true)(hw:PySem.Within mA ns)(hsz:ns.length<=sizeLine)(h:∀h',Znd h' x dx C (fun y=>if y=name then some v else mA y)->Heap.SameBut dx s.heap h'->Q () { s with heap:=h',toks:=s.toks+2 }):
  wpAny (model prog w) A (setAttr (.ref x) name v) Q E s:=by
 obtain⟨od,J,hl⟩:=I.look;refine set_plain X J hs (PySem.W.osa_open (s:={ s with toks:=s.toks+1 }) (r:=none) X J hp ht fun b=>?_);obtain⟨cd,hc,hd'⟩:=any_some hh;have hx:s.heap.get? x=some ⟨.ref C,some dx,.plain,#[]⟩:=I.obj;refine Yb (Yd (Yb (Yb (wpAny_loadPart hx (Yb (Looks.here (s:={ s with toks:=s.toks+1 }) (looks_clsIn X hc) ?_))))));rw[hd'];refine Yd (a:=some dx) (Yb (Yd (Yb ?_)));refine wpAny_nsSet1 (s:={ s with toks:=s.toks+1 }) I.ns fun h' hn2 hs2=>?_;obtain⟨oD,esD,epD,hoD,hdD,hcD⟩:=hn2.count (PySem.Within.cons name v hw);refine Yb (wpAny_lookBehind hoD (by rw[hdD];exact pastItsLine_dict (YB hcD (by rw[List.length_cons];lia))) ?_);exact Yd (h _ ⟨(hs2.2 _ (Ne.symm I.ne)).trans I.obj,hn2,I.ne⟩ hs2)
def ZgC(X:K.In s.heap)(hm:PySem.W.makesIn K C=true)(hi:PySem.W.findIn K (.ref C) "__init__"=some (some (.ref f)))(hf:PySem.W.typeIn K (.ref f)=some (.type "function"))(h : codeAny (model prog w) (A.under (.builtin "type.__call__" ⟨.ref C::vs,kw⟩)) (.call (.ref f) ⟨.ref (s.heap.objs.size + 1)::vs,kw⟩) (InitBack (s.heap.objs.size + 1) R)
   { s with heap:=(s.heap.push emptyDict).push (instObj C s.heap.objs.size) }):
  codeAny (model prog w) A (.call (.ref C) ⟨vs,kw⟩) R s:=by
 obtain⟨hh,g,d,t,os⟩:=s;exact make_core (makes_of X hm) (looks_findIn X hi) (fun self=>bind_fn X self hf) (.inl rfl) h
def ZiG(X:K.In s.heap)(hm:PySem.W.makesIn K C=true)(hi:PySem.W.findIn K (.ref C) "__init__"=some (some (.builtin "object.__init__")))(hb:∀ self,Looks (model prog w) s.heap (bindSpecial (.builtin "object.__init__") self) (.builtin "object.__init__",[self]))(h : codeAny (model prog w) (A.under (.builtin "type.__call__" ⟨[.ref C],[]⟩)) (.call (.builtin "object.__init__") ⟨[.ref (s.heap.objs.size + 1)],[]⟩) (InitBack (s.heap.objs.size + 1) R)
   { s with heap:=(s.heap.push emptyDict).push (instObj C s.heap.objs.size) }):
  codeAny (model prog w) A (.call (.ref C) ⟨[],[]⟩) R s:=by
 obtain⟨hh,g,d,t,os⟩:=s;exact make_core (makes_of X hm) (looks_findIn X hi) hb (.inr ⟨rfl,rfl⟩) h
end
def Zcf(f:Str)(v:V):List (Str×V)->List (Str×V)
 | []=>[(f,v)]
 | (g,x)::r=>if g=f then(g,v)::r else(g,x)::Zcf f v r
theorem Zdi(f g:Str)(v:V):∀fs:List (Str×V),(Zcf f v fs).lookup g=if g=f then some v else fs.lookup g
 | [] => by
  show List.lookup g [(f,v)]=_
  by_cases h:g=f
  .have hb:(g==f)=true:=beq_iff_eq.mpr h
   simp only[List.lookup,hb,if_pos h]
  .have hb:(g==f)=false:=Yv.mpr h
   simp only[List.lookup,hb,if_neg h]
 | (k, x)::r=>by
  have ih:=Zdi f g v r
  rw[show Zcf f v ((k,x)::r)=(if k=f then(k,v)::r else(k,x)::Zcf f v r)from rfl]
  by_cases hk:k=f
  .rw[if_pos hk]
   by_cases h:g=k
   .have hb:(g==k)=true:=beq_iff_eq.mpr h
    simp only[List.lookup,hb,if_pos (h.trans hk)]
   .have hb:(g==k)=false:=Yv.mpr h
    simp only[List.lookup,hb,if_neg (fun e:g=f=>h (e.trans hk.symm))]
  .rw[if_neg hk]
   by_cases h:g=k
   .have hb:(g==k)=true:=beq_iff_eq.mpr h
    simp only[List.lookup,hb,if_neg (fun e:g=f=>hk (h.symm.trans e))]
   .have hb:(g==k)=false:=Yv.mpr h
    simp only[List.lookup,hb]
    exact ih
theorem ZcU(f:Str)(v:V):∀fs:List (Str×V),f∈(Zcf f v fs).map (·.1)/\∀g,g∈fs.map (·.1)->g∈(Zcf f v fs).map (·.1)
 | []=>⟨by simp[Zcf],fun g h=>by simp at h⟩
 | (k, x)::r=>by
  obtain⟨i1,i2⟩:=ZcU f v r
  rw[show Zcf f v ((k,x)::r)=(if k=f then(k,v)::r else(k,x)::Zcf f v r)from rfl]
  by_cases hk:k=f
  .rw[if_pos hk]
   subst hk
   exact⟨by simp,fun g h=>by simpa using h⟩
  .rw[if_neg hk]
   refine⟨?_,fun g h=>?_⟩
   .rw[Yq]
    exact Yad _ i1
   .rw[Yq]at h ⊢
    rcases Yn.mp h with e|e
    .exact Yn.mpr (.inl e)
    .exact Yad _ (i2 g e)
theorem Zdq(f:Str)(v:V):∀fs:List (Str×V),(Zcf f v fs).length<=fs.length+1
 | []=>by simp[Zcf]
 | (k,x)::r=>by
  have ih:=Zdq f v r
  rw[show Zcf f v ((k,x)::r)=(if k=f then(k,v)::r else(k,x)::Zcf f v r)from rfl]
  by_cases hk:k=f
  .rw[if_pos hk,List.length_cons,List.length_cons];lia
  .rw[if_neg hk,List.length_cons,List.length_cons];lia
def Zfs.some_of(r:Zfs (some v) o):∃u,o=some u/\Zau v u:=by
 cases o with
 | none=>exact(show False from r).elim
 | some u=>exact⟨u,rfl,r⟩
def Zfs.none_of(r:Zfs none o):o=none:=by
 cases o with
 | none=>rfl
 | some u=>exact(show False from r).elim
def Zfj(r:Zau v u):PySem.W.handedIn u=true:=by
 cases v with
 | non=>cases(show u=Value.none from r);rfl
 | bl b=>cases(show u=Value.bool b from r);rfl
 | int i=>obtain⟨t,e⟩:=(show ∃t,u=Value.int i t from r);cases e;rfl
 | str x=>obtain⟨t,e⟩:=(show ∃t,u=Value.str x t from r);cases e;rfl
 | byt b=>obtain⟨t,e⟩:=(show ∃t,u=Value.bytes b t from r);cases e;rfl
 | flt b=>obtain⟨t,e⟩:=(show ∃t,u=Value.float b t from r);cases e;rfl
 | ref a=>cases(show u=Value.ref a from r);rfl
 | ty n=>cases(show u=Value.type n from r);rfl
section
def ZcR(hok:HOk P w H h)(e:H a=some (.ins C dx fs)):∃mA,Znd h a dx C mA/\(∀f,Zfs (fs.lookup f) (mA f))/\PySem.Within mA (fs.map (·.1))/\fs.length<=1000/\H dx=some (.own a):=by
 obtain⟨d,z,ne,ob,mA,n,r,q⟩:=(show ZaO P w H h a (.ins C dx fs)from hok a _ e);exact⟨mA,⟨ob,n,ne⟩,r,q,z,d⟩
end
structure Cls (K:YFr) (C:Addr):Prop where
 pg:PySem.W.plainGet K C Str.empty=true
 hd:PySem.W.hasDictIn K C=true
 po:PySem.W.plainOver K C=true
 sa:PySem.W.findIn K (.ref C) "__setattr__"=some (some (.builtin "object.__setattr__"))
def Cls.get{K:YFr}(c:Cls K C)(f:Str):PySem.W.plainGet K C f=true:=c.pg
def ZaE(K:YFr)(C:Addr)(f:Str):Prop:=PySem.W.findIn K (.ref C) f=some none
def ZaE.taker{K:YFr}(n:ZaE K C f):PySem.W.takerIn K C f=some none:=by
 unfold PySem.W.takerIn;rw[show PySem.W.findIn K (.ref C) f=some none from n];rfl
structure Zpb (K:YFr) (C:Addr) (m:Str) (f:Addr):Prop where
 at_:PySem.W.findIn K (.ref C) m=some (some (.ref f))
 fn:PySem.W.isFn K (.ref f)=true
 kp:PySem.W.keepIn K (.ref f)=true
section
def Zha(I:Inv X pins σ H s)(e:H a=some (.ins C dx fs))(c:Cls X.K C)(n:ZaE X.K C f)(l:fs.lookup f=some v)(h:∀u s',Inv X pins σ H s'->Zau v u->Q u s'):wpAny (model X.prog X.w) A (getAttr (.ref a) f b) Q E s:=by
 obtain⟨mA,O,r,_,_,_⟩:=ZcR I.hok e;obtain⟨u,hu,ru⟩:=Zfs.some_of (v:=v) (o:=mA f) (by rw[<- l];exact r f);exact Zos I.kIn O (c.get f) c.hd n hu (Zfj ru) (h u _ (I.tok _) ru)
def Zch(I:Inv X pins σ H s)(e:H a=some (.ins C dx fs))(c:Cls X.K C)(k:Zpb X.K C m g)(l:fs.lookup m=none)(h:Q (.ref g,[.ref a]) s):wpAny (model X.prog X.w) A (getMethod (.ref a) m pl) Q E s:=by
 obtain⟨mA,O,r,_,_,_⟩:=ZcR I.hok e;have hn:mA m=none:=Zfs.none_of (by rw[<- l];exact r m);exact Zkv I.kIn O (c.get m) k.at_ k.fn hn h
def Zhe(I:Inv X pins σ H s)(e:H a=some (.ins C dx fs))(c:Cls X.K C)(n:ZaE X.K C f)(hl:fs.length<1000)(ry:Zau y u)(h:∀s',Inv X pins σ (upd H a (.ins C dx (Zcf f y fs))) s'->Q () s'):wpAny (model X.prog X.w) A (setAttr (.ref a) f u) Q E s:=by
 obtain⟨mA,O,r,wi,_,ho⟩:=ZcR I.hok e;have hz:(fs.map (·.1)).length<=sizeLine:=by rw[Yc,Y8];lia
 refine Zox I.kIn O c.sa c.po n.taker c.hd wi hz fun h' O' sb=>h _ ?_;have hd:∃o,h'.get? dx=some o:=let⟨o,_,_,e',_⟩:=O'.ns;⟨o,e'⟩;refine I.write (x:=a) (e:=dx) (by rw[e];exact True.intro) (.inr ho) (fun b q hb z=>(sb.2 b hb).trans z) hd ?_;refine⟨by rw[Zr O.ne];exact ho,?_,O.ne,O'.obj,_,O'.ns,fun g=>?_,fun g hg=>?_⟩
 .have:=Zdq f y fs;lia
 .show Zfs ((Zcf f y fs).lookup g) (if g=f then some u else mA g);rw[Zdi];by_cases q:g=f
  .rw[if_pos q,if_pos q];exact ry
  .rw[if_neg q,if_neg q];exact r g
 .by_cases q:g=f
  .rw[q];exact(ZcU f y fs).1
  .refine(ZcU f y fs).2 g (wi g fun z=>hg ?_);show(if g=f then some u else mA g)=none;rw[if_neg q];exact z
def Inv.made(I:Inv X pins σ H s):Inv X pins σ (upd (upd H s.heap.objs.size (.own (s.heap.objs.size+1))) (s.heap.objs.size+1) (.ins C s.heap.objs.size []))
  { s with heap:=(s.heap.push emptyDict).push (instObj C s.heap.objs.size) }:=by
 have e1:(s.heap.push emptyDict).get? s.heap.objs.size=some emptyDict:=Yl s.heap rfl;have e2:((s.heap.push emptyDict).push (instObj C s.heap.objs.size)).get? (s.heap.objs.size+1)=some (instObj C s.heap.objs.size):=by
  have:=Yl (s.heap.push emptyDict) (o:=instObj C s.heap.objs.size) rfl;rwa [YJ]at this
 have e3:(s.heap.push emptyDict).Ns s.heap.objs.size (fun _=>none):=⟨emptyDict,#[],_,e1,rfl,(fun e he=>absurd he (by simp)),fun _=>rfl⟩;have I1:=I.laid (a:=s.heap.objs.size) (o:=.own (s.heap.objs.size+1)) (h':=s.heap.push emptyDict) (t':=s.toks) (fun b u q=>Ye _ q) (Yj _) ⟨_,e1⟩;refine I1.laid (a:=s.heap.objs.size+1) (o:=.ins C s.heap.objs.size []) (t':=s.toks) (fun b u q=>Ye _ q) (Ycc (YJ _ _)) ?_;have ne:s.heap.objs.size≠s.heap.objs.size+1:=Yo (Yaj _);refine⟨by rw[Zr ne,Zv],Y2 _,ne,e2,fun _=>none,(Heap.Ns1.of_empty e3).at fun o q=>Ye _ q,fun _=>True.intro,fun y hy=>absurd rfl hy⟩
def Ziv(hb:attributeBase e f env (eval e env)=eval e env)(h:wpAny (model prog w) A (eval e env) (fun o s₁=>wpAny (model prog w) A (getAttr o f true) Q E s₁) E s):wpAny (model prog w) A (eval (.Attribute e f pos) env) Q E s :=
 Attribute_any_ h (by rw[arm_eval_Attribute,hb])
end
def Zvt(K:YFr)(ta:TE)(f:Str):TE:=fun σ H Q=>ta σ H fun x H1=>∃a C dx fs v,x=.ref a/\H1 a=some (.ins C dx fs)/\Cls K C/\ZaE K C f/\fs.lookup f=some v/\Q v H1
def ZvB(K:YFr)(ta tv:TE)(f:Str):TS:=fun D σ H=>tv σ H fun y H1=>ta σ H1 fun x H2=>∃a C dx fs,x=.ref a/\H2 a=some (.ins C dx fs)/\Cls K C/\ZaE K C f/\fs.length<1000 /\
 D.nx σ (upd H2 a (.ins C dx (Zcf f y fs)))
section
def Z4(he:PE X e ta)(hb:attributeBase e f X.env (eval e X.env)=eval e X.env):PE X (.Attribute e f pos) (Zvt X.K ta f):=by
 intro pins s σ H Q I h;refine Ziv hb (thn (he pins s σ H _ I h) fun u s1 h_q=>?_);obtain⟨x,H1,I1,rx,a,C,dx,fs,v,ex,ea,c,n,l,q⟩:=h_q;subst ex;obtain rfl:u=Value.ref a:=rx;exact Zha I1 ea c n l fun u' s2 I2 ru=>⟨v,H1,I2,ru,q⟩
def Za6(ha:PE X o ta)(hv:PE X value tv)(hs:swapsWith value (some (.Attribute o f pos')) pos.line X.env=pure false):PS X (.Assign [.Attribute o f pos'] value pos) (ZvB X.K ta tv f):=by
 intro pins s σ H D I h;refine plainObj_wpAny_Assign_Attribute (thn (hv pins s σ H _ I h) fun u s1 ⟨y,H1,I1,ry,q⟩=>thn (ha pins s1 σ H1 _ I1 q) fun ov s2 ⟨x,H2,I2,rx,a,C,dx,fs,ex,ea,c,n,l,q2⟩=>?_) hs;subst ex;obtain rfl:ov=Value.ref a:=rx;exact Zhe I2 ea c n l ry fun s3 I3=>⟨σ,_,I3,q2⟩
end
section
inductive Zhi (K:YFr) (H:Hp):V->Value->Prop where
 | non:Zhi K H .non (.type "NoneType")
 | bl (x:Bool):Zhi K H (.bl x) (.type "bool")
 | int (i:Int):Zhi K H (.int i) (.type "int")
 | str (x:Str):Zhi K H (.str x) (.type "str")
 | flt (x:UInt64):Zhi K H (.flt x) (.type "float")
 | lst {a:Addr} {xs:List V} (e:H a=some (.lst xs)):Zhi K H (.ref a) (.type "list")
 | frz {a:Addr} {o:Obj} {xs:List V} (e:H a=some (.frz o (.lst xs))):Zhi K H (.ref a) (.type "list")
 | tup {a:Addr} {xs:List V} (e:H a=some (.tup xs)):Zhi K H (.ref a) (.type "tuple")
 | dK {a:Addr} {kvs:List (Key×V)} (e:H a=some (.dK kvs)):Zhi K H (.ref a) (.type "dict")
 | dT {a:Addr} {kvs:List (List Key×V)} (e:H a=some (.dT kvs)):Zhi K H (.ref a) (.type "dict")
 | ins {a C dx:Addr} {fs:List (Str×V)} (e:H a=some (.ins C dx fs)) (cl:Cls K C) (ha:PySem.W.findIn K (.ref C) "__class__"=some (some (.builtin "object.__class__")))
   (hn:PySem.W.specialIn K (.builtin "object.__class__") "__get__"=some (some (.builtin "getset_descriptor.__get__"))) (htk:PySem.W.takesIn K (.builtin "object.__class__")=some true)
   (hm:PySem.W.mroIn K C (.type "object")=some true):Zhi K H (.ref a) (.ref C)
def Ze3(I:Inv X pins σ H s)(rx:Zau x u)(ty:Zhi X.K H x t)(e:PySem.W.kitOne X.K t c=some b)(h:∀tk,Q (.bool b) { s with toks:=tk }):
  wpAny (model X.prog X.w) A (call (.builtin "isinstance") [u,c]) Q E s:=by
 cases ty with
 | non=>cases(show u=Value.none from rx);exact Y5 PySem.W.kitx_none I.kIn True.intro e (fun z=>nomatch z) h
 | bl y=>cases(show u=Value.bool y from rx);exact Y5 PySem.W.kitx_bool I.kIn True.intro e (fun z=>nomatch z) h
 | int i=>obtain⟨t,q⟩:=(show ∃t,u=Value.int i t from rx);cases q;exact Y5 PySem.W.kitx_int I.kIn True.intro e (fun z=>nomatch z) h
 | str y=>obtain⟨t,q⟩:=(show ∃t,u=Value.str y t from rx);cases q;exact Y5 PySem.W.kitx_str I.kIn True.intro e (fun z=>nomatch z) h
 | flt y=>obtain⟨t,q⟩:=(show ∃t,u=Value.float y t from rx);cases q;exact Y5 PySem.W.kitx_float I.kIn True.intro e (fun z=>nomatch z) h
 | @lst a xs ea =>
  cases(show u=Value.ref a from rx);obtain⟨_,_,n,_,h1⟩:=(show ZaO X.prog X.w H s.heap a (.lst xs)from I.hok a _ ea);exact Y5 YbA I.kIn ⟨_,h1,rfl⟩ e (fun z=>nomatch z) h
 | @frz a ob xs ea =>
  cases(show u=Value.ref a from rx);obtain⟨_,_,_,n,_,h1⟩:=(show ZaO X.prog X.w H s.heap a (.frz ob (.lst xs))from I.hok a _ ea);exact Y5 YbA I.kIn ⟨_,h1,rfl⟩ e (fun z=>nomatch z) h
 | @tup a xs ea =>
  cases(show u=Value.ref a from rx);obtain⟨_,_,_,p⟩:=(show ZaO X.prog X.w H s.heap a (.tup xs)from I.hok a _ ea);obtain⟨o,h1,h2,_⟩:=p;exact Y5 Yca I.kIn ⟨o,h1,h2⟩ e (fun z=>nomatch z) h
 | @dK a kvs ea =>
  cases(show u=Value.ref a from rx);obtain⟨_,_,vs,_,p⟩:=(show ZaO X.prog X.w H s.heap a (.dK kvs)from I.hok a _ ea);obtain⟨o,es,ep,h1,h2,_⟩:=p;exact Y5 Yce I.kIn ⟨o,h1,h2.1⟩ e (fun z=>nomatch z) h
 | @dT a kvs ea =>
  cases(show u=Value.ref a from rx);obtain⟨_,_,xs,_,o,es,ep,h1,h2,_⟩:=(show ZaO X.prog X.w H s.heap a (.dT kvs)from I.hok a _ ea);exact Y5 Yce I.kIn ⟨o,h1,h2.1⟩ e (fun z=>nomatch z) h
 | @ins a C dx fs ea cl ha hn htk hm =>
  cases(show u=Value.ref a from rx);obtain⟨mA,O,_⟩:=ZcR I.hok ea;obtain⟨od,J,_⟩:=O.look;exact Y5 (kitx_own (cl.get _) cl.hd ha hn htk hm) I.kIn J e (fun z=>nomatch z) h
end
structure Zbb (k:Nat) (A:Around):Prop where
 hd:A.handled=none
 dp:A.depth+3*k+5<recursionLimit
 un:A.units+16*k+200<cLine
def Zbb.mono(r:Zbb k A)(h:j<=k):Zbb j A:=⟨r.hd,by have:=r.dp;lia,by have:=r.un;lia⟩
def Zbb.deeper(r:Zbb (k+1) A)(env:Env):Zbb k (A.deeper env) :=
 ⟨r.hd,by have:=r.dp;show A.depth+1+3*k+5<_;lia,by have:=r.un;show A.units+3+16*k+200<_;lia⟩
def ZgX{A:Around}:(A.under (.builtin "type.__call__" ⟨.ref C::us,kw⟩)).depth=A.depth+1:=by
 first|rfl|simp[Around.under,Code.weight,Code.isCreation,Code.isGuard,Code.isCaller,Code.frames,Code.isFrame,guardIds]
def Zg5{A:Around}:(A.under (.builtin "type.__call__" ⟨.ref C::us,kw⟩)).units=A.units+1:=by
 first|rfl|simp[Around.under,Code.cUnits,Code.frames,Code.isFrame]
def Zbb.make(r:Zbb (k+1) A)(C:Addr)(us:List Value)(kw:List (Str×Value)):Zbb k (A.under (.builtin "type.__call__" ⟨.ref C::us,kw⟩)) :=
 ⟨r.hd,by have:=r.dp;rw[ZgX];lia,by have:=r.un;rw[Zg5];lia⟩
def Zbb.depth(r:Zbb k A):A.depth<recursionLimit:=by have:=r.dp;lia
def Zbb.units0(r:Zbb k A):A.units<cLine:=by have:=r.un;lia
def ZkZ:TA:=fun _ H Q=>Q [] H
def ZdW(ta:TE)(tr:TA):TA:=fun σ H Q=>ta σ H fun x H1=>tr σ H1 fun xs H2=>Q (x::xs) H2
section
def Zg:PA X [] ZkZ:=fun _ _ _ _ H Q I h=>Calls.spliced_nil ⟨[],H,I,.nil,h⟩
def Zb(ha:PE X e te)(hr:PA X es t)(hs:starEach (e::es) X.env=(false,eval e X.env)::starEach es X.env:=by rfl):PA X (e::es) (ZdW te t):=by
 intro pos pins s σ H Q I h;rw[hs];show wpAny _ _ (spliced ((false,eval e X.env)::backTo pos (starEach es X.env))) _ _ s;refine Calls.spliced_cons (thn (ha pins s σ H _ I h) fun u s1 h_q=>?_);obtain⟨x,H1,I1,r1,q1⟩:=h_q;exact thn (hr pos pins s1 σ H1 _ I1 q1) fun us s2 ⟨xs,H2,I2,r2,q2⟩=>⟨x::xs,H2,I2,.cons r1 r2,q2⟩
def Zvj(t:TA):TE:=fun σ H Q=>t σ H fun xs H1=>xs.length<=sizeLine/\∀p,H1 p=none->Q (.ref p) (upd H1 p (.tup xs))
def ZvI(t:TA):TE:=fun σ H Q=>t σ H fun xs H1=>xs.length<=sizeLine/\∀p,H1 p=none->Q (.ref p) (upd H1 p (.lst xs))
def ZW(h:PA X es t):PE X (.Tuple es x1 pos) (Zvj t):=by
 intro pins s σ H Q I hq;refine wpAny_Tuple_spliced (thn (h pos pins s σ H _ I hq) fun us s1 ⟨xs,H1,I1,r,z,q⟩=>⟨by rw[<- r.length];exact z,?_⟩);have hf:H1 s1.heap.objs.size=none:=I1.hok.fresh (Yj _);exact⟨.ref s1.heap.objs.size,upd H1 s1.heap.objs.size (.tup xs),I1.laid (t':=s1.toks) (fun b u e=>Ye _ e) (Yj _) ⟨z,us,r,⟨_,Yl _ rfl,rfl,_,rfl⟩⟩,rfl,q _ hf⟩
def Z0(h:PA X es t):PE X (.List es pos) (ZvI t):=by
 intro pins s σ H Q I hq;refine wpAny_List_spliced (thn (h pos pins s σ H _ I hq) fun us s1 ⟨xs,H1,I1,r,z,q⟩=>⟨by rw[<- r.length];exact z,?_⟩);have hf:H1 s1.heap.objs.size=none:=I1.hok.fresh (Yj _);exact⟨.ref s1.heap.objs.size,upd H1 s1.heap.objs.size (.lst xs),I1.laid (t':=s1.toks) (fun b u e=>Ye _ e) (Yj _) ⟨z,us,0,r,Yl _ rfl⟩,rfl,q _ hf⟩
end
abbrev Sp:=List V->Hp->VK->XK->Prop
abbrev CXT:=List Env->Hp->Shared->XK->Value->Shared->Prop
structure Zow (P:Program) (w:World) (K:YFr) (mg:Str->Option Value) (base:Heap) (A:Around) (outer:List Env) (s:Shared) (H:Hp):Prop where
 frames:A.frames=some outer
 mod:Mod K mg base
 bs:∀b o,base.get? b=some o->s.heap.get? b=some o/\H b=none
 bsz:base.objs.size<=s.heap.objs.size
 funs:s.heap.FunFrames base outer
 frf:∀b∈frs outer,H b=none
 hok:HOk P w H s.heap
 bare:AllBare s.gens
def CE(outer:List Env)(P:Program)(w:World)(H:Hp)(s:Shared)(Q:VK)(u:Value)(s':Shared):Prop :=
 ∃v H',s'.os=s.os/\AllBare s'.gens/\Un (frs outer) [] H H' s.heap s'.heap/\HOk P w H' s'.heap/\Zau v u/\Q v H'
def CR(CX:CXT)(outer:List Env)(P:Program)(w:World)(H:Hp)(s:Shared)(Q:VK)(E:XK)(r:Result)(s':Shared):Prop :=
 match r with
 | .ok (.ret u)=>CE outer P w H s Q u s'
 | .ok _=>False
 | .error e=>CX outer H s E e s'
structure ZbB (P:Program) (w:World) (K:YFr) (mg:Str->Option Value) (base:Heap) (CX:CXT) (k:Nat) (f:Addr) (fd:FuncData) (ps:List Str) (sp:Sp):Prop where
 len:∀vs H Q E,sp vs H Q E->vs.length=ps.length
 run : ∀(A:Around)(outer:List Env)(s:Shared)(H:Hp)(args:Args)(us:List Value)(vs:List V)(Q:VK)(E:XK),Zbb k A->Zow P w K mg base A outer s H->BindsTo s fd args (ps.zip us)->Z6 vs us->sp vs H Q E ->
  codeAny (model P w) A (.call (.ref f) args) (CR CX outer P w H s Q E) s
def ZbB.mono{K:YFr}(F:ZbB P w K mg base CX j f fd ps sp)(h:j<=k):
  ZbB P w K mg base CX k f fd ps sp:=⟨F.len,fun A outer s H args us vs Q E hr=>F.run A outer s H args us vs Q E (hr.mono h)⟩
def ZbB.imp{K:YFr}(F:ZbB P w K mg base CX k f fd ps sp)(h:∀vs H Q E,sp' vs H Q E->sp vs H Q E):ZbB P w K mg base CX k f fd ps sp' :=
 ⟨fun vs H Q E q=>F.len vs H Q E (h _ _ _ _ q),fun A outer s H args us vs Q E hr he hb hv hs=>F.run A outer s H args us vs Q E hr he hb hv (h _ _ _ _ hs)⟩
def Zow.make{K:YFr}(e:Zow P w K mg base A outer s H)(C:Addr)(us:List Value)(kw:List (Str×Value)):
  Zow P w K mg base (A.under (.builtin "type.__call__" ⟨.ref C::us,kw⟩)) outer s H:=⟨by first|exact e.frames|(simpa[Around.under,Code.envs,Code.isFrame,pushEnvs]using e.frames),e.mod,e.bs,e.bsz,e.funs,e.frf,e.hok,e.bare⟩
section
def Inv.env0(I:Inv X pins σ H s):Zow X.prog X.w X.K X.mg X.base X.A X.stack s H :=
 ⟨I.ok.frames,I.ok.mod,I.bs,YB I.ok.bsz I.sz,I.stack,I.stkFree,I.hok,I.bare⟩
def Inv.after(I:Inv X pins σ H s)(h:CE X.stack X.prog X.w H s Q u s'):EP X pins σ Q u s':=by
 obtain⟨v,H',os,bare,un,hok,r,q⟩:=h;obtain⟨hh,g,d,t,os'⟩:=s';obtain rfl:os'=s.os:=os;exact⟨v,H',I.call (h':=hh) (g':=g) (d':=d) (t':=t) (ch:=[]) un hok bare (fun b z=>absurd z (by simp)),r,q⟩
end
def ZoO(sp:Sp)(dvs:List V)(E:XK)(t:TA):TE:=fun σ H Q=>t σ H fun vs H1=>sp (vs++dvs) H1 Q E
def ZpS(C:Addr)(m:Str)(sp:Sp)(dvs:List V)(E:XK)(ta:TE)(t:TA):TE:=fun σ H Q=>ta σ H fun x H1=>∃a dx fs,x=.ref a/\H1 a=some (.ins C dx fs)/\fs.lookup m=none /\
 t σ H1 fun vs H2=>sp (x::(vs++dvs)) H2 Q E
def Zm5(C:Addr)(sp:Sp)(dvs:List V)(E:XK)(t:TA):TE:=fun σ H Q=>t σ H fun vs H1=>∀x dx,H1 x=none->H1 dx=none->dx≠x ->
 sp (.ref x::(vs++dvs)) (upd (upd H1 dx (.own x)) x (.ins C dx [])) (fun v H2=>v=.non/\Q (.ref x) H2) E
def Zb7(K:YFr)(fd:FuncData)(ps:List Str)(ds:List Value):Prop :=
 ∀(s:Shared)(us:List Value),K.In s.heap->(us++ds).length=ps.length->BindsTo s fd ⟨us,[]⟩ (ps.zip (us++ds))
def Zb7.all{K:YFr}(h:∀us:List Value,us.length=ps.length->bindArgs fd ⟨us,[]⟩=pure (ps.zip us)):Zb7 K fd ps []:=fun s us _ hl=>by
 rw[YN]at hl ⊢
 exact .of_eq (h us hl)
def ZbX(CX:CXT)(X:Cx)(E:XK):Prop:=∀(pins:List (Addr×Obj))(σ:St)(H:Hp)(s:Shared)(e:Value)(s':Shared),Inv X pins σ H s->CX X.stack H s E e s'->X.xe e s'
section
variable{p pos apos:Pos}
def Zfk(F:ZbB X.prog X.w X.K X.mg X.base CX k f fd ps sp)(hr:Zbb k X.A)(hb:Zb7 X.K fd ps ds)(hd:Z6 dvs ds)(hx:ZbX CX X E)(I:Inv X pins σ H s)(r:Z6 vs us)(h:sp (vs++dvs) H Q E):wpAny (model X.prog X.w) X.A (call (.ref f) us) (EP X pins σ Q) X.xe s:=by
 have r2:Z6 (vs++dvs) (us++ds):=r.append hd;have hl:(us++ds).length=ps.length:=by rw[<- r2.length];exact F.len _ _ _ _ h
 refine YaD (Yat (F.run X.A X.stack s H ⟨us,[]⟩ (us++ds) (vs++dvs) Q E hr I.env0 (hb s us I.kIn hl) r2 h) fun r s' hq=>?_);cases r with
 | error e=>exact hx pins σ H s e s' I hq
 | ok fl =>
  cases fl with
  | ret u=>exact I.after hq
  | next=>exact False.elim hq
  | brk=>exact False.elim hq
  | cont=>exact False.elim hq
def ZoG(F:ZbB X.prog X.w X.K X.mg X.base CX k f fd ps sp)(hr:Zbb k X.A)(hg:Gl X x)(hm:X.mg x=some (.ref f))(hk:PySem.W.keepIn X.K (.ref f)=true)(hb:Zb7 X.K fd ps ds)(hd:Z6 dvs ds)(hx:ZbX CX X E)(ha:PA X (e::es) t)(hdb:(x==("__debug__":Str))=false:=by decide)(he:starEach (e::es) X.env=(false,eval e X.env)::starEach es X.env:=by rfl)(hpl:(backTo pos (starEach es X.env)).any (·.1)=false:=by rfl):
  PE X (.Call (.Name x p) (e::es) [] pos) (ZoO sp dvs E t):=by
 intro pins s σ H Q I h;exact Yah (Za0 I hg hm (Yaz (h₀:=X.base) I.ok.mod.kin hk (thn (ha pos pins s σ H _ I h) fun us s1 ⟨vs,H1,I1,r,q⟩=>⟨I1.kIn,Zfk F hr hb hd hx I1 r q⟩) he hpl) hdb)
def Zis{pl:Sem Bool}(he:PE X o ta)(c:Cls X.K C)(hm:Zpb X.K C m f)(F:ZbB X.prog X.w X.K X.mg X.base CX k f fd ps sp)(hr:Zbb k X.A)(hb:Zb7 X.K fd ps ds)(hd:Z6 dvs ds)(hx:ZbX CX X E)(ha:PA X (e::es) t)(hst:starEach (e::es) X.env=(false,eval e X.env)::starEach es X.env:=by rfl)(hpl:(backTo pos (starEach es X.env)).any (·.1)=false:=by rfl)(ht : eval (.Call (.Attribute o m apos) (e::es) [] pos) X.env=(do
   let ov <- eval o X.env
   standAt apos.atName
   let(f,first) <- holding [ov] (getMethod ov m pl)
   callWith pos f first (backTo pos (starEach (e::es) X.env)) (backToKw pos (keywordEach [] X.env))):=by rfl):
  PE X (.Call (.Attribute o m apos) (e::es) [] pos) (ZpS C m sp dvs E ta t):=by
 intro pins s σ H Q I h;refine methodCall_KW (pl:=pl) (thn (he pins s σ H _ I h) fun u s1 ⟨x,H1,I1,rx,a,dx,fs,ex,ea,l,q⟩=>?_) ht;subst ex;obtain rfl:u=Value.ref a:=rx;exact Zch I1 ea c hm l (Yaz (first:=[.ref a]) (h₀:=X.base) I.ok.mod.kin hm.kp (thn (ha pos pins s1 σ H1 _ I1 q) fun us s2 ⟨vs,H2,I2,r,q2⟩=>⟨I2.kIn,Zfk (us:=.ref a::us) (vs:=.ref a::vs) F hr hb hd hx I2 (.cons rfl r) q2⟩) hst hpl)
structure Mk (K:YFr) (C f:Addr):Prop where
 makes:PySem.W.makesIn K C=true
 init:PySem.W.findIn K (.ref C) "__init__"=some (some (.ref f))
 fn:PySem.W.isFn K (.ref f)=true
 kp:PySem.W.keepIn K (.ref C)=true
def Zlq(M:Mk X.K C f)(F:ZbB X.prog X.w X.K X.mg X.base CX k f fd ps sp)(hr:Zbb (k+1) X.A)(hb:Zb7 X.K fd ps ds)(hd:Z6 dvs ds)(hx:ZbX CX X E)(I:Inv X pins σ H s)(r:Z6 vs us)(h:∀x dx,H x=none->H dx=none->dx≠x->sp (.ref x::(vs++dvs)) (upd (upd H dx (.own x)) x (.ins C dx [])) (fun v H2=>v=.non/\Q (.ref x) H2) E):
  wpAny (model X.prog X.w) X.A (call (.ref C) us) (EP X pins σ Q) X.xe s:=by
 have hq:=h (s.heap.objs.size+1) s.heap.objs.size (I.hok.fresh (Yaf _)) (I.hok.fresh (Yj _)) (Yo (Yaj _));have I2:=Inv.made (C:=C) I;have r2:Z6 (V.ref (s.heap.objs.size+1)::(vs++dvs)) (Value.ref (s.heap.objs.size+1)::(us++ds)):=.cons rfl (r.append hd);have hl:(Value.ref (s.heap.objs.size+1)::us++ds).length=ps.length:=by
  have e:=r2.length;rw[F.len _ _ _ _ hq]at e;exact e.symm
 refine YaD (ZgC (f:=f) I.kIn M.makes M.init (beq_iff_eq.mp M.fn) (Yat (F.run _ X.stack _ _ ⟨Value.ref (s.heap.objs.size+1)::us,[]⟩ (Value.ref (s.heap.objs.size+1)::(us++ds)) _ _ E (hr.make C us [])
  (I2.env0.make C us []) (hb _ (Value.ref (s.heap.objs.size+1)::us) I2.kIn hl) r2 hq) fun r s' hq'=>?_))
 cases r with
 | error e=>exact hx pins σ _ _ e s' I2 hq'
 | ok fl =>
  cases fl with
  | ret u =>
   obtain⟨v,H',I3,rv,ev,q3⟩:=I2.after hq';subst ev;exact⟨rv,⟨V.ref (s.heap.objs.size+1),H',I3,rfl,q3⟩⟩
  | next=>exact False.elim hq'
  | brk=>exact False.elim hq'
  | cont=>exact False.elim hq'
def Zbp(M:Mk X.K C f)(F:ZbB X.prog X.w X.K X.mg X.base CX k f fd ps sp)(hr:Zbb (k+1) X.A)(hg:Gl X x)(hm:X.mg x=some (.ref C))(hb:Zb7 X.K fd ps ds)(hd:Z6 dvs ds)(hx:ZbX CX X E)(ha:PA X (e::es) t)(hdb:(x==("__debug__":Str))=false:=by decide)(he:starEach (e::es) X.env=(false,eval e X.env)::starEach es X.env:=by rfl)(hpl:(backTo pos (starEach es X.env)).any (·.1)=false:=by rfl):
  PE X (.Call (.Name x p) (e::es) [] pos) (Zm5 C sp dvs E t):=by
 intro pins s σ H Q I h;exact Yah (Za0 I hg hm (Yaz (h₀:=X.base) I.ok.mod.kin M.kp (thn (ha pos pins s σ H _ I h) fun us s1 ⟨vs,H1,I1,r,q⟩=>⟨I1.kIn,Zlq M F hr hb hd hx I1 r q⟩) he hpl) hdb)
end
structure Zao (N P:List Str) (sc:Scope):Prop where
 kind:sc.kind=.function
 co:sc.isCoroutine=false
 gen:sc.isGenerator=false
 nd:N.Nodup
 pre:N.take P.length=P
 par:∀x∈P,sc.names.lookup x=some .local\/sc.names.lookup x=some .cell
 nofree:∀y∈sc.names,y.2≠.free
theorem ZeT{kindOf:Str->Option NameKind}:∀ {binds:List (Str×Value)} {m:Str->Option Value},(∀v,(x,v)∉binds)->bindL kindOf binds m x=m x
 | [],_,_=>rfl
 | (n, v)::r,m,h=>by
  unfold bindL
  rw[ZeT fun w hw=>h w (Yad _ hw)]
  split
  .have:x≠n:=by rintro rfl;exact h v Yab
   simp[this]
  .rfl
theorem Ze0{kindOf:Str->Option NameKind}:∀ {binds:List (Str×Value)} {m:Str->Option Value},(∀v,(x,v)∉binds)->bindC kindOf binds m x=m x
 | [],_,_=>rfl
 | (n, v)::r,m,h=>by
  unfold bindC
  rw[Ze0 fun w hw=>h w (Yad _ hw)]
  split
  .rfl
  .have:x≠n:=by rintro rfl;exact h v Yab
   simp[this]
theorem ZeM{kindOf:Str->Option NameKind}:∀ {P:List Str} {vs:List Value} {i:Nat} {m:Str->Option Value},P.Nodup->P[i]? = some x->vs[i]? = some v->kindOf x=some .local ->
  bindL kindOf (P.zip vs) m x=some v
 | [],_,_,_,_,h,_,_=>by simp at h
 | _::_,[],_,_,_,_,h,_=>by simp at h
 | p :: P,w::vs,0,m,nd,h1,h2,hk=>by
  simp at h1 h2;subst h1;subst h2
  show bindL kindOf ((p,w)::P.zip vs) m p=_
  unfold bindL
  rw[ZeT fun v hv=>(Yae.mp nd).1 (YbK hv).1,if_pos hk]
  simp
 | p :: P,w::vs,i+1,m,nd,h1,h2,hk=>by
  show bindL kindOf ((p,w)::P.zip vs) m x=_
  unfold bindL
  exact ZeM (i:=i) (Yae.mp nd).2 (by simpa using h1) (by simpa using h2) hk
theorem ZeC{kindOf:Str->Option NameKind}:∀ {P:List Str} {vs:List Value} {i:Nat} {m:Str->Option Value},P.Nodup->P[i]? = some x->vs[i]? = some v->kindOf x≠some .local ->
  bindC kindOf (P.zip vs) m x=some v
 | [],_,_,_,_,h,_,_=>by simp at h
 | _::_,[],_,_,_,_,h,_=>by simp at h
 | p :: P,w::vs,0,m,nd,h1,h2,hk=>by
  simp at h1 h2;subst h1;subst h2
  show bindC kindOf ((p,w)::P.zip vs) m p=_
  unfold bindC
  rw[Ze0 fun v hv=>(Yae.mp nd).1 (YbK hv).1,if_neg hk]
  simp
 | p :: P,w::vs,i+1,m,nd,h1,h2,hk=>by
  show bindC kindOf ((p,w)::P.zip vs) m x=_
  unfold bindC
  exact ZeC (i:=i) (Yae.mp nd).2 (by simpa using h1) (by simpa using h2) hk
def start(N:List Str)(vs:List V):St:=vs.map some++List.replicate (N.length-vs.length) none
def Zds(CX:CXT)(P:Program)(w:World)(K:YFr)(mg:Str->Option Value)(base:Heap)(N:List Str)(qual:Str)(scope:Scope)(f:Addr)(cd:Value)(A:Around)(outer:List Env)(s:Shared)(H:Hp)(E:XK):Cx where
 prog:=P
 w := w
 K := K
 mg:=mg
 base:=base
 A := A.deeper (envOfC qual scope s.heap.objs.size f cd)
 N := N
 s₀:=s
 H₀:=H
 env:=envOfC qual scope s.heap.objs.size f cd
 outer:=outer
 stack:=envOfC qual scope s.heap.objs.size f cd::outer
 ex:=[]
 calm:=true
 fn:=fun _=>true
 pn:=[]
 xe:=fun e s'=>wpAny (model P w) (A.deeper (envOfC qual scope s.heap.objs.size f cd)) (leaving (envOfC qual scope s.heap.objs.size f cd) e) (fun _ s''=>CX outer H s E e s'') (fun e' s''=>CX outer H s E e' s'') s'
def Zgt{sc:Scope}(h:sc.names.lookup x=some .cell):∃c,(cellsFrom n sc.names []).lookup x=some c:=by
 have q:=YbP sc.names n [] (.inl h);exact YaU.mp q
def ZiQ{K:YFr}(S:Zao N ps scope)(hd:A.handled=none)(e0:Zow P w K mg base A outer s H)(hl:vs.length=ps.length)(r:Z6 vs us)(x:InCallC s s.heap.objs.size (bindL (envOfC qual scope s.heap.objs.size f cd).kindOf (ps.zip us) fun _=>none) (cellsFrom (s.heap.objs.size+1) scope.names []) (bindC (envOfC qual scope s.heap.objs.size f cd).kindOf (ps.zip us) fun _=>none) s1):
  Inv (Zds CX P w K mg base N qual scope f cd A outer s H E) [] (start N vs) H s1:=by
 have hpl:ps.length<=N.length:=by have:=congrArg List.length S.pre;rw[YL]at this;lia
 obtain⟨h1,tk,rfl,hk⟩:=x.done;have noA:∀b:Addr,b∉(Zds CX P w K mg base N qual scope f cd A outer s H E).ex:=fun b z=>absurd (show b∈([]:List Addr)from z) (by simp);refine⟨⟨e0.mod,S.kind,rfl,rfl,Yj _,fun y z c h1 h2=>?_,fun y hy=>?_,fun y c _ h=>?_,fun _=>hd,Around.frames_deeper e0.frames,.inr ⟨rfl,rfl⟩,fun b z=>absurd z (noA b),e0.bs,e0.bsz,fun b _ _=>noA b,fun b z=>absurd z (noA b),e0.funs,e0.frf⟩,
  rfl,e0.bare,Un.kept hk,⟨_,x.toInCall.ns,fun i y v h1 h2 h3=>?_⟩,fun y c h=>⟨_,x.cell y c h⟩,e0.hok.fresh (Yj _),fun y c h=>?_,fun p hp=>absurd (show p∈([]:List (Addr×Obj))from hp) (by simp),e0.hok.kept hk,?_⟩
 .exact name_of_addr x.apart (Yaq h1) (Yaq h2)
 .have hy:scope.names.lookup y=some .cell\/scope.names.lookup y=some .free:=hy;rcases hy with hy|hy
  .exact Zgt hy
  .exact absurd rfl (S.nofree _ (Yaq hy))
 .exact YaT (x.above y c (Yaq h))
 .have hi:i<vs.length:=by
   unfold start at h2;by_cases hi:i<vs.length
   .exact hi
   .rw[YW (by simpa using hi)]at h2;rw[YbI]at h2;split at h2<;>cases h2
  have ha:vs[i]? = some v:=by
   unfold start at h2;rw[Y6 (by simpa using hi),Yi]at h2;cases e:vs[i]? with
   | none=>rw[e]at h2;cases h2
   | some a=>rw[e]at h2;cases h2;rfl
  obtain⟨u,hu,rv⟩:=r.get ha;have hp:ps[i]? = some y:=by
   rw[<- S.pre,List.getElem?_take_of_lt (by lia)];exact h1
  have ndP:ps.Nodup:=by rw[<- S.pre];exact S.nd.sublist (List.take_sublist _ _)
  refine⟨u,rv,?_⟩;rcases S.par y (Yk hp)with k|k
  .exact .inl ⟨k,ZeM ndP hp hu k⟩
  .obtain⟨c,e⟩:=Zgt (n:=s.heap.objs.size+1) k;refine .inr ⟨.inl k,c,e,?_⟩;have q:=x.cell y c e;rw[ZeC ndP hp hu (by show scope.names.lookup y≠_;rw[k];decide)]at q;exact q
 .exact e0.hok.fresh (YaT (x.above y c (Yaq h)))
 .unfold start;show _=N.length;rw[Ys,Yc,YbS];lia
def Zq9{K:YFr}{dV kV doc pm cdv ct oc:Value}(lk:K.lookup f=some ⟨oc,od,.func (PySem.W.fnOf name qual params body scope dV kV doc pm an cdv ct),osl⟩)(hcd:PySem.W.codeIn K cdv qual=true)(S:Zao N ps scope)(len:∀ vs H Q E,sp vs H Q E->vs.length=ps.length)(hbody:∀ (A:Around) (outer:List Env) (s:Shared) (H:Hp) (vs:List V) (Q:VK) (E:XK),Zbb k (A.deeper (envOfC qual scope s.heap.objs.size f cdv))->sp vs H Q E ->
   ∃t,PSs (Zds CX P w K mg base N qual scope f cdv A outer s H E) body t/\t { nx:=fun _ H'=>Q .non H',rt:=Q } (start N vs) H):
  ZbB P w K mg base CX (k+1) f (PySem.W.fnOf name qual params body scope dV kV doc pm an cdv ct) ps sp:=by
 refine⟨len,fun A outer s H args us vs Q E hr e0 hb r hsp=>?_⟩;have hl:=len _ _ _ _ hsp;have KX:K.In s.heap:=e0.mod.kin.keeps fun b o e=>(e0.bs b o e).1;have lim:s.heap.NoLimit:=e0.mod.nolimit.keeps fun b o e=>(e0.bs b o e).1;have hkind:∀y∈ps.zip us,scope.names.lookup y.1=some .local\/(scope.names.lookup y.1=some .cell/\((cellsFrom (s.heap.objs.size+1) scope.names []).lookup y.1).isSome=true):=fun hq0 hy=>by
  obtain⟨n,v⟩:=hq0;rcases S.par n (YbK hy).1 with q|q
  .exact .inl q
  .exact .inr ⟨q,YbP _ _ _ (.inl q)⟩
 refine codeAny_call_function hr.depth (KX _ _ lk) rfl S.co S.gen rfl (PySem.W.codeRec_of KX hcd) (hb _ _ _ _ (wpAny_newFunctionEnv_cells S.kind hkind fun env he s1 x=>?_));subst he;refine⟨lim.keeps x.toInCall.keep,codeAny_func ?_⟩;obtain⟨t,ht,hq⟩:=hbody A outer s H vs Q E (hr.deeper _) hsp;have I:Inv (Zds CX P w K mg base N qual scope f cdv A outer s H E) [] (start N vs) H s1:=ZiQ S hr.hd e0 hl r x;refine YG (ht [] s1 (start N vs) H _ I hq) (fun fl s' hs=>?_) fun e s' hs=>hs;have fin:∀ {σ':St} {H':Hp} {v:V} {u:Value},Inv (Zds CX P w K mg base N qual scope f cdv A outer s H E) [] σ' H' s'->Zau v u->Q v H'->CE outer P w H s Q u s' :=
  fun {σ' H' v u} J rv q=>⟨v,H',J.os,J.bare,J.base,J.hok,rv,q⟩
 cases fl with
 | ret u =>
  obtain⟨v,σ',H',J,rv,q⟩:=hs;exact fin J rv q
 | next =>
  obtain⟨σ',H',J,q⟩:=hs;exact fin (v:=V.non) (u:=Value.none) J rfl q
 | brk =>
  obtain⟨_,_,_,q⟩:=hs;exact False.elim q
 | cont =>
  obtain⟨_,_,_,q⟩:=hs;exact False.elim q
section
variable{id T:String}
def tCB(r:List V->Hp->VK->Prop)(t:TA):TE:=fun σ H Q=>t σ H fun vs H1=>r vs H1 Q
def Zks(hc:Zaj X (.builtin id) r)(hg:Gl X x)(hm:X.mg x=none)(hv:bootBuiltins x=some (.builtin id))(ha:PA X (e::es) t)(hn:x≠"__name__":=by decide)(hdb:(x==("__debug__":Str))=false:=by decide)(he:starEach (e::es) X.env=(false,eval e X.env)::starEach es X.env:=by rfl)(hpl:(backTo pos (starEach es X.env)).any (·.1)=false:=by rfl):PE X (.Call (.Name x p) (e::es) [] pos) (tCB r t):=by
 intro pins s σ H Q I h;exact Yah (ZcA I hg hm hv (PyProof.Rows.callWith_builtin1 (thn (ha pos pins s σ H _ I h) fun us s1 ⟨vs,H1,I1,r1,q1⟩=>hc pins s1 σ H1 vs us Q I1 r1 q1) he hpl) hn hdb)
def Zie(hc:Zaj X (.type T) r)(hg:Gl X x)(hm:X.mg x=none)(hv:bootBuiltins x=some (.type T))(ha:PA X (e::es) t)(hn:x≠"__name__":=by decide)(hdb:(x==("__debug__":Str))=false:=by decide)(he:starEach (e::es) X.env=(false,eval e X.env)::starEach es X.env:=by rfl)(hpl:(backTo pos (starEach es X.env)).any (·.1)=false:=by rfl):PE X (.Call (.Name x p) (e::es) [] pos) (tCB r t):=by
 intro pins s σ H Q I h;exact Yah (ZcA I hg hm hv (YaL (thn (ha pos pins s σ H _ I h) fun us s1 ⟨vs,H1,I1,r1,q1⟩=>hc pins s1 σ H1 vs us Q I1 r1 q1) he hpl) hn hdb)
def ZdP(hc:Zaj X (.type T) r)(hg:Gl X x)(hm:X.mg x=none)(hv:bootBuiltins x=some (.type T))(hn:x≠"__name__":=by decide)(hdb:(x==("__debug__":Str))=false:=by decide):
  PE X (.Call (.Name x p) [] [] pos) (tCB r ZkZ):=by
 intro pins s σ H Q I h;refine Yah (ZcA I hg hm hv ?_ hn hdb);exact PyProof.Rows.callWith_type0 (hc pins s σ H [] [] Q I .nil h)
end
end L2
namespace HT
open PySem PyProof.Rows
def rcLt_int(A:Around)(s:Shared)(a:Int)(t:Tok)(c:Int)(u:Tok)(prog:Program)(w:World)(E:Value->Shared->Prop)(Q:Value->Shared->Prop)(h:Q (.bool (decide (a<c))) s):
  wpAny (model prog w) A (richCompare .Lt (.int a t) (.int c u)) Q E s :=
 (PyProof.Rows.lt_int h:wpAny (model prog w) A (compareOp .Lt (.int a t) (.int c u)) Q E s)
section
def cat_tup(ht:IsTup s.heap t vs.toArray)(hb:IsTup s.heap b ws.toArray)(hv:vs≠[])(h1:ws=[]->Q (.ref t) s)(h2:ws≠[]->Q (.ref s.heap.objs.size) { s with heap:=s.heap.push { cls:=.type "tuple",data:=.seq (vs++ws).toArray } })(hsz:vs.length+ws.length<=sizeLine):wpAny (model prog w) A (binaryOp .Add (.ref t) (.ref b)) Q E s:=by
 obtain⟨⟨cls,dd,data,sl⟩,ho,hc,n,hd⟩:=id ht;obtain⟨⟨cls2,dd2,data2,sl2⟩,ho2,hc2,n2,hd2⟩:=id hb;simp only at hc hd hc2 hd2;subst hc hd hc2 hd2;have e:vs.toArray++ws.toArray=(vs++ws).toArray:=by simp
 by_cases hw:ws=[]
 .exact YbD ⟨_,ho,rfl⟩ ⟨_,ho2,rfl⟩ Ycj seq_tuple_add Ybl Ybi (Ybe _ _)
   (tuple_addW1 t b vs.toArray ws.toArray n n2 dd dd2 sl sl2 (by simpa using hv) (by simp[hw])) ⟨ho,ho2,h1 hw⟩
 .refine YbD ⟨_,ho,rfl⟩ ⟨_,ho2,rfl⟩ Ycj seq_tuple_add Ybl Ybi (Ybe _ _)
   (tuple_addW2 t b vs.toArray ws.toArray n n2 dd dd2 sl sl2 (by simpa using hv) (by simpa using hw) (by rw[Yr,Yr];exact hsz)) ⟨ho,ho2,?_⟩
  rw[e];exact h2 hw
def sIx(n d:Nat):Option Int->Nat
 | none=>d
 | some v=>if v<0 then(v+(n:Int)).toNat else min v.toNat n
def sIx_none(n d:Nat):sIx n d none=d:=rfl
def sIx_nat(n d k:Nat):sIx n d (some (k:Int))=min k n:=by
 show(if(k:Int)<0 then((k:Int)+(n:Int)).toNat else min (k:Int).toNat n)=min k n;rw[if_neg (by lia),Int.toNat_natCast]
def sIx_le(n d:Nat)(hd:d<=n)(o:Option Int):sIx n d o<=n:=by
 cases o with
 | none=>exact hd
 | some v =>
  show(if v<0 then(v+(n:Int)).toNat else min v.toNat n)<=n;by_cases hv:v<0
  .rw[if_pos hv];lia
  .rw[if_neg hv];exact Nat.min_le_right _ _
def clip_eq(v:Int)(n d:Nat):(if v<0 then max (v+(n:Int)) 0 else min v (n:Int))=((sIx n d (some v):Nat):Int):=by
 show(if v<0 then max (v+(n:Int)) 0 else min v (n:Int))=(((if v<0 then(v+(n:Int)).toNat else min v.toNat n):Nat):Int);by_cases hv:v<0
 .simp only[if_pos hv];lia
 .simp only[if_neg hv];lia
def Zhd(lo hi:Option Int)(n:Nat):Builtin.Slice.sliceAdjust lo hi 1 (n:Int)=(((sIx n 0 lo:Nat):Int),((sIx n n hi:Nat):Int)):=by
 have h1:¬((1:Int)<0):=by lia
 unfold Builtin.Slice.sliceAdjust;simp only[h1,Yal];refine Prod.ext ?_ ?_
 .cases lo with
  | none=>rfl
  | some v=>exact clip_eq v n 0
 .cases hi with
  | none=>rfl
  | some v=>exact clip_eq v n n
def ZhD(i j:Nat):Builtin.Slice.slicePlaces (i:Int) (j:Int) 1=j-i:=by
 unfold Builtin.Slice.slicePlaces;have h1:(1:Int)>0:=by lia
 simp only[h1,if_true,Int.ediv_one];split<;>lia
def ZdH(p:IsPart v o)(h:Q o s):wpAny (model prog w) A (Builtin.Slice.slicePartIndex v) Q E s:=by
 cases p with
 | none=>exact slicePart_none h
 | int i t=>exact slicePart_int h
def sliceApplied_gen{lo hi:Option Int}{Q:Int×Int×Nat->Shared->Prop}(hs:s.heap.IsSliceOf sl vl vu .none)(pl:IsPart vl lo)(pu:IsPart vu hi)(h:Q (((sIx n 0 lo:Nat):Int),1,sIx n n hi-sIx n 0 lo) s):wpAny (model prog w) A (Builtin.Slice.sliceApplied (.ref sl) (pure (n:Int))) Q E s:=by
 obtain⟨os,hos,hcs,hds⟩:=id hs;unfold Builtin.Slice.sliceApplied Builtin.Slice.sliceFields;refine Yb (Yb (Y9 hos hds (x:=vl) rfl (Yb (Y9 hos hds (x:=vu) rfl (Yb (Y9 hos hds (x:=.none) rfl (Yd ?_)))))));refine Yb (slicePart_none ?_);show wpAny _ _ (if((1:Int)==0)=true then _ else _) _ _ s;rw[if_neg (by decide)];refine Yb (ZdH pl (Yb (ZdH pu (Yb (Yd ?_)))));show wpAny _ _ (match Builtin.Slice.sliceAdjust lo hi 1 (n:Int)with|(lo,hi)=>pure (lo,(1:Int),Builtin.Slice.slicePlaces lo hi 1)) _ _ s;rw[Zhd lo hi n];show wpAny _ _ (pure (((sIx n 0 lo:Nat):Int),(1:Int),Builtin.Slice.slicePlaces ((sIx n 0 lo:Nat):Int) ((sIx n n hi:Nat):Int) 1)) _ _ s;rw[ZhD];exact Yd h
def ZkQ(xs:Array Value)(i k:Nat):((List.range k).filterMap fun(m:Nat)=>xs[((i:Int)+(m:Int)*1).toNat]?).toArray=((xs.toList.drop i).take k).toArray:=by
 have e:(fun(m:Nat)=>xs[((i:Int)+(m:Int)*1).toNat]?)=fun m=>xs[i+m]?:=by
  funext m;have:((i:Int)+(m:Int)*1).toNat=i+m:=by lia
  rw[this]
 rw[e];have:=pick_run xs i k;rw[List.filterMap_map]at this;have e2:((fun x=>xs[x]?)∘fun x=>i+x)=fun m=>xs[i+m]?:=rfl;rw[e2]at this;rw[this]
def getItem_tuple_cut{lo hi:Option Int}(ht:IsTup s.heap t items)(hs:s.heap.IsSliceOf sl vl vu .none)(pl:IsPart vl lo)(pu:IsPart vu hi)(hw:¬(sIx items.size 0 lo=0/\sIx items.size items.size hi=items.size))(h:Q (.ref s.heap.objs.size) { s with heap:=s.heap.push { cls:=.type "tuple",data:=.seq ((items.toList.drop (sIx items.size 0 lo)).take (sIx items.size items.size hi-sIx items.size 0 lo)).toArray } })(hsz:items.size<=sizeLine):wpAny (model prog w) A (getItem (.ref t) (.ref sl)) Q E s:=by
 have htake:sizeOk (.seq ((items.toList.drop (sIx items.size 0 lo)).take (sIx items.size items.size hi-sIx items.size 0 lo)).toArray):=by
  show((items.toList.drop (sIx items.size 0 lo)).take (sIx items.size items.size hi-sIx items.size 0 lo)).toArray.size<=sizeLine;rw[Yr,YL,YaK,Array.length_toList];lia
 have hj:sIx items.size items.size hi<=items.size:=sIx_le _ _ (Yj _) hi;obtain⟨os,hos,hcs,hds⟩:=id hs;have hTs:s.TypeIs (.ref sl) "slice":=⟨os,hos,hcs⟩;unfold getItem;try with_reducible refine YT ?_
 first|refine Yb (Yd ?_)|skip
 refine Yb (Ycf ht.typeIs (by decide) ?_);refine Yb (Y4 (name:=Str.ofString "__getitem__") ht.typeIs Yag
  (YY Yag ht.typeIs entry_tuple_getitem ?_ (args_tuple_getitem _ _)))
 show wpAny _ _ (Builtin.Tuple.tupleItemsOf (.ref t)>>=_) _ _ s;refine Yb (tupleItemsOf_ ht ?_);refine Yb (Ya3 hTs ?_);rw[if_pos (by decide)];refine Yb (sliceApplied_gen hs pl pu ?_);have hno:¬((((sIx items.size 0 lo:Nat):Int)==0&&(1:Int)==1&&(sIx items.size items.size hi-sIx items.size 0 lo)==items.size)=true):=by
  intro q;rw[YU,YU]at q;have q1:((sIx items.size 0 lo:Nat):Int)=0:=eq_of_beq q.1.1;have q2:sIx items.size items.size hi-sIx items.size 0 lo=items.size:=eq_of_beq q.2;exact hw ⟨by lia,by lia⟩
 show wpAny _ _ (if(((sIx items.size 0 lo:Nat):Int)==0&&(1:Int)==1&&(sIx items.size items.size hi-sIx items.size 0 lo)==items.size)=true then _ else _) _ _ s;rw[if_neg hno,ZkQ];first
  | exact Yb (m:=Builtin.Tuple.tupleExact _) (YO (Yd ⟨_,rfl,Yd h⟩) htake)
  | exact Yb (m:=Builtin.Tuple.tupleExact _) (YO (Yb (Yd (Yd ⟨_,rfl,Yd h⟩))) htake)
  | exact Yb (Yb (m:=Builtin.Tuple.tupleExact _) (YO (Yd (Yd ⟨_,rfl,Yd h⟩)) htake))
  | exact Yb (Yb (m:=Builtin.Tuple.tupleExact _) (YO (Yd ⟨_,rfl,Yd h⟩) htake))
end
end HT
namespace L2
open PySem PySem.Spec PyProof.Rows
abbrev TO:=St->Hp->(Option Int->Hp->Prop)->Prop
def PO(X:Cx)(e:Option Expr)(t:TO):Prop :=
 ∀(pins:List (Addr×Obj))(s:Shared)(σ:St)(H:Hp)(Q:Option Int->Hp->Prop),Inv X pins σ H s->t σ H Q ->
  wpAny (model X.prog X.w) X.A (evalPart e X.env) (fun u s'=>∃o H',Inv X pins σ H' s'/\IsPart u o/\Q o H') X.xe s
def ZjW:TO:=fun _ H Q=>Q none H
def Zq5(t:TE):TO:=fun σ H Q=>t σ H fun x H1=>∃i,x=.int i/\Q (some i) H1
section
variable{lo hi:Option Expr}
def ZcS:PO X none ZjW:=by
 intro pins s σ H Q I h;rw[evalPart_none];exact Yd ⟨none,H,I,.none,h⟩
def ZbQ(h:PE X e te):PO X (some e) (Zq5 te):=by
 intro pins s σ H Q I hw;rw[evalPart_some];refine thn (h pins s σ H _ I hw) fun u s1 h_q=>?_;obtain⟨x,H1,I1,r1,q1⟩:=h_q;obtain⟨i,rfl,q⟩:=q1;obtain⟨t,rfl⟩:=r1;exact⟨some i,H1,I1,.int i t,q⟩
def SlR(X:Cx)(r:V->Option Int->Option Int->Hp->VK->Prop):Prop :=
 ∀(pins:List (Addr×Obj))(s:Shared)(σ:St)(H:Hp)(x:V)(v vl vu:Value)(lo hi:Option Int)(sl:Addr)(Q:VK),Inv X pins σ H s->Zau x v->s.heap.IsSliceOf sl vl vu .none->IsPart vl lo->IsPart vu hi->r x lo hi H Q ->
  ∃T id,typeLookup (.type T) "__getitem__"=pure (some (.builtin id))/\s.TypeIs v T/\wpAny (model X.prog X.w) X.A (getItem v (.ref sl)) (EP X pins σ Q) X.xe s
def tSl(r:V->Option Int->Option Int->Hp->VK->Prop)(te:TE)(tl th:TO):TE:=fun σ H Q=>te σ H fun x H1=>tl σ H1 fun l H2=>th σ H2 fun u H3=>r x l u H3 Q
def ZbC(hr:SlR X r)(he:PE X e te)(hl:PO X lo tl)(hu:PO X hi th):PE X (.Subscript e (.Slice lo hi none p2) pos) (tSl r te tl th):=by
 intro pins s σ H Q I h;refine Subscript_ (thn (he pins s σ H _ I h) fun v s1 h_q=>?_);obtain⟨x,H1,I1,r1,q1⟩:=h_q;refine wpAny_Slice (thn (hl pins s1 σ H1 _ I1 q1) fun vl s2 ⟨l,H2,I2,pl,q2⟩=>thn (hu pins s2 σ H2 _ I2 q2) fun vu s3 h_q=>?_);obtain⟨u,H3,I3,pu,q3⟩:=h_q;rw[evalPart_none];refine Yd ?_;have I4:Inv X pins σ H3 { s3 with heap:=s3.heap.push { cls:=.type "slice",data:=.fields #[vl,vu,.none] } }:=I3.kept (t':=s3.toks) fun b ob q=>Ye _ q;obtain⟨T,id,hT,ht,hg⟩:=hr pins { s3 with heap:=s3.heap.push { cls:=.type "slice",data:=.fields #[vl,vu,.none] } } σ H3 x v vl vu l u s3.heap.objs.size Q I4 r1 (Heap.IsSliceOf.new ..) pl pu q3;show wpAny (model X.prog X.w) X.A (subscriptTail e (.Slice lo hi none p2) v (.ref s3.heap.objs.size)) (EP X pins σ Q) X.xe { s3 with heap:=s3.heap.push { cls:=.type "slice",data:=.fields #[vl,vu,.none] } };exact tail_any (ops:=[.ref s3.heap.objs.size,v]) ht hT hg (by with_unfolding_all rfl)
def Zg7(xs:List V)(lo hi:Option Int):List V:=(xs.drop (HT.sIx xs.length 0 lo)).take (HT.sIx xs.length xs.length hi-HT.sIx xs.length 0 lo)
def ZcT(xs:List V)(lo hi:Option Int):(Zg7 xs lo hi).length<=xs.length:=by
 unfold Zg7;rw[YL,YaK];lia
def Zwr(K:YFr):V->Option Int->Option Int->Hp->VK->Prop:=fun x lo hi H Q=>∃a xs,x=.ref a/\SqT K H a xs /\
 ¬(HT.sIx xs.length 0 lo=0/\HT.sIx xs.length xs.length hi=xs.length)/\∀p,H p=none->Q (.ref p) (upd H p (.tup (Zg7 xs lo hi)))
def Zqc:SlR X (Zwr X.K):=by
 intro pins s σ H x v vl vu lo hi sl Q I rx hs pl pu h;obtain⟨a,xs,rfl,hx,hw,q⟩:=h;cases rx;obtain⟨its,r,ht,hz⟩:=I.tuple hx;have hlen:its.toArray.size=xs.length:=by rw[Yr];exact r.length.symm
 refine⟨"tuple",_,Yag.lookup,ht.typeIs,?_⟩;refine HT.getItem_tuple_cut ht hs pl pu (by rw[hlen];exact hw) ?_ (by rw[hlen];exact hz);rw[hlen];exact⟨.ref s.heap.objs.size,_,I.laid (t':=s.toks) (o:=.tup (Zg7 xs lo hi)) (fun b ob q=>Ye _ q) (Yj _) ⟨YB (ZcT xs lo hi) hz,_,(r.drop (HT.sIx xs.length 0 lo)).take (HT.sIx xs.length xs.length hi-HT.sIx xs.length 0 lo),IsTup.new _ _⟩,rfl,q _ (I.hok.fresh (Yj _))⟩
def ZtF(K:YFr):R2:=fun x y H Q=>∃a b xs ys,x=.ref a/\y=.ref b/\SqT K H a xs/\SqT K H b ys/\xs≠[]/\xs.length+ys.length<=sizeLine /\
 (ys=[]->Q (.ref a) H)/\(ys≠[]->∀p,H p=none->Q (.ref p) (upd H p (.tup (xs++ys))))
def Z6.nil_iff(r:Z6 xs us):us=[]↔xs=[]:=by
 cases r with
 | nil=>simp
 | cons _ _=>simp
def ZnH:OpR X (binaryOp .Add) (ZtF X.K):=by
 intro pins s σ H x y v u Q I rx ry h;obtain⟨a,b,xs,ys,rfl,rfl,ha,hb,hx,hz,q1,q2⟩:=h;cases rx;cases ry;obtain⟨its,r1,p1,_⟩:=I.tuple ha;obtain⟨its2,r2,p2,_⟩:=I.tuple hb;refine HT.cat_tup p1 p2 (fun z=>hx (r1.nil_iff.mp z)) (fun z=>⟨.ref a,H,I,rfl,q1 (r2.nil_iff.mp z)⟩) (fun z=>?_) (by rw[<- r1.length,<- r2.length];exact hz);refine⟨.ref s.heap.objs.size,_,I.laid (t':=s.toks) (o:=.tup (xs++ys)) (fun b ob q=>Ye _ q) (Yj _) ?_,rfl,q2 (fun w=>z (r2.nil_iff.mpr w)) _ (I.hok.fresh (Yj _))⟩;exact⟨by rw[Ys];exact hz,_,r1.append r2,IsTup.new _ _⟩
end
def ixN(n:Nat)(i:Int):Option Nat:=if 0<=i then(if i<n then some i.toNat else none)else if -(n:Int)<=i then some (i+n).toNat else none
def atI{α:Type}(xs:List α)(i:Int):Option α:=(ixN xs.length i).bind fun j=>xs[j]?
def Zn4(h:ixN n i=some j):seqIndex? i n=some j/\j<n/\-(n:Int)<=i/\i<n:=by
 unfold ixN at h;by_cases h0:0<=i
 .rw[if_pos h0]at h;by_cases h1:i<n
  .rw[if_pos h1]at h;have e:i.toNat=j:=YE h;exact⟨by rw[seqIndex_of h0 h1,e],by lia,by lia,h1⟩
  .rw[if_neg h1]at h;cases h
 .rw[if_neg h0]at h;by_cases h1:-(n:Int)<=i
  .rw[if_pos h1]at h;have e:(i+n).toNat=j:=YE h;exact⟨by rw[seqIndex_neg (by lia) h1,e],by lia,h1,by lia⟩
  .rw[if_neg h1]at h;cases h
def ZfE(h:atI xs i=some v):∃j,seqIndex? i xs.length=some j/\xs[j]? = some v/\j<xs.length/\-(xs.length:Int)<=i/\i<xs.length:=by
 unfold atI at h;cases e:ixN xs.length i with
 | none=>rw[e]at h;cases h
 | some j =>
  rw[e]at h;obtain⟨h1,h2,h3,h4⟩:=Zn4 e;exact⟨j,h1,h,h2,h3,h4⟩
def Zai{j:Nat}(h:xs[j]? = some v):atI xs (j:Int)=some v:=by
 have hj:j<xs.length:=(Yh.mp h).1;have e:ixN xs.length (j:Int)=some j:=by
  unfold ixN;rw[if_pos (by lia),if_pos (by lia)];simp
 unfold atI;rw[e];exact h
def Zoy(b:Expr):Prop:=∀o i,subscripted b false o i=operate [o,i] (getItem o i)
def IxR(X:Cx)(r:R2):Prop :=
 ∀(value slice:Expr)(pins:List (Addr×Obj))(s:Shared)(σ:St)(H:Hp)(x y:V)(v u:Value)(Q:VK),Inv X pins σ H s->Zau x v->Zau y u->r x y H Q ->
  subscripted slice false v u=operate [v,u] (getItem v u)->wpAny (model X.prog X.w) X.A (subscriptTail value slice v u) (EP X pins σ Q) X.xe s
def MtR(X:Cx)(id:String)(r:V->List V->Hp->VK->Prop):Prop :=
 ∀(pins:List (Addr×Obj))(s:Shared)(σ:St)(H:Hp)(x:V)(xs:List V)(v:Value)(us:List Value)(Q:VK),Inv X pins σ H s->Zau x v->Z6 xs us->r x xs H Q ->
  wpAny (model X.prog X.w) X.A (call (.builtin id) (v::us)) (EP X pins σ Q) X.xe s
section
def IxR.or(h:IxR X r)(h':IxR X r'):IxR X (fun x y H Q=>r x y H Q\/r' x y H Q):=by
 intro value slice pins s σ H x y v u Q I rx ry q hs;rcases q with q|q
 .exact h value slice pins s σ H x y v u Q I rx ry q hs
 .exact h' value slice pins s σ H x y v u Q I rx ry q hs
def ZI(hr:IxR X r)(ha:PE X a ta)(hb:PE X b tb)(hs:Zoy b):PE X (.Subscript a b pos) (tOp r ta tb):=by
 intro pins s σ H Q I h;exact Subscript_ (Zs3 ha hb I h fun v u s2 x y H2 I2 rx ry q=>hr a b pins s2 σ H2 x y v u Q I2 rx ry q (hs _ _))
def ZvE(K:YFr):R2:=fun x y H Q=>∃p xs i v,x=.ref p/\y=.int i/\SqL K H p xs/\atI xs i=some v/\Q v H
def ZvX(K:YFr):R2:=fun x y H Q=>∃p xs i v,x=.ref p/\y=.int i/\SqT K H p xs/\atI xs i=some v/\Q v H
def Zu4:R2:=fun x y H Q=>∃z i c,x=.str z/\y=.int i/\z.length<=sizeLine/\atI z.cps.toList i=some c/\Q (.str ⟨#[c]⟩) H
def ZmV:IxR X (ZvE X.K):=by
 intro value slice pins s σ H x y v u Q I rx ry h hs;obtain⟨p,xs,i,z,rfl,rfl,hq,he,q⟩:=h;cases rx;obtain⟨t,rfl⟩:=ry;obtain⟨its,r,pl,hz⟩:=I.list hq;obtain⟨j,h1,h2,h3,h4,h5⟩:=ZfE he;obtain⟨w,ew,rw'⟩:=r.get h2;have hl:=r.length;have hn:=ZdO;have fin:EP X pins σ Q w s:=⟨z,H,I,rw',q⟩;by_cases h0:0<=i
 .have hj:i.toNat=j:=by
   rw[seqIndex_of h0 h5]at h1;exact YE h1
  exact item_listR pl.isList h0 (by lia) (by rw[hj];simpa using ew) fin hs
 .have hj:(i+(its.toArray.size:Int)).toNat=j:=by
   rw[seqIndex_neg (by lia) h4]at h1;rw[Yr,<- hl];exact YE h1
  exact YbQ (x:=w) pl.isList.typeIs Ycg.lookup
   (wpAny_getItem_list_neg (Q:=fun r s'=>r=w/\EP X pins σ Q r s') pl.isList (by lia) (by rw[Yr]<;>lia) (by lia) (by rw[hj];simpa using ew) ⟨rfl,fin⟩) hs
def Zsq:IxR X (ZvX X.K):=by
 intro value slice pins s σ H x y v u Q I rx ry h hs;obtain⟨p,xs,i,z,rfl,rfl,hq,he,q⟩:=h;cases rx;obtain⟨t,rfl⟩:=ry;obtain⟨its,r,pl,hz⟩:=I.tuple hq;obtain⟨j,h1,h2,h3,h4,h5⟩:=ZfE he;obtain⟨w,ew,rw'⟩:=r.get h2;have hl:=r.length;have hn:=ZdO;have fin:EP X pins σ Q w s:=⟨z,H,I,rw',q⟩;exact YbQ (x:=w) pl.typeIs slot_tuple_getitem.lookup
  (getItem_tuple (j:=j) (Q:=fun r s'=>r=w/\EP X pins σ Q r s') pl (by lia) (by lia) (by rw[Yr,<- hl];exact h1) (by simpa using ew) ⟨rfl,fin⟩) hs
def Zjf:IxR X Zu4:=by
 intro value slice pins s σ H x y v u Q I rx ry h hs;obtain⟨z,i,c,rfl,rfl,hz,he,q⟩:=h;obtain⟨t,rfl⟩:=rx;obtain⟨t',rfl⟩:=ry;obtain⟨j,h1,h2,h3,h4,h5⟩:=ZfE he;have hl:z.cps.toList.length=z.length:=by simp[Str.length]
 rw[hl]at h1 h4 h5;have hn:=ZdO;exact tail_any (typeIs_str s z t) slot_str_getitem.lookup (getItem_str (c:=c) (by
  have e1:decide (i < -(2^63:Int))=false:=Yw (by lia);have e2:decide (i ≥ 2^63)=false:=Yw (by lia);rw[e1,e2,Bool.or_false]) (by rw[h1];simpa using h2) ⟨.str ⟨#[c]⟩,H,I.tok _,⟨_,rfl⟩,q⟩) hs
def rIx(K:YFr):R2:=fun x y H Q=>ZvE K x y H Q\/ZvX K x y H Q\/Zu4 x y H Q
def Zqf:IxR X (rIx X.K):=ZmV.or (Zsq.or Zjf)
def ZeQ(lo hi:Option Int)(n:Nat):(sliceBounds lo hi none n).1=((HT.sIx n 0 lo:Nat):Int)/\(sliceBounds lo hi none n).2.1=((HT.sIx n n hi:Nat):Int)/\(sliceBounds lo hi none n).2.2=1:=by
 refine⟨?_,?_,rfl⟩
 .cases lo with
  | none=>simp[sliceBounds,HT.sIx]
  | some i =>
   simp only[sliceBounds,HT.sIx,Option.getD_none,show(1:Int)>0 by decide,if_true];by_cases h:i<0
   .simp only[h,if_true]<;>lia
   .simp only[h,Yal]<;>lia
 .cases hi with
  | none=>simp[sliceBounds,HT.sIx]
  | some i =>
   simp only[sliceBounds,HT.sIx,Option.getD_none,show(1:Int)>0 by decide,if_true];by_cases h:i<0
   .simp only[h,if_true]<;>lia
   .simp only[h,Yal]<;>lia
def Zev(its:List Value)(lo hi:Option Int):slicePick its.toArray lo hi none=((its.drop (HT.sIx its.length 0 lo)).take (HT.sIx its.length its.length hi-HT.sIx its.length 0 lo)).toArray:=by
 obtain⟨h1,h2,h3⟩:=ZeQ lo hi its.toArray.size;unfold slicePick;rw[h1,h2,h3];simp only[sliceRange_one,pick_run,Yr]<;>rfl
def Zv0(K:YFr):V->Option Int->Option Int->Hp->VK->Prop:=fun x lo hi H Q=>∃a xs,x=.ref a/\SqL K H a xs/\∀p,H p=none->Q (.ref p) (upd H p (.lst (Zg7 xs lo hi)))
def ZmS:SlR X (Zv0 X.K):=by
 intro pins s σ H x v vl vu lo hi sl Q I rx hs pl pu h;obtain⟨a,xs,rfl,hx,q⟩:=h;cases rx;obtain⟨its,r,ht,hz⟩:=I.list hx;have hlen:=r.length;refine⟨"list",_,Ycg.lookup,ht.isList.typeIs,?_⟩;refine wpAny_getItem_list_slice ht.isList hs pl pu .none (by simp) ?_ (by rw[Yr]<;>lia);rw[Zev,<- hlen];exact⟨.ref s.heap.objs.size,_,I.laid (t':=s.toks) (o:=.lst (Zg7 xs lo hi)) (fun b ob q=>Ye _ q) (Yj _) ⟨YB (ZcT xs lo hi) hz,_,0,(r.drop (HT.sIx xs.length 0 lo)).take (HT.sIx xs.length xs.length hi-HT.sIx xs.length 0 lo),Yl _ rfl⟩,rfl,q _ (I.hok.fresh (Yj _))⟩
def Zbh:V->Bool
 | .non=>true
 | .bl _=>true
 | .int _=>true
 | .str _=>true
 | _=>false
def eqV:V->V->Bool
 | .non,.non=>true
 | .bl a,.bl b=>a==b
 | .bl a,.int b=>(if a then 1 else 0)==b
 | .int a,.bl b=>a==(if b then 1 else 0)
 | .int a,.int b=>a==b
 | .str a,.str b=>a==b
 | _,_=>false
def Zpw(ry:Zau y u)(rx:Zau x v)(fy:Zbh y=true)(fx:Zbh x=true):SeqAt.EqAt A s u v (eqV y x):=by
 cases y with
 | non =>
  cases ry;cases x with
  | non=>cases rx;exact SeqAt.EqAt.same _
  | bl b=>cases rx;exact SeqAt.EqAt.none_bool b
  | int b=>obtain⟨t,rfl⟩:=rx;exact SeqAt.EqAt.none_int b t
  | str b=>obtain⟨t,rfl⟩:=rx;exact SeqAt.EqAt.none_str b t
  | _=>exact absurd (show false=true from fx) Yu
 | bl a =>
  cases ry;cases x with
  | non=>cases rx;exact SeqAt.EqAt.bool_none a
  | bl b=>cases rx;exact SeqAt.EqAt.bool_bool a b
  | int b=>obtain⟨t,rfl⟩:=rx;exact SeqAt.EqAt.bool_int a b t
  | str b=>obtain⟨t,rfl⟩:=rx;exact SeqAt.EqAt.bool_str a b t
  | _=>exact absurd (show false=true from fx) Yu
 | int a =>
  obtain⟨t',rfl⟩:=ry;cases x with
  | non=>cases rx;exact SeqAt.EqAt.int_none a t'
  | bl b=>cases rx;exact SeqAt.EqAt.int_bool a t' b
  | int b=>obtain⟨t,rfl⟩:=rx;exact SeqAt.EqAt.int_int a t' b t
  | str b=>obtain⟨t,rfl⟩:=rx;exact Yb6 a t' b t
  | _=>exact absurd (show false=true from fx) Yu
 | str a =>
  obtain⟨t',rfl⟩:=ry;cases x with
  | non=>cases rx;exact SeqAt.EqAt.str_none a t'
  | bl b=>cases rx;exact SeqAt.EqAt.str_bool a t' b
  | int b=>obtain⟨t,rfl⟩:=rx;exact Yb7 a t' b t
  | str b=>obtain⟨t,rfl⟩:=rx;exact SeqAt.EqAt.str_str a t' b t
  | _=>exact absurd (show false=true from fx) Yu
 | _=>exact absurd (show false=true from fy) Yu
def eqU(x:V)(u:Value):Bool:=match u with
 | .none=>eqV .non x
 | .bool b=>eqV (.bl b) x
 | .int i _=>eqV (.int i) x
 | .str z _=>eqV (.str z) x
 | _=>false
def Zmp(r:Zau y u)(f:Zbh y=true):eqU x u=eqV y x:=by
 cases y with
 | non=>cases r;rfl
 | bl b=>cases r;rfl
 | int i=>obtain⟨t,rfl⟩:=r;rfl
 | str z=>obtain⟨t,rfl⟩:=r;rfl
 | _=>exact absurd (show false=true from f) Yu
def ZcW:∀ {xs:List V} {us:List Value},Z6 xs us->xs.all Zbh=true->us.any (eqU x)=xs.any fun y=>eqV y x
 | _,_,.nil,_=>rfl
 | y :: xs,u::us,.cons r t,f=>by
  rw[List.all_cons,YU]at f
  rw[List.any_cons,List.any_cons,Zmp r f.1,ZcW t f.2]
theorem Zcd(rx:Zau x v)(fx:Zbh x=true):∀ {xs:List V} {us:List Value},Z6 xs us->xs.all Zbh=true->∀u∈us,SeqAt.EqAt A s u v (eqU x u)
 | _,_,.nil,_=>fun u hu=>by cases hu
 | y :: xs,u::us,.cons r t,f=>fun u' hu=>by
  rw[List.all_cons,YU]at f
  rcases Yn.mp hu with rfl|hu
  .rw[Zmp r f.1];exact Zpw r rx f.1 fx
  .exact Zcd rx fx t f.2 u' hu
def inV(x:V)(xs:List V):Bool:=xs.any fun y=>eqV y x
def rIn(K:YFr)(neg:Bool):R2:=fun x y H Q=>∃p xs,y=.ref p/\(SqL K H p xs\/SqT K H p xs)/\Zbh x=true/\xs.all Zbh=true/\Q (.bl (if neg then !inV x xs else inV x xs)) H
def ZjK:OpR X (compareOp .In) (rIn X.K false):=by
 intro pins s σ H x y v u Q I rx ry h;obtain⟨p,xs,rfl,hq,fx,fs,q⟩:=h;cases ry;rcases hq with hq|hq
 .obtain⟨its,r,pl,hz⟩:=I.list hq;refine SeqAt.in_listAt (eqU x) pl.isList (fun w hw=>Zcd rx fx r fs w (by simpa using hw)) ⟨.bl _,H,I,rfl,?_⟩;rw[show its.toArray.any (eqU x)=its.any (eqU x) by simp,ZcW r fs];exact q
 .obtain⟨its,r,pl,hz⟩:=I.tuple hq;refine SeqAt.in_tupleAt (eqU x) pl (fun w hw=>Zcd rx fx r fs w (by simpa using hw)) ⟨.bl _,H,I,rfl,?_⟩;rw[show its.toArray.any (eqU x)=its.any (eqU x) by simp,ZcW r fs];exact q
def ZeO:OpR X (compareOp .NotIn) (rIn X.K true):=by
 intro pins s σ H x y v u Q I rx ry h;obtain⟨p,xs,rfl,hq,fx,fs,q⟩:=h;cases ry;rcases hq with hq|hq
 .obtain⟨its,r,pl,hz⟩:=I.list hq;refine SeqAt.notIn_listAt (eqU x) pl.isList (fun w hw=>Zcd rx fx r fs w (by simpa using hw)) ⟨.bl _,H,I,rfl,?_⟩;rw[show its.toArray.any (eqU x)=its.any (eqU x) by simp,ZcW r fs];exact q
 .obtain⟨its,r,pl,hz⟩:=I.tuple hq;refine SeqAt.notIn_tupleAt (eqU x) pl (fun w hw=>Zcd rx fx r fs w (by simpa using hw)) ⟨.bl _,H,I,rfl,?_⟩;rw[show its.toArray.any (eqU x)=its.any (eqU x) by simp,ZcW r fs];exact q
def ZeX:OpR X (compareOp .NotIn) (fun x y H Q=>∃i j,x=.str i/\y=.str j/\Q (.bl (!(!(Builtin.Str.occurrences j i 0 j.length 1).isEmpty))) H):=by
 intro pins s σ H x y v u Q I rx ry h;obtain⟨i,j,rfl,rfl,q⟩:=h;obtain⟨t,rfl⟩:=rx;obtain⟨t',rfl⟩:=ry;exact notIn_str ⟨.bl _,H,I,rfl,q⟩
def Ze5:Zaj X (.builtin "len") (fun xs H Q=>∃p ys,xs=[.ref p]/\(SqL X.K H p ys\/SqT X.K H p ys)/\Q (.int ys.length) H):=by
 intro pins s σ H xs us Q I r h;obtain⟨p,ys,rfl,hq,q⟩:=h;obtain⟨u,rfl,rx⟩:=ZmW r;cases rx;have hn:=ZdO;rcases hq with hq|hq
 .obtain⟨its,r',pl,hz⟩:=I.list hq;have hlen:=r'.length;exact Calls.call_len_list pl.isList (by simp only[Yr]<;>lia) ⟨.int ys.length,H,I.tok _,⟨s.toks+1,by rw[Yr,hlen]⟩,q⟩
 .obtain⟨its,r',pl,hz⟩:=I.tuple hq;have hlen:=r'.length;exact len_tuple pl (by simp only[Yr]<;>lia) ⟨.int ys.length,H,I.tok _,⟨s.toks+1,by rw[Yr,hlen]⟩,q⟩
def Zfi:Zaj X (.builtin "len") (fun xs H Q=>∃z,xs=[.str z]/\z.length<=sizeLine/\Q (.int z.length) H):=by
 intro pins s σ H xs us Q I r h;obtain⟨z,rfl,hz,q⟩:=h;obtain⟨u,rfl,t,rfl⟩:=ZmW r;have hn:=ZdO;exact len_str (by lia) ⟨.int z.length,H,I.tok _,⟨_,rfl⟩,q⟩
def Zaj.or(h:Zaj X f r)(h':Zaj X f r'):Zaj X f (fun xs H Q=>r xs H Q\/r' xs H Q):=by
 intro pins s σ H xs us Q I rs q;rcases q with q|q
 .exact h pins s σ H xs us Q I rs q
 .exact h' pins s σ H xs us Q I rs q
def ZeZ:Zaj X (.type "list") (fun xs H Q=>∃p ys,xs=[.ref p]/\(SqL X.K H p ys\/SqT X.K H p ys)/\∀l,H l=none->Q (.ref l) (upd H l (.lst ys))):=by
 intro pins s σ H xs us Q I r h;obtain⟨p,ys,rfl,hq,q⟩:=h;obtain⟨u,rfl,rx⟩:=ZmW r;cases rx;have fin:∀(its:List Value),Z6 ys its->ys.length<=sizeLine->∀(h':Heap)(c':Nat),(∀b o',s.heap.get? b=some o'->h'.get? b=some o') ->
   h'.get? s.heap.objs.size=some { cls:=.type "list",dict:=none,data:=.seq its.toArray c',slots:=#[] }->EP X pins σ Q (.ref s.heap.objs.size) { s with heap:=h' }:=fun its r' hz h' c' kp e =>
  ⟨.ref s.heap.objs.size,_,I.laid (t':=s.toks) kp (Yj _) (show ZaO X.prog X.w _ h' _ (.lst ys)from⟨hz,its,c',r',e⟩),rfl,q _ (I.hok.fresh (Yj _))⟩
 rcases hq with hq|hq
 .obtain⟨its,r',pl,hz⟩:=I.list hq;have hlen:=r'.length;obtain⟨o,ho,hc,n,hd⟩:=pl.isList;exact call_list_seq p (.inl rfl) ho hc hd (fun h' c' kp e=>fin its r' hz h' c' kp e) (by simp only[Yr]<;>lia)
 .obtain⟨its,r',pl,hz⟩:=I.tuple hq;have hlen:=r'.length;obtain⟨o,ho,hc,n,hd⟩:=pl;exact call_list_seq p (.inr rfl) ho hc hd (fun h' c' kp e=>fin its r' hz h' c' kp e) (by simp only[Yr]<;>lia)
def tyV(K:YFr)(T:String)(x:V)(H:Hp):Prop:=match x with
 | .str _=>T="str"
 | .int _=>T="int"
 | .ref p=>(T="list"/\∃xs,SqL K H p xs)\/(T="tuple"/\∃o,K.lookup p=some o/\o.cls=.type "tuple"/\o.dict=none) \/
   (T="dict"/\((∃kvs,H p=some (.dK kvs))\/∃kvs,H p=some (.dT kvs)))\/(T="set"/\∃S n,H p=some (.set S n))
 | _=>False
def Zmf(I:Inv X pins σ H s)(r:Zau x v)(ty:tyV X.K T x H):
  s.TypeIs v T/\∀a,v=.ref a->∃ob,s.heap.get? a=some ob/\ob.dict=none:=by
 cases x with
 | str z =>
  obtain⟨t,rfl⟩:=r;cases(show T="str" from ty);exact⟨typeIs_str s z t,fun _ e=>nomatch e⟩
 | int i =>
  obtain⟨t,rfl⟩:=r;cases(show T="int" from ty);exact⟨typeIs_int s i t,fun _ e=>nomatch e⟩
 | ref p =>
  cases r;rcases ty with⟨rfl,xs,hq⟩|⟨rfl,o,hk,hc,hd⟩|⟨rfl,hk⟩|⟨rfl,S,n,hk⟩
  .obtain⟨its,_,pl,_⟩:=I.list hq;refine⟨pl.isList.typeIs,fun a e=>?_⟩;cases e;obtain⟨o,n,e,c,hd,_⟩:=pl;exact⟨o,e,hd⟩
  .refine⟨⟨o,I.kIn p o hk,hc⟩,fun a e=>?_⟩;cases e;exact⟨o,I.kIn _ o hk,hd⟩
  .have z:∃o,s.heap.get? p=some o/\o.ExactDict:=by
    rcases hk with⟨kvs,hk⟩|⟨kvs,hk⟩
    .obtain⟨_,_,_,_,o,_,_,e,ex,_⟩:=I.hok p _ hk;exact⟨o,e,ex⟩
    .obtain⟨_,_,_,_,o,_,_,e,ex,_⟩:=I.hok p _ hk;exact⟨o,e,ex⟩
   obtain⟨o,e,ex⟩:=z;refine⟨⟨o,e,ex.1⟩,fun a e2=>?_⟩;cases e2;exact⟨o,e,ex.2.1⟩
  .obtain⟨o,_,_,_,e,ex,_⟩:=I.hok p _ hk;refine⟨⟨o,e,ex.1⟩,fun a e2=>?_⟩;cases e2;exact⟨o,e,ex.2.1⟩
 | _=>exact False.elim ty
def Zvx(K:YFr)(T:String)(r:V->List V->Hp->VK->Prop)(to:TE):TE:=fun σ H Q=>to σ H fun x H1=>tyV K T x H1/\r x [] H1 Q
def tBM(K:YFr)(T:String)(r:V->List V->Hp->VK->Prop)(to:TE)(t:TA):TE:=fun σ H Q=>to σ H fun x H1=>tyV K T x H1/\t σ H1 fun xs H2=>r x xs H2 Q
variable{T id:String}
def Zdz(pa:PlainAttrs T)(slot:Slot T name id)(hty:typeOf (.builtin id)=pure (.type "method_descriptor"))(hm:MtR X id r)(ho:PE X o to)(hbase:attributeBase o name X.env (eval o X.env)=eval o X.env:=by rfl)(hline:(apos.endLine==cpos.line)=true:=by rfl):PE X (.Call (.Attribute o name apos) [] [] cpos) (Zvx X.K T r to):=by
 intro pins s σ H Q I h;refine wpAny_Call_method0_late hbase hline (thn (ho pins s σ H _ I h) fun v s1 h_q=>?_);obtain⟨x,H1,I1,r1,ty,q1⟩:=h_q;obtain⟨h1,h2⟩:=Zmf I1 r1 ty;exact⟨T,id,pa,slot,hty,h1,h2,Yap rfl (PySem.evalArgs_none (hm pins s1 σ H1 x [] v [] Q I1 r1 .nil q1))⟩
def ZbK(pa:PlainAttrs T)(slot:Slot T name id)(hty:typeOf (.builtin id)=pure (.type "method_descriptor"))(hm:MtR X id r)(ho:PE X o to)(ha:PA X (e::es) t)(hbase:attributeBase o name X.env (eval o X.env)=eval o X.env:=by rfl)(hfew:((backTo cpos (starEach (e::es) X.env)).all (fun x=>!x.1) && (backToKw cpos (keywordEach [] X.env)).all (fun x=>x.1.isSome)
   && decide ((e::es).length+([]:List Keyword).length+(if([]:List Keyword).isEmpty then 0 else 1)<30))=true:=by rfl)(hline:(apos.endLine==cpos.line)=true:=by rfl)(hs:starEach (e::es) X.env=(false,eval e X.env)::starEach es X.env:=by rfl)(hplain:(backTo cpos (starEach es X.env)).any (·.1)=false:=by rfl):
  PE X (.Call (.Attribute o name apos) (e::es) [] cpos) (tBM X.K T r to t):=by
 intro pins s σ H Q I h;refine wpAny_Call_method_late hbase hfew hline rfl (thn (ho pins s σ H _ I h) fun v s1 h_q=>?_);obtain⟨x,H1,I1,r1,ty,q1⟩:=h_q;obtain⟨h1,h2⟩:=Zmf I1 r1 ty;refine⟨T,id,pa,slot,hty,h1,h2,?_⟩;have hA:=ha cpos pins s1 σ H1 _ I1 q1;rw[hs]at hA ⊢;refine Yap (by show(false||(backTo cpos (starEach es X.env)).any (·.1))=false;rw[hplain]<;>rfl) (Calls.evalArgs_plain ?_);exact thn hA fun us s2 ⟨vs,H2,I2,r2,q2⟩=>hm pins s2 σ H2 x vs v us Q I2 r1 r2 q2
end
def MtM(X:Cx)(id:String)(r:V->List V->Hp->VK->Prop):Prop :=
 ∀(pins:List (Addr×Obj))(s:Shared)(σ:St)(H:Hp)(x:V)(xs:List V)(v:Value)(us:List Value)(Q:VK),Inv X pins σ H s->Zau x v->Z6 xs us->r x xs H Q ->
  wpAny (model X.prog X.w) X.A (call (.builtin id) (v::us)) (EP X pins σ Q) X.xe s
def Z6.one:∀ {x:V} {us:List Value},Z6 [x] us->∃u,us=[u]/\Zau x u
 | _,_,.cons r .nil=>⟨_,rfl,r⟩
def Z6.two:∀ {x y:V} {us:List Value},Z6 [x,y] us->∃u v,us=[u,v]/\Zau x u/\Zau y v:=by
 intro x y us h;cases h with
 | cons r h=>cases h with|cons q h=>cases h;exact⟨_,_,rfl,r,q⟩
def Z6.zero:∀ {us:List Value},Z6 [] us->us=[]
 | _,.nil=>rfl
def Z6.dropLast(h:Z6 xs us):Z6 xs.dropLast us.dropLast:=by
 induction h with
 | nil=>exact .nil
 | cons r t ih =>
  cases t with
  | nil=>exact .nil
  | cons q t'=>exact .cons r ih
theorem Z6.rep(h:Z6 xs us):∀k:Nat,Z6 (List.replicate k xs).flatten (List.replicate k us).flatten
 | 0=>.nil
 | k+1=>by
  rw[List.replicate_succ,List.replicate_succ,List.flatten_cons,List.flatten_cons]
  exact Z6.append h (Z6.rep h k)
def Zho{α:Type}(l:List α):l.eraseIdx (l.length-1)=l.dropLast:=by
 induction l with
 | nil=>rfl
 | cons a r ih =>
  cases r with
  | nil=>rfl
  | cons b r =>
   have e:(a::b::r).length-1=((b::r).length-1)+1:=by
    have h1:(a::b::r).length=r.length+2:=rfl;have h2:(b::r).length=r.length+1:=rfl;lia
   rw[e,List.eraseIdx_cons_succ,ih];all_goals rfl
theorem Zfb(its:List Value):∀(k:Nat)(acc:List Value),
  List.foldl (fun x1 x2=>x1++x2) acc.toArray (List.replicate k its.toArray)=(acc++(List.replicate k its).flatten).toArray
 | 0,acc=>by simp
 | k+1,acc=>by
  have e:acc.toArray++its.toArray=(acc++its).toArray:=by simp
  have e2:(acc++its)++(List.replicate k its).flatten=acc++(List.replicate (k+1) its).flatten:=by
   rw[List.replicate_succ,List.flatten_cons,Ya1]
  rw[<- e2,<- Zfb its k (acc++its),<- e,List.replicate_succ,List.foldl_cons]
section
def Inv.lset{its its':List Value}(I:Inv X pins σ H s)(hH:H l=some (.lst xs))(e:s.heap.get? l=some { cls:=.type "list",data:=.seq its.toArray n })(hf:f its.toArray=its'.toArray)(hv:Z6 ys its')(hz:ys.length<=sizeLine):
  Inv X pins σ (upd H l (.lst ys)) { s with heap:=s.heap.update l (Obj.mapSeq f),toks:=t' }:=by
 have q:=PySem.IsL.update e f;rw[hf]at q;refine I.write (x:=l) (e:=l) (by rw[hH];exact trivial) (.inl rfl) (fun b' u hb hu=>(YF s.heap (Obj.mapSeq f) (Ne.symm hb)).trans hu) ⟨_,q⟩ ?_;exact⟨hz,its',_,hv,q⟩
def Inv.lnew(I:Inv X pins σ H s)(hv:Z6 ys its)(hz:ys.length<=sizeLine):
  Inv X pins σ (upd H s.heap.objs.size (.lst ys)) { s with heap:=s.heap.push { cls:=.type "list",data:=.seq its.toArray },toks:=t' } :=
 I.laid (fun _ _ q=>Ye _ q) (Yj _) ⟨hz,its,0,hv,Yl _ rfl⟩
def Inv.fresh(I:Inv X pins σ H s):H s.heap.objs.size=none:=I.hok.fresh (Yj _)
def Inv.lstM(I:Inv X pins σ H s)(hH:H l=some (.lst xs)):xs.length<=sizeLine/\∃(its:List Value)(n:Nat),Z6 xs its/\xs.length=its.length/\s.heap.get? l=some { cls:=.type "list",data:=.seq its.toArray n }:=by
 obtain⟨z,its,n,r,e⟩:=I.hok l _ hH;exact⟨z,its,n,r,r.length,e⟩
def Zei(h:n<=sizeLine):Builtin.List.listTooLong n=false:=by
 unfold Builtin.List.listTooLong;exact Yw (by lia)
end
section
def ZiT:V->List V->Hp->VK->Prop:=fun x vs H Q=>∃l xs y,x=.ref l/\vs=[y]/\H l=some (.lst xs)/\xs.length<sizeLine/\Q .non (upd H l (.lst (xs++[y])))
def Zaa:MtM X "list.append" ZiT:=by
 intro pins s σ H x vs v us Q I rx rv h;obtain⟨l,xs,y,rfl,rfl,hH,hz,q⟩:=h;cases rx;obtain⟨u,rfl,ru⟩:=rv.one;obtain⟨z,its,n,r,hl,e⟩:=I.lstM hH;refine Ybh F.slot_list_append ⟨_,e,rfl⟩ F.entry_list_append (F.args_list_append_2 _ _) (PySem.list_append l its.toArray n u (by rw[Yr];lia)) ⟨e,?_⟩;refine⟨.non,_,I.lset (its':=its++[u]) hH e (by simp) (r.append (.cons ru .nil)) ?_,rfl,q⟩;rw[Ys,List.length_singleton];lia
def ZfU:V->List V->Hp->VK->Prop:=fun x vs H Q=>∃l b xs zs,x=.ref l/\vs=[.ref b]/\H l=some (.lst xs)/\H b=some (.lst zs)/\xs.length+zs.length<=sizeLine/\Q .non (upd H l (.lst (xs++zs)))
def Zja:MtM X "list.extend" ZfU:=by
 intro pins s σ H x vs v us Q I rx rv h;obtain⟨l,b,xs,zs,rfl,rfl,hH,hB,hz,q⟩:=h;cases rx;obtain⟨u,rfl,ru⟩:=rv.one;cases ru;obtain⟨z,its,n,r,hl,e⟩:=I.lstM hH;obtain⟨z2,its2,n2,r2,hl2,e2⟩:=I.lstM hB;have hsz:its.toArray.size+its2.toArray.size<=sizeLine:=by rw[Yr,Yr];lia
 have hlong:¬(!its.toArray.isEmpty&&Builtin.List.listTooLong (its.toArray.size+its2.toArray.size))=true:=by
  rw[Zei hsz,YbT];exact Yu
 refine Ybh Ycb ⟨_,e,rfl⟩ Yb2 (YbY _ _)
  (AutoSeq1.list_extend_list_list_0 l its.toArray n b its2.toArray n2 hlong (by rw[Yr];lia) (by lia)) ⟨e,e2,?_⟩
 refine⟨.non,_,I.lset (its':=its++its2) hH e (by simp) (r.append r2) ?_,rfl,q⟩;rw[Ys];lia
def ZvN:V->List V->Hp->VK->Prop:=fun x vs H Q=>∃l xs y,x=.ref l/\vs=[]/\H l=some (.lst xs)/\xs[xs.length-1]? = some y/\Q y (upd H l (.lst xs.dropLast))
def ZdM:MtM X "list.pop" ZvN:=by
 intro pins s σ H x vs v us Q I rx rv h;obtain⟨l,xs,y,rfl,rfl,hH,hy,q⟩:=h;cases rx;have hus:=rv.zero;subst hus;obtain⟨z,its,n,r,hl,e⟩:=I.lstM hH;obtain⟨u,hu,ru⟩:=r.get hy;have hy':its.toArray[its.toArray.size-1]? = some u:=by
  show its.toArray[its.length-1]? = some u;rw[<- Yas,<- hl];exact hu
 refine Ybh F.slot_list_pop ⟨_,e,rfl⟩ F.entry_list_pop (F.args_list_pop_1 _) (MeetsSeq.list_pop_last l its.toArray n u hy' (by rw[Yr];lia)) ⟨e,?_⟩;refine⟨y,_,I.lset (its':=its.dropLast) hH e ?_ r.dropLast ?_,ru,q⟩
 .show its.toArray.eraseIdxIfInBounds (its.toArray.size-1)=its.dropLast.toArray;rw[Yr,List.eraseIdxIfInBounds_toArray,Zho]
 .rw[List.length_dropLast];lia
def ZvF:R2:=fun x y H Q=>∃l k xs,x=.ref l/\y=.int k/\H l=some (.lst xs)/\-(2^63)<=k/\k<2^63/\xs.length*k.toNat<=sizeLine /\
 ∀p,H p=none->Q (.ref p) (upd H p (.lst (List.replicate k.toNat xs).flatten))
def Zng{α:Type}(xs:List α)(k:Nat):(List.replicate k xs).flatten.length=k*xs.length:=by
 induction k with
 | zero=>simp
 | succ k ih=>rw[List.replicate_succ,List.flatten_cons,Ys,ih,Nat.succ_mul,Nat.add_comm]
def ZqW:OpR X (binaryOp .Mult) ZvF:=by
 intro pins s σ H x y v u Q I rx ry h;obtain⟨l,k,xs,rfl,rfl,hH,h1,h2,hz,q⟩:=h;cases rx;obtain⟨t,rfl⟩:=ry;obtain⟨z,its,n,r,hl,e⟩:=I.lstM hH;have hlen:its.toArray.size*k.toNat<=sizeLine:=by rw[Yr,<- hl];exact hz
 have hcap:¬its.toArray.size*k.toNat>(2^63-1) / 8:=by
  have:(sizeLine:Nat)<=(2^63-1) / 8:=by decide
  lia
 have hfit:¬(!Builtin.List.listFitsIndex k)=true:=by
  rw[fitsIndex_both h1 h2];exact Yu
 have hlong:¬Builtin.List.listTooLong (its.toArray.size*k.toNat)=true:=by
  rw[Zei hlen];exact Yu
 have hnew:List.foldl (fun x1 x2=>x1++x2) #[] (List.replicate (if its.toArray.isEmpty=true then 0 else k.toNat) its.toArray)=(List.replicate k.toNat its).flatten.toArray:=by
  have f0:∀m:Nat,List.foldl (fun x1 x2=>x1++x2) #[] (List.replicate m its.toArray)=(List.replicate m its).flatten.toArray:=fun m=>by
   have:=Zfb its m [];rw[List.nil_append]at this;exact this
  rw[f0];cases its with
  | nil=>simp
  | cons a r'=>rw[if_neg (by simp)]
 refine wpAny_binaryOp_repeat_ref (T:="list") (U:="int") (by decide) ⟨_,e,rfl⟩ (fun s'=>typeIs_int s' k t) noFill_list_mul F.fills_int_mul F.slot_int_rmul repeat_list F.slot_int_index.lookup
  (Ybh F.slot_int_rmul (typeIs_int s k t) F.entry_int_rmul (F.args_int_rmul_2 _ _) (int___rmul___int_list k t l its.toArray n)
   ⟨e,rfl,⟨_,e,rfl⟩,Ybh F.slot_list_mul ⟨_,e,rfl⟩ F.entry_list_mul (F.args_list_mul_2 _ _) (AutoListH.list___mul___list_int_3 l its.toArray n k t hfit hcap hlong) ⟨e,?_⟩⟩)
 rw[hnew];exact⟨.ref _,_,I.lnew (t':=s.toks) (r.rep k.toNat) (by rw[Zng,Nat.mul_comm];exact hz),rfl,q _ I.fresh⟩
end
end L2
namespace Att
open PySem PySem.W PySem.Calls PyProof.Rows
def Zdl:∀(ns:List Int)(vs:List Value),WellAll P h vs (ns.map WData.int)->IntsAre vs ns:=by
 intro ns;induction ns with
 | nil =>
  intro vs w;rw[YaV]at w;cases w;exact .nil
 | cons n ns ih =>
  intro vs w;rw[Yq]at w;cases w with
  | cons a b =>
   cases a;exact .cons _ _ (ih _ b)
def ZiF{l:OpenLaw}(hn:l.most=some n)(hpre:l.row.toRowW.claim.pre args=true)(hwl:WellAll P h vals args):
  ∃a vs ns,vals=[Value.ref a]/\args=[WData.list (ns.map WData.int)]/\h.get? a=some { cls:=.type "list",data:=.seq vs.toArray }/\IntsAre vs ns/\ns.length<=n:=by
 have hsh:WShape.hasAll [] args [.list .int]=true:=(pre_splitW hpre).1;have hc:l.pre.holds [] { args:=args }=true:=(pre_splitW hpre).2;obtain⟨d,r,rfl,h1,h2⟩:=hasAllW_cons hsh;obtain rfl:=hasAllW_nil h2;obtain⟨xs,rfl,h3⟩:=hasW_list h1;obtain⟨ns,rfl⟩:=items_int h3;have hlen:ns.length<=n:=by
  unfold OpenLaw.pre at hc;have h4:(WTm.not (.lt (.lit (.int (n:Int))) (.len (.arg 0)))).holds [] { args:=[.list (ns.map .int)] }=true:=by
   have h4:=(holds_andW hc).1;rw[hn]at h4;exact h4
  have h5:=condW_of h4 (w_not (w_lt w_lit (w_len_list (w_arg rfl))));rw[Yc]at h5;refine YbE fun q=>?_;have q':(n:Int)<((ns.length:Nat):Int):=by lia
  first
   | (rw[YC q']at h5;exact absurd h5 (by decide))
   | (simp at h5;lia)
 cases hwl with
 | cons w1 w2 =>
  cases w2;cases w1 with
  | list ho hall=>exact⟨_,_,ns,rfl,rfl,ho,Zdl ns _ hall,hlen⟩
def Zj8(l:OpenLaw)(args:List WData):l.row.toRowW.claim.post args (.bool true) args=true :=
 postW_of (r:=l.row.toRowW) (X:=(true==true))
  (show WShape.has [] (.bool true) .bool=true by first|rfl|decide|simp[WShape.has,WShape.arms,WShape.armsAll])
  (show(WTm.eq .res (.lit (.bool true))).value [] { args:=args,res:=some (.bool true),after:=args }=some (.bool (true==true))from w_eq_bool (w_res rfl) w_lit) rfl
def attach_call{l:OpenLaw}(hn:l.most=some n)(hdf:d.params.defaults=[])(call:∀ (w:World) (s₀ s₁:Shared) (mg mb:Str->Option Value) (fa:Addr) (o:Obj) (pm cd doc:Value) (a:Addr) (vs:List Value) (ns:List Int),
   Ground q loose [] XP w s₀ mg mb s₁.heap->YP w s₁.heap ->
   s₁.heap.get? fa=some o->o.data=.func (docDef d.name d.params d.body d.scope pm cd doc)->s₁.heap.CodeRec cd d.name->mg d.name=some (.ref fa) ->
   s₁.heap.get? a=some { cls:=.type "list",data:=.seq vs.toArray }->IntsAre vs ns->ns.length<=n->s₁.gens=#[] ->
   codeAny (model l.prog w) callerA (.call (.ref fa) ⟨[.ref a],[]⟩) (fun r s'=>r=.ok (.ret (.bool true))/\OldK s₁.heap s'.heap/\s'.os=s₁.os/\AllBare s'.gens) s₁):
  WalkO q loose XP YP l.row.toRowW d [] (fun f vs=>PySem.call f vs):=by
 intro w s₀ s₁ mg mb G Y fa o pm cd doc dV kV ho hd hcd hD hmg hg args vals as hpre hlay hrd hwl hlo;obtain rfl:dV=.none:=Dflts.none hD hdf;obtain rfl:kV=.none:=Dflts.noKw hD;obtain⟨a,vs,ns,rfl,rfl,hobj,hints,hlen⟩:=ZiF hn hpre hwl;refine enter_call (Yat (call w s₀ s₁ mg mb fa o pm cd doc a vs ns G Y ho (fd_plain hd) hcd hmg hobj hints hlen hg) fun r s' hq=>?_);obtain⟨rfl,h2,h3,h4⟩:=hq;exact⟨.inl ⟨.bool true,.bool true,[],rfl,fun _=>rfl,.bool true,Zj8 l _,fun _=>⟨List.Pairwise.nil,fun _ hm=>(nomatch hm)⟩⟩,h2,h3,h4⟩
end Att
namespace L2
open PySem PySem.Spec PyProof.Rows
def ZeB:∀ {vs:List Value} {ns:List Int},IntsAre vs ns->Z6 (ns.map V.int) vs
 | _,_,.nil=>.nil
 | _,_,.cons n t h=>.cons ⟨t,rfl⟩ (ZeB h)
def ZsC(H:Hp):Prop:=∀b,H b=none\/∃o xs,H b=some (.frz o (.lst xs))
def ZkG{K:YFr}(KX:K.In s₁.heap)(hns:s₁.heap.Ns mainGlobals mg)(hb:s₁.heap.Ns builtinsNs mb)(hbb:∀x:Str,x≠"__name__"->mb x=bootBuiltins x)(hlim:s₁.heap.NoLimit)(hg:s₁.gens=#[])(ha:s₁.heap.get? a=some { cls:=.type "list",data:=.seq vs.toArray })(hi:IntsAre vs ns)(hl:ns.length<=sizeLine)(hr:Zbb k callerA)(F:∀base:Heap,K.In base->base.Ns mainGlobals mg->ZbB P w K mg base CX k fa fd [x] sp)(hbind:∀(s:Shared)(u:Value),BindsTo s fd ⟨[u],[]⟩ [(x,u)])(hsp:∀H:Hp,ZsC H->SqL K H a (ns.map V.int)->sp [.ref a] H (fun v _=>v=.bl true) fun _ _ _=>False)(hCX:∀H e s',CX [] H s₁ (fun _ _ _=>False) e s'->False):
  codeAny (model P w) callerA (.call (.ref fa) ⟨[.ref a],[]⟩) (fun r s'=>r=.ok (.ret (.bool true))/\OldK s₁.heap s'.heap/\s'.os=s₁.os/\AllBare s'.gens) s₁:=by
 have rv:=ZeB hi;have lenV:=hi.length;have core : ∀H:Hp,ZsC H->SqL K H a (ns.map V.int)->HOk P w H s₁.heap->(∀b,H b≠none->b=a)->(H a≠none->K.lookup a=none) ->
   codeAny (model P w) callerA (.call (.ref fa) ⟨[.ref a],[]⟩) (fun r s'=>r=.ok (.ret (.bool true))/\OldK s₁.heap s'.heap/\s'.os=s₁.os/\AllBare s'.gens) s₁:=by
  intro H hO hS hok hA hK;have base_of:∀ {b:Addr} {o:Obj},s₁.heap.get? b=some o->H b=none->(Zlj s₁.heap H).get? b=some o:=fun e n=>ZlF e n;have noA:∀ {b:Addr} {o:Obj} {es:Array DictEntry} {ep:Nat},s₁.heap.get? b=some o->o.data=.dict es ep->H b=none:=fun {b o es ep} e d=>by
   cases q:H b with
   | none=>rfl
   | some u =>
    have e':b=a:=hA b (by rw[q];simp);subst e';rw[ha]at e;cases e;have d':Data.seq vs.toArray _=Data.dict es ep:=d;cases d'
  have nsK:∀ {b:Addr} {m:Str->Option Value},s₁.heap.Ns b m->(Zlj s₁.heap H).Ns b m:=fun {b m} ⟨o,es,ep,e,d,r⟩=>⟨o,es,ep,base_of e (noA e d),d,r⟩;have hKb:K.In (Zlj s₁.heap H):=fun b o e=>base_of (KX b o e) (by
   cases q:H b with
   | none=>rfl
   | some u =>
    have e':b=a:=hA b (by rw[q];simp);subst e';rw[hK (by rw[q];simp)]at e;cases e)
  have hM:Mod K mg (Zlj s₁.heap H):=⟨hKb,nsK hns,⟨mb,nsK hb,hbb⟩,let⟨mc,h1,h2⟩:=hlim;⟨mc,nsK h1,h2⟩⟩;have e0:Zow P w K mg (Zlj s₁.heap H) callerA [] s₁ H:=⟨rfl,hM,fun b o e=>ZnF e,Ycc (Zjm _ _),trivial,fun b hb=>absurd (show b∈([]:List Addr)from hb) (by simp),hok,.of_eq hg⟩;refine Yat ((F _ hKb (nsK hns)).run callerA [] s₁ H ⟨[.ref a],[]⟩ [.ref a] [.ref a] _ _ hr e0 (hbind s₁ (.ref a)) (.cons rfl .nil) (hsp H hO hS)) fun r s' h=>?_;cases r with
  | error e=>exact(hCX H e s' h).elim
  | ok fl =>
   cases fl with
   | next=>exact False.elim h
   | brk=>exact False.elim h
   | cont=>exact False.elim h
   | ret u =>
    obtain⟨v,H',os,bare,un,hok',r',q⟩:=h;have q':v=.bl true:=q;subst q';obtain rfl:u=Value.bool true:=r';refine⟨rfl,OldK.of_keep fun b o e=>?_,os,bare⟩;cases q:H b with
    | none=>exact un.keep b o e q (by intro z;exact absurd (show b∈([]:List Addr)from z) (by simp)) (by simp)
    | some u =>
     rcases hO b with z|⟨ob,xs,z⟩
     .rw[q]at z;cases z
     .have z2:=un.frzs b ob _ z;obtain⟨e1,_⟩:=hok b _ z;obtain⟨e2,_⟩:=hok' b _ z2;rw[e]at e1;cases e1;exact e2
 cases hk:K.lookup a with
 | some o =>
  have e:=KX a o hk;rw[ha]at e;cases e;refine core (fun _=>none) (fun _=>.inl rfl) (.inr ⟨_,vs.toArray,_,hk,rfl,rfl,rfl,by rw[Yr,lenV];exact hl,by simpa using rv⟩) (fun b u z=>by have z':(none:Option HO)=some u:=z;cases z') (fun b z=>absurd rfl z) fun z=>absurd rfl z
 | none =>
  refine core (fun b=>if b=a then some (.frz { cls:=.type "list",data:=.seq vs.toArray } (.lst (ns.map V.int)))else none) (fun b=>?_) (.inl (.inr ⟨{ cls:=.type "list",data:=.seq vs.toArray },if_pos rfl⟩)) (fun b u z=>?_) (fun b z=>?_) fun _=>hk
  .by_cases hb:b=a
   .exact .inr ⟨_,_,if_pos hb⟩
   .exact .inl (if_neg hb)
  .by_cases hb:b=a
   .have z':=(if_pos hb).symm.trans z;cases z';subst hb;exact⟨ha,by rw[Yc];exact hl,vs,_,rv,ha⟩
   .have z':=(if_neg hb).symm.trans z;cases z'
  .by_cases hb:b=a
   .exact hb
   .exact absurd (if_neg hb) z
def walk_of{l:PySem.W.OpenLaw}{K:Params->YFr}{CX:World->CXT}{sp:World->Sp}(hn:l.most=some n)(hn2:n<=sizeLine)(hdf:d.params.defaults=[])(hr:Zbb k callerA)(hY:∀ (w:World) (h:Heap),YP w h->(K w.params).In h)(F : ∀ (w:World) (mg:Str->Option Value) (fa:Addr) (h:Heap),(K w.params).In h->h.Ns mainGlobals mg->mg d.name=some (.ref fa) ->
   ∃fd:FuncData,(∀(s:Shared)(u:Value),BindsTo s fd ⟨[u],[]⟩ [(x,u)]) /\
    ∀base:Heap,(K w.params).In base->base.Ns mainGlobals mg->ZbB l.prog w (K w.params) mg base (CX w) k fa fd [x] (sp w))(hsp:∀(w:World)(H:Hp)(a:Addr)(ns:List Int),ns.length<=n->ZsC H->SqL (K w.params) H a (ns.map V.int)->sp w [.ref a] H (fun v _=>v=.bl true) fun _ _ _=>False)(hCX:∀(w:World)(H:Hp)(s:Shared)(e:Value)(s':Shared),CX w [] H s (fun _ _ _=>False) e s'->False):
  PySem.W.WalkO q loose XP YP l.row.toRowW d [] (fun f vs=>PySem.call f vs):=by
 refine Att.attach_call hn hdf fun w s₀ s₁ mg mb fa o pm cd doc a vs ns G Y ho hd hcd hmg hobj hints hlen hg=>?_;have KX:=hY w _ Y;obtain⟨fd,hb,hF⟩:=F w mg fa _ KX G.T.g hmg;exact ZkG KX G.T.g G.T.b G.T.builtins G.T.nolimit hg hobj hints (YB hlen hn2) hr hF hb (fun H hO hS=>hsp w H a ns hlen hO hS) fun H e s'=>hCX w H s₁ e s'
def Zx(s:Stmt)(j:Nat):Stmt:=match s with
 | .ClassDef _ _ _ body _ _ _ _ _ _ _=>body.getD j (.Pass ⟨0,0,0,0⟩)
 | _=>.Pass ⟨0,0,0,0⟩
def Zee(s:Stmt):Arguments:=match s with
 | .FunctionDef _ a _ _ _ _ _ _ _ _=>a
 | _=>{ posonlyargs:=[],args:=[],vararg:=none,kwonlyargs:=[],kw_defaults:=[],kwarg:=none,defaults:=[] }
def ZaQ(s:Stmt):List Stmt:=match s with
 | .FunctionDef _ _ b _ _ _ _ _ _ _=>b
 | _=>[]
def ZN(s:Stmt):Scope:=match s with
 | .FunctionDef _ _ _ _ _ _ sc _ _ _=>sc
 | _=>{ kind:=.function,names:=[],isGenerator:=false,isCoroutine:=false }
abbrev CX0:CXT:=fun _ _ _ _ _ _=>False
abbrev E0:XK:=fun _ _ _=>False
def Zbs:ZbX CX0 X E0:=fun _ _ _ _ _ _ _ h=>h.elim
structure Fun (K:YFr) (x qual:Str) (st:Stmt) (f:Addr) (fd:FuncData):Prop where
 ex : ∃(oc:Value)(od:Option Addr)(kV doc pm:Value)(an:Option Addr)(cdv ct:Value)(osl:Array (Option Value)),
  fd=PySem.W.fnOf x qual (Zee st) (ZaQ st) (ZN st) .none kV doc pm an cdv ct/\K.lookup f=some ⟨oc,od,.func fd,osl⟩/\PySem.W.codeIn K cdv qual=true
 kp:PySem.W.keepIn K (.ref f)=true
section
variable{K:YFr}
def Fun.ok{st:Stmt}(F:Fun K x qual st f fd)(S:Zao N ps (ZN st))(len:∀ vs H Q E,sp vs H Q E->vs.length=ps.length)(hbody:∀ (cdv:Value) (A:Around) (outer:List Env) (s:Shared) (H:Hp) (vs:List V) (Q:VK) (E:XK),Zbb k (A.deeper (envOfC qual (ZN st) s.heap.objs.size f cdv))->sp vs H Q E ->
   ∃t,PSs (Zds CX0 P w K mg base N qual (ZN st) f cdv A outer s H E).nox (ZaQ st) t/\t { nx:=fun _ H'=>Q .non H',rt:=Q } (start N vs) H):ZbB P w K mg base CX0 (k+1) f fd ps sp:=by
 obtain⟨oc,od,kV,doc,pm,an,cdv,ct,osl,rfl,lk,hcd⟩:=F.ex;refine Zq9 lk hcd S len fun A outer s H vs Q E hr hsp=>?_;obtain⟨t,h,q⟩:=hbody cdv A outer s H vs Q E hr hsp;exact⟨t,h.nox,q⟩
def ZpY{st:Stmt}{kV doc pm cdv ct:Value}(l:K.lookup f=some ⟨oc,od,.func (PySem.W.fnOf x qual (Zee st) (ZaQ st) (ZN st) .none kV doc pm an cdv ct),osl⟩)(c:PySem.W.codeIn K cdv qual=true)(k:PySem.W.keepIn K (.ref f)=true):Fun K x qual st f (PySem.W.fnOf x qual (Zee st) (ZaQ st) (ZN st) .none kV doc pm an cdv ct):=⟨⟨oc,od,kV,doc,pm,an,cdv,ct,osl,rfl,l,c⟩,k⟩
end
section
def pv(i:Nat)(hN:X.N[i]? = some x:=by rfl)(hv:Vis X.env.scope x:=by first|exact Or.inl rfl|exact Or.inr (Or.inl rfl)|exact Or.inr (Or.inr rfl))(hd:(x==("__debug__":Str))=false:=by decide)(hcd:(x==("__classdict__":Str))=false:=by decide):PE X (.Name x pos) (Zjh i):=ZrU hN hv hd hcd
end
def Zat(H H':Hp):Prop:=∀b o,H b=some o->H' b=some o
def Zat.refl(H:Hp):Zat H H:=fun _ _ h=>h
open PySem PySem.W
def ZcX(tb:String->Option Builtin)(p:Program)(w:World)(n₀:Nat)(ann:Option Value):Nat->SharedT->Thread->Option SharedT
 | 0,_,_=>none
 | n+1, s,t=>match through t with
  | true=>some s
  | false=>match stepOk n₀ ann t with
   | false=>none
   | true=>match stepT (denote tb) p w s t with
    | some (s',t')=>ZcX tb p w n₀ ann n s' t'
    | none=>none
def Zfo:∀ {n:Nat} {s s':SharedT} {t:Thread},ZcX tb p w n₀ ann n s t=some s'->topRun tb p w n₀ ann n s.abs t=some s'.abs
 | 0,_,_,_,h=>by cases h
 | n+1, s,s',t,h=>by
  unfold ZcX at h
  unfold topRun
  cases ht:through t with
  | true=>rw[ht]at h;cases h;rfl
  | false =>
   rw[ht]at h
   cases hk:stepOk n₀ ann t with
   | false=>rw[hk]at h;cases h
   | true =>
    rw[hk]at h
    cases hs:stepT (denote tb) p w s t with
    | none=>rw[hs]at h;cases h
    | some r=>obtain⟨s₂,t₂⟩:=r;rw[hs]at h;rw[stepT_spec hs];exact Zfo h
def ZfR(x:Option (BT×Nat))(o:Obj):Option (BT×Nat):=match x with
 | none=>none
 | some (t,n)=>match ((t.ins n o).get n).isSome with
  | true=>some (t.ins n o,n+1)
  | false=>none
def Zjp(l:List Obj):Option (BT×Nat):=l.foldl ZfR (some (.nil,0))
def Zff:∀l:List Obj,l.foldl ZfR none=none
 | []=>rfl
 | o::l=>Zff l
def Zgu:∀(l pre:List Obj)(t:BT)(n:Nat)(T:BT)(m:Nat)(life:Life),n=pre.length->absHeap t n life=⟨pre.toArray,life⟩->l.foldl ZfR (some (t,n))=some (T,m)->m=(pre++l).length/\absHeap T m life=⟨(pre++l).toArray,life⟩
 | [],pre,t,n,T,m,life,hn,h,e=>by
  cases e
  rw[YN]
  exact⟨hn,h⟩
 | o :: l,pre,t,n,T,m,life,hn,h,e=>by
  rw[List.foldl_cons]at e
  cases hs:((t.ins n o).get n).isSome with
  | false =>
   have:ZfR (some (t,n)) o=none:=by unfold ZfR;simp only[hs]
   rw[this,Zff]at e;cases e
  | true =>
   have hp:ZfR (some (t,n)) o=some (t.ins n o,n+1):=by unfold ZfR;simp only[hs]
   rw[hp]at e
   have:=Zgu l (pre++[o]) (t.ins n o) (n+1) T m life (by rw[Ys,hn];rfl) (by
    rw[absHeap_ins hs,h]
    show Heap.mk _ _=Heap.mk _ _
    simp) e
   rw[Ya1]at this
   exact this
def Zi6(h:Zjp l=some (T,m)):m=l.length/\absHeap T m life=⟨l.toArray,life⟩:=by
 have:=Zgu l [] .nil 0 T m life rfl rfl h;simpa using this
def ZgF{β:Type}:List Obj->(List Obj->β)->β
 | [],k=>k []
 | ⟨a,b,c,d⟩::l,k=>ZgF l fun l'=>k (⟨a,b,c,d⟩::l')
def Ze8:∀(l:List Obj)(k:List Obj->β),ZgF l k=k l
 | [],k=>rfl
 | ⟨a,b,c,d⟩::l,k=>by rw[ZgF,Ze8 l]
def Zke{β:Type}(p:Program)(w:World)(os:OsState)(m:Nat)(ann:Option Value)(M:Nat)(k:Shared->β):Option β :=
 match Zjp (boot_heap w.params).objs.toList with
 | none=>none
 | some (T,n)=>match ZcX treeTable p w m ann M ⟨T,n,(boot_heap w.params).life,#[],boot_drawn,boot_toks,os⟩ (topStub p)with
  | none=>none
  | some s=>some (ZgF (s.tree.list s.n) fun l=>k ⟨⟨l.toArray,s.life⟩,s.gens,s.drawn,s.toks,s.os⟩)
def Zj0{os:OsState}{r:β}(h:Zke p w os m ann M k=some r):∃s,topRun treeTable p w m ann M ⟨boot_heap w.params,#[],boot_drawn,boot_toks,os⟩ (topStub p)=some s/\k s=r:=by
 unfold Zke at h;cases hb:Zjp (boot_heap w.params).objs.toList with
 | none=>rw[hb]at h;cases h
 | some x =>
  obtain⟨T,n⟩:=x;rw[hb]at h;obtain⟨hn,ha⟩:=Zi6 (life:=(boot_heap w.params).life) hb;have ha:absHeap T n (boot_heap w.params).life=boot_heap w.params:=by rw[ha]
  simp only at h;cases ht:ZcX treeTable p w m ann M ⟨T,n,(boot_heap w.params).life,#[],boot_drawn,boot_toks,os⟩ (topStub p)with
  | none=>rw[ht]at h;cases h
  | some s =>
   rw[ht]at h;simp only[Ze8,Option.some.injEq]at h;have:=Zfo ht;rw[show(SharedT.mk T n (boot_heap w.params).life #[] boot_drawn boot_toks os).abs=⟨boot_heap w.params,#[],boot_drawn,boot_toks,os⟩from by unfold SharedT.abs;simp only;rw[ha]]at this;exact⟨s.abs,this,h⟩
def Zg0{Ya:World->α}(e:opening p=plainProg p.main.scope.names)(hN:Nat.ble 600 N=true)(f:∀s,fenceModules? p s=some s)(size:∀w:World,((boot_heap w.params).isNs mainGlobals,(boot_heap w.params).objs.size,(boot_heap w.params).nsMap mainGlobals "__annotations__")=(true,m,ann))(run:∀(w:World)(os:OsState),Zke p w os m ann N (fun s=>(staticsOk (importedModules p.main.body) (boot_heap w.params) s.heap&&namesBound p s.heap&&gensDone s&&laidKept (boot_heap w.params) s.heap,openSeen q loose (importedModules p.main.body) Xt g0 s,Yf s))=some (true,openGood q loose,Ya w)):
  LeftO p q loose Xt Yf Ya N g0:=fun w=>by
 obtain⟨⟨h,gs,d,k,os⟩,eo,e'⟩:=YK.mp (boot_open e hN f w)
 obtain⟨rfl,rfl,rfl,rfl⟩:h=boot_heap w.params/\gs=#[]/\d=boot_drawn/\k=boot_toks:=by simpa using e'
 obtain⟨z1,z2,z3⟩:_/\_/\_:=by simpa only[Prod.mk.injEq]using size w
 obtain⟨s,r,l⟩:=Zj0 (run w os)
 obtain⟨l1,l2,l3⟩:_/\_/\_:=by simpa only[Prod.mk.injEq]using l
 have t:topFrom treeTable p w N ⟨boot_heap w.params,#[],boot_drawn,boot_toks,os⟩=some s:=by
  unfold topFrom;dsimp only;rw[z1,z2,z3,r];show(match staticsOk (importedModules p.main.body) (boot_heap w.params) s.heap&&namesBound p s.heap&&gensDone s&&laidKept (boot_heap w.params) s.heap with|true=>_|false=>_)=_;rw[l1]
 unfold openEnds;rw[eo];show(topFrom treeTable p w N _).map _=_;rw[t];exact congrArg some (Prod.ext l2 l3)
def ZD(P:Params)(x:Str)(t:Nat)(v:Value):DictEntry:=⟨PyData.keyHash P x,.str x t,v⟩
def hNs(n:Nat)(es:List DictEntry):Obj:=⟨.type "dict",none,.dict es.toArray n,#[]⟩
def hRf:Option Nat->Value
 | some a=>.ref a
 | none=>.none
def ZqC(x q:Str)(t ln ac fl a b:Nat)(d e:Option Nat)(f m n:Nat):Obj :=
 ⟨.type "code",none,.fields #[.str x t,.str q (t+1),.str "/claim/cut.py" (t+2),.int ln 0,.int ac 0,.int 0 0,.int 0 0,.int fl 0,.ref a,.bool true,.int 181 0,.ref b,.none,hRf d,hRf e,.ref f,.int m 0,.int ln 0,.str "/claim/cut.py" n],#[]⟩
def hBoot(w:World):Bool×Nat×Option Value:=((boot_heap w.params).isNs mainGlobals,(boot_heap w.params).objs.size,(boot_heap w.params).nsMap mainGlobals "__annotations__")
end L2
set_option maxHeartbeats 4000000
namespace L2
open PySem PySem.Spec PyProof.Rows
def Zfd(I:Nat->Shared->Prop)(turn : ∀ n s,I n s->wpAny (model prog w) A (pyNext it) (fun r s₁=>match r with
   | none=>R (.ok .next) s₁
   | some v => wpAny (model prog w) A (letOwnedTupleGo target it v) (fun _ s₁'=>wpAny (model prog w) A (assign target env v) (fun _ s₂ =>
     wpAny (model prog w) A (forIn ifs true fun c r=>if r=true then do let ok <- isTrue c env (eval c env);pure (ForInStep.yield ok)else pure (ForInStep.yield r)) (fun ok s₃ =>
      if ok=true then wpAny (model prog w) A (eval elt env) (fun x s₄ =>
       wpAny (model prog w) A (call (.builtin "list.append") [acc,x]) (fun _ s₅=>∃m,m<n/\I m s₅) (fun _ _=>False) s₄) (fun _ _=>False) s₃
      else ∃m,m<n/\I m s₃) (fun _ _=>False) s₂) (fun _ _=>False) s₁') (fun _ _=>False) s₁) (fun _ _=>False) s)(n:Nat)(h:I n s):
  codeAny (model prog w) A (.compLoop (.ListComp elt [⟨target,iter,ifs,0⟩] scope pos) 0 it acc env) R s:=by
 refine codeAny_loop rfl I (fun n s hI=>?_) n h;show wpAny _ A ((compTurn (.ListComp elt [⟨target,iter,ifs,0⟩] scope pos) 0 it acc env).onRaise (fun x=>do noteFrame x env;theTreesLotGoes x)) _ _ s;refine wpAny_noted ?_;rw[compTurn_list];refine Yb (YaF (Yb (YG (turn n s hI) (fun r s₁ h₁=>?_) fun _ _ h'=>h'.elim)));cases r with
 | none=>exact Yd h₁
 | some v =>
  refine Yb (YG h₁ (fun _ s₁' h₁'=>Yb (YG h₁' (fun _ s₂ h₂=>Yb (YG h₂ (fun ok s₃ h₃=>?_) fun _ _ h'=>h'.elim)) fun _ _ h'=>h'.elim)) fun _ _ h'=>h'.elim);cases ok with
  | false=>exact Yd ⟨rfl,h₃⟩
  | true =>
   exact Yb (Yb (YG h₃ (fun x s₄ h₄=>Yb (YG h₄ (fun _ s₅ h₅=>Yd (Yd ⟨rfl,h₅⟩)) fun _ _ h'=>h'.elim)) fun _ _ h'=>h'.elim))
def Cx.comp(X:Cx)(scope:Scope)(cl:List (Str×Addr))(N:List Str)(pins:List (Addr×Obj))(s:Shared)(H:Hp)(fp:List Addr):Cx where
 prog:=X.prog
 w := X.w
 K := X.K
 mg:=X.mg
 base:=X.base
 A := X.A
 N := N
 s₀:=s
 H₀:=H
 env:=compEnvC scope cl s.heap.objs.size X.env
 outer:=X.stack
 stack:=X.stack
 ex:=fp
 fn:=fun _=>false
 calm:=X.calm
 pn:=X.pn++pins
 xe:=fun _ _=>False
def Zam(nt:Nat)(frs:List (Str×Nat))(σ:St):St:=List.replicate nt none++frs.map fun p=>(σ[p.2]?).join
structure Z9 (X:Cx) (scope:Scope) (cl:List (Str×Addr)) (ts:List Str) (frs:List (Str×Nat)):Prop where
 clos:closureFor scope X.env=pure cl
 kind:scope.kind=.function
 nocell:∀y∈scope.names,y.2≠.cell
 names:∀y∈scope.names,y.2=.local->scope.names.lookup y.1=some .local
 sub:∀p∈cl,X.env.cells.lookup p.1=some p.2
 has:∀p∈(relabel scope X.env).names,p.2=.cell\/p.2=.free->(cl.lookup p.1).isSome=true
 out:∀p∈frs,X.N[p.2]? = some p.1/\(X.env.kindOf p.1=some .cell\/X.env.kindOf p.1=some .free)/\((relabel scope X.env).names.lookup p.1=some .cell\/(relabel scope X.env).names.lookup p.1=some .free)/\(cl.lookup p.1).isSome=true
section
def Z9.subL(S:Z9 X scope cl ts frs')(h:cl.lookup x=some c):X.env.cells.lookup x=some c:=S.sub (x,c) (Yaq h)
def Z9.inv(S:Z9 X scope cl ts frs')(I:Inv X pins σ H s)(hf:∀b∈fp,Zey X pins H b)(hlt:∀b∈fp,b<s.heap.objs.size)(hns:h₁.Ns s.heap.objs.size m)(hk:∀b o,s.heap.get? b=some o->h₁.get? b=some o):Inv (X.comp scope cl (ts++frs'.map (·.1)) pins s H fp) [] (Zam ts.length frs' σ) H { s with heap:=h₁,toks:=tk }:=by
 have hC:∀b o,s.heap.get? b=some o->b≠s.heap.objs.size:=fun b o e=>Yo (Ym e);have hcell:∀x c,cl.lookup x=some c->∃v,h₁.IsCell c v:=fun x c e=>by
  obtain⟨v,o,ho,hd⟩:=I.cell x c (S.subL e);exact⟨v,o,hk c o ho,hd⟩
 refine⟨⟨I.ok.mod,?_,I.ok.glob,I.ok.blt,Yj _,fun x y c h1 h2=>I.ok.inj x y c (S.subL h1) (S.subL h2),fun x hx=>?_,fun x c z=>(by cases z),I.ok.hd,I.ok.frames,.inl rfl,fun b hb=>⟨Yo (hlt b hb),fun x c e=>?_⟩,I.bs,YB I.ok.bsz I.sz,fun b o e hb=>?_,fun b hb z=>?_,I.stack,I.stkFree⟩,
  rfl,I.bare,Un.kept hk,⟨m,hns,fun i x v h1 h2 h3=>?_⟩,hcell,I.hok.fresh (Yj _),fun x c e=>I.freeC x c (S.subL e),fun p hp=>?_,I.hok.kept hk,?_⟩
 .exact S.kind
 .have hx':(relabel scope X.env).names.lookup x=some .cell\/(relabel scope X.env).names.lookup x=some .free:=hx;have:(cl.lookup x).isSome=true:=by
   rcases hx' with e|e
   .exact S.has (x,.cell) (Yaq e) (.inl rfl)
   .exact S.has (x,.free) (Yaq e) (.inr rfl)
  exact YaU.mp this
 .exact(hf b hb).2.2.2.2.1 x c (S.subL e)
 .obtain⟨_,_,_,h4,_⟩:=hf b hb;rcases h4 with h4|h4
  .exact I.ok.noex b o e h4
  .exact absurd (YI (Ym e) (YB I.ok.bsz h4)) (Ya8 _)
 .obtain⟨_,h2,h3,_⟩:=hf b hb;rcases Yn.mp (I.stkSub b z)with e|e
  .exact h2 e
  .exact h3 e
 .have hi : ts.length<=i:=by
   by_cases hi:ts.length<=i
   .exact hi
   .have:(Zam ts.length frs' σ)[i]? = some none:=by
     unfold Zam;rw[Y6 (by simp;lia),YbI,if_pos (by lia)]
    rw[this]at h2;cases h2
  obtain⟨p,hp,e1,e2⟩:∃p∈frs',p.1=x/\(σ[p.2]?).join=some v:=by
   have h1':(ts++frs'.map (·.1))[i]? = some x:=h1;have h2':(Zam ts.length frs' σ)[i]? = some (some v):=h2;unfold Zam at h2';rw[YW hi,Yi]at h1';rw[YW (by simpa using hi),Yi,YbS]at h2';cases e:frs'[i-ts.length]? with
   | none=>rw[e]at h1';cases h1'
   | some p =>
    rw[e]at h1' h2';exact⟨p,Yk e,YE h1',YE h2'⟩
  obtain⟨o1,o2,o3,o4⟩:=S.out p hp;rw[e1]at o1 o2 o3 o4;have e3:σ[p.2]? = some (some v):=by
   cases e:σ[p.2]? with
   | none=>rw[e]at e2;cases e2
   | some q=>rw[e]at e2;exact congrArg some e2
  obtain⟨m',_,hl⟩:=I.loc;have hv:Vis X.env.scope x:=by
   rcases o2 with o2|o2
   .exact .inr (.inl o2)
   .exact .inr (.inr o2)
  obtain⟨u,r,l⟩:=hl p.2 x v o1 e3 hv;refine⟨u,r,.inr ⟨o3,?_⟩⟩;obtain⟨c,hc⟩:=YaU.mp o4;rcases l with⟨k,_⟩|⟨_,c',e,ob,ho,hd⟩
  .rcases o2 with o2|o2<;>(rw[o2]at k;cases k)
  .have:c'=c:=by have:=S.subL hc;rw[this]at e;exact(YE e).symm
   subst this;exact⟨c',hc,ob,hk c' ob ho,hd⟩
 .have hp':p∈X.pn++pins:=by
   have:p∈(X.pn++pins)++[]:=hp;rwa [YN]at this
  obtain⟨e,n,ne,nf,d⟩:=I.pin p hp';refine⟨hk _ _ e,n,hC _ _ e,fun z=>?_,d⟩;rcases Yn.mp (I.stkSub _ z)with e'|e'
  .exact ne e'
  .exact nf e'
 .show(Zam ts.length frs' σ).length=(ts++frs'.map (·.1)).length;unfold Zam;simp
def Z9.after(I:Inv X pins σ H s)(hf:∀b∈fp,Zey X pins H b)(J:Inv (X.comp scope cl N pins s H fp) [] σ' H' s')(hs:Heap.SameBut s.heap.objs.size s'.heap h'):
  Inv X pins σ H' { s' with heap:=h' }:=by
 have hC:∀b o,s.heap.get? b=some o->b≠s.heap.objs.size:=fun b o e=>Yo (Ym e);have fr:H' s.heap.objs.size=none:=J.free;refine I.call' (s':={ s' with heap:=h' }) (ch:=fp) J.os ?_ ?_ J.bare fun b hb=>?_
 .have u:=J.base;exact⟨fun b o e n h1 h2=>(hs.2 b (hC b o e)).trans (u.keep b o e n h1 h2),fun b o e n h1 h2=>by
    obtain⟨sl,q⟩:=u.slot b o e n h1 h2;exact⟨sl,(hs.2 b (hC b o e)).trans q⟩,u.free,fun b o e h2=>by
    obtain⟨o',q⟩:=u.there b o e h2;exact⟨o',(hs.2 b (hC b o e)).trans q⟩,u.tups,u.frzs,u.tbls⟩
 .intro b ob e;refine(J.hok b ob e).stay (fun c w' hc q=>(hs.2 c ?_).trans q) (fun _ q=>q) fun _ _ q=>q;rintro rfl;rcases hc with hc|hc
  .rw[<- hc,fr]at e;cases e
  .rw[fr]at hc;cases hc
 .obtain⟨h1,h2,h3,h4,h5,h6⟩:=hf b hb;exact⟨h4,h2,h5,h6⟩
end
def ZlQ(X:Cx)(ifs:List Expr)(t:TT):Prop :=
 ∀(pins:List (Addr×Obj))(s:Shared)(σ:St)(H:Hp)(Q:Bool->Hp->Prop),Inv X pins σ H s->t σ H Q ->
  wpAny (model X.prog X.w) X.A (forIn ifs true fun c r=>if r=true then do let ok <- isTrue c X.env (eval c X.env);pure (ForInStep.yield ok)else pure (ForInStep.yield r)) (TP X pins σ Q) X.xe s
def ZqT:TT:=fun _ H Q=>Q true H
def Zak:ZlQ X [] ZqT:=fun _ _ _ H _ I h=>wpAny_tests_nil ⟨H,I,h⟩
def ZbF(h:PT X c t):ZlQ X [c] t:=fun pins s σ H Q I q=>wpAny_tests_one (h pins s σ H Q I q)
def Zle(nt:Nat)(frs:List (Str×Nat))(wi:TI)(g:TG)(tt:TT)(te:TE):TE:=fun σ H Q=>wi σ H fun J H1=>∀l,H1 l=none->∃W:Nat->Nat->St->Hp->Prop,(∃m,W 0 m (Zam nt frs σ) (upd H1 l (.lst []))) /\
 ∀i m τ H,W i m τ H->(J.stop i H/\Q (.ref l) H)\/(J.go i H/\∀x H',J.yld i H x H'->g x τ H' fun τ2 H2=>tt τ2 H2 fun ok H3 =>
  if ok=true then te τ2 H3 fun y H4=>∃ys,H4 l=some (.lst ys)/\ys.length<sizeLine/\∃m',m'<m/\W (i+1) m' τ2 (upd H4 l (.lst (ys++[y])))else ∃m',m'<m/\W (i+1) m' τ2 H3)
open PySem PySem.Spec PyProof.Rows PySem.Builtin.Str
def Zpd(z:Str)(lo hi:Option Int):Str:=⟨((z.cps.toList.drop (HT.sIx z.cps.toList.length 0 lo)).take (HT.sIx z.cps.toList.length z.cps.toList.length hi-HT.sIx z.cps.toList.length 0 lo)).toArray⟩
def ZcM(v:Int)(n d:Nat):max 0 (min (if v<0 then v+(n:Int)else v) (n:Int))=((HT.sIx n d (some v):Nat):Int):=by
 rw[<- HT.clip_eq v n d];split<;>lia
def Zg6(lo hi:Option Int)(n:Nat):strSliceIndices lo hi 1 n=(List.range (HT.sIx n n hi-HT.sIx n 0 lo)).map fun k=>HT.sIx n 0 lo+k:=by
 have h1:∀(a b:Nat),sliceRange (a:Int) (b:Int) 1=(List.range (b-a)).map fun k=>a+k:=by
  intro a b;unfold sliceRange;simp only[show(1:Int)>0 by decide,if_true];have e:(if(a:Int)<(b:Int)then((b:Int)-(a:Int)+1-1) / 1 else 0).toNat=b-a:=by
   rw[Int.ediv_one];split<;>lia
  rw[e];refine Yb3 fun k _=>?_;lia
 unfold strSliceIndices;simp only[show(1:Int)>0 by decide,if_true];cases lo with
 | none =>
  cases hi with
  | none=>exact h1 0 n
  | some v =>
   dsimp only;rw[ZcM v n n];exact h1 0 _
 | some u =>
  cases hi with
  | none =>
   dsimp only;rw[ZcM u n 0];exact h1 _ n
  | some v =>
   dsimp only;rw[ZcM u n 0,ZcM v n n];exact h1 _ _
def Zg2(l:List Nat)(a k:Nat)(h:a+k<=l.length):((List.range k).map fun i=>a+i).filterMap (fun i=>l[i]?)=(l.drop a).take k:=by
 induction k generalizing a with
 | zero=>simp
 | succ k ih =>
  rw[List.range_succ_eq_map,Yq,List.filterMap_cons];have ha:a<l.length:=by lia
  simp only[Nat.add_zero];rw[Yg ha];dsimp only;rw[List.drop_eq_getElem_cons ha,List.take_succ_cons];congr 1;rw[Yai,<- ih (a+1) (by lia)];congr 1;refine Yb3 fun i _=>?_;show a+(i+1)=a+1+i;lia
def Zld(x:Str)(lo hi:Option Int):Txt.slice x lo hi=Zpd x lo hi:=by
 unfold Txt.slice Zpd;have hn:x.length=x.cps.toList.length:=by show x.cps.size=_;simp
 have ha:=HT.sIx_le x.cps.toList.length 0 (Y2 _) lo;have hb:=HT.sIx_le x.cps.toList.length x.cps.toList.length (Yj _) hi;rw[hn,Zg6];generalize HT.sIx x.cps.toList.length 0 lo=a at ha ⊢;generalize HT.sIx x.cps.toList.length x.cps.toList.length hi=b at hb ⊢;have hp:=Zg2 x.cps.toList a (b-a);split
 .rename_i h;simp only[Yc,Yav,YU,beq_iff_eq]at h;have h2:b-a=x.cps.toList.length:=h.2;by_cases h0:x.cps.toList.length=0
  .have:x.cps=#[]:=by
    apply Array.eq_empty_of_size_eq_zero;simpa using h0
   cases x;simp_all
  .have ea:a=0:=by lia
   subst ea;rw[Ybq,Yaa (by lia)]
 .congr 1;by_cases hab:a<=b
  .rw[<- hp (by lia)];congr 1;simp only[Yas]
  .have:b-a=0:=by lia
   rw[this];simp
section
def Zwo:V->Option Int->Option Int->Hp->VK->Prop:=fun x lo hi H Q=>∃z,x=.str z/\z.length<=sizeLine/\Q (.str (Zpd z lo hi)) H
def Zrw:SlR X Zwo:=by
 intro pins s σ H x v vl vu lo hi sl Q I rx hs pl pu h;obtain⟨z,rfl,hz,q⟩:=h;obtain⟨t,rfl⟩:=rx;rw[<- Zld]at q;refine⟨"str",_,F.slot_str_getitem.lookup,typeIs_str _ _ _,?_⟩;obtain⟨o,ho,hc,hd⟩:=hs;have key:∀(l u:Option (Int×Tok)),vl=partValue l->vu=partValue u->lo=l.map (·.1)->hi=u.map (·.1)->wpAny (model X.prog X.w) X.A (getItem (.str z t) (.ref sl)) (EP X pins σ Q) X.xe s:=by
  intro l u e1 e2 e3 e4;subst e1 e2 e3 e4;exact wpAny_getItem_str_slice (l:=l) (u:=u) (st:=none) ⟨o,ho,hc,hd⟩ rfl (post_val_or_str ⟨YB (Txt.slice_le z _ _) hz,fun t' k=>⟨.str _,H,I.tok k,⟨_,rfl⟩,q⟩⟩)
 cases pl with
 | none =>
  cases pu with
  | none=>exact key none none rfl rfl rfl rfl
  | int j u=>exact key none (some (j,u)) rfl rfl rfl rfl
 | int i t =>
  cases pu with
  | none=>exact key (some (i,t)) none rfl rfl rfl rfl
  | int j u=>exact key (some (i,t)) (some (j,u)) rfl rfl rfl rfl
end
def Sq(K:YFr)(H:Hp)(a:Addr)(xs:List V):Prop:=SqL K H a xs\/SqT K H a xs
def occ(y x:Str):Bool:=!(occurrences y x 0 y.length 1).isEmpty
def Zuh:R2:=fun x y H Q=>match x,y with
 | .int i,.int j=>Q (.int (i-j)) H
 | _,_=>False
def ZuT:R2:=fun x y H Q=>match x,y with
 | .int i,.int j=>ZuA i j/\Q (.int (i / j)) H
 | _,_=>False
def ZsU:R2:=fun x y H Q=>match x,y with
 | .int i,.int j=>0<j/\Q (.int (i % j)) H
 | _,_=>False
def ZtS:R2:=fun x y H Q=>match x,y with
 | .int i,.int j=>ZsT i j/\Q (.int (i^j.toNat)) H
 | _,_=>False
def uLt:R2:=fun x y H Q=>match x,y with
 | .int i,.int j=>Q (.bl (decide (i<j))) H
 | .str i,.str j=>Q (.bl (decide (i.cps.toList<j.cps.toList))) H
 | _,_=>False
def uGt:R2:=fun x y H Q=>match x,y with
 | .int i,.int j=>Q (.bl (decide (j<i))) H
 | _,_=>False
def uEq:R2:=fun x y H Q=>match x,y with
 | .int i,.int j=>Q (.bl (decide (i=j))) H
 | .str i,.str j=>Q (.bl (decide (i=j))) H
 | .bl i,.bl j=>Q (.bl (decide (i=j))) H
 | .non,.non=>Q (.bl true) H
 | .non,.str _=>Q (.bl false) H
 | .str _,.non=>Q (.bl false) H
 | _,_=>False
def uNe:R2:=fun x y H Q=>match x,y with
 | .int i,.int j=>Q (.bl (!decide (i=j))) H
 | .str i,.str j=>Q (.bl (!decide (i=j))) H
 | .bl i,.bl j=>Q (.bl (!decide (i=j))) H
 | .non,.non=>Q (.bl false) H
 | .non,.str _=>Q (.bl true) H
 | .str _,.non=>Q (.bl true) H
 | _,_=>False
def uIn(K:YFr):R2:=fun x y H Q=>match x,y with
 | .str i,.str j=>Q (.bl (occ j i)) H
 | x,.ref p=>∃xs,Sq K H p xs/\Zbh x=true/\xs.all Zbh=true/\Q (.bl (inV x xs)) H
 | _,_=>False
def Zqi(K:YFr):R2:=fun x y H Q=>match x,y with
 | .str i,.str j=>Q (.bl (!occ j i)) H
 | x,.ref p=>∃xs,Sq K H p xs/\Zbh x=true/\xs.all Zbh=true/\Q (.bl (!inV x xs)) H
 | _,_=>False
def uIx(K:YFr):R2:=fun x y H Q=>match x,y with
 | .str z,.int i=>z.length<=sizeLine/\∃c,atI z.cps.toList i=some c/\Q (.str ⟨#[c]⟩) H
 | .ref p,.int i=>∃xs v,Sq K H p xs/\atI xs i=some v/\Q v H
 | _,_=>False
def ZsN(K:YFr):List V->Hp->VK->Prop:=fun xs H Q=>match xs with
 | [.str z]=>z.length<=sizeLine/\Q (.int z.length) H
 | [.ref p]=>∃ys,Sq K H p ys/\Q (.int ys.length) H
 | _=>False
def ZuZ:List V->Hp->VK->Prop:=fun xs H Q=>match xs with
 | [.int i,.int j]=>Q (.int (min i j)) H
 | _=>False
section
def OpR.imp(h:OpR X f r)(hi:∀x y H Q,r' x y H Q->r x y H Q):OpR X f r':=fun pins s σ H x y v u Q I rx ry q=>h pins s σ H x y v u Q I rx ry (hi _ _ _ _ q)
def Zaj.imp(h:Zaj X f r)(hi:∀xs H Q,r' xs H Q->r xs H Q):Zaj X f r':=fun pins s σ H xs us Q I rx q=>h pins s σ H xs us Q I rx (hi _ _ _ q)
def ZkL:OpR X (binaryOp .Sub) Zuh:=Zpt.imp fun x y H Q q=>by
 unfold Zuh at q
 split at q
 .exact⟨_,_,rfl,rfl,q⟩
 .exact q.elim
def Zgx:OpR X (binaryOp .FloorDiv) ZuT:=ZnW.imp fun x y H Q q=>by
 unfold ZuT at q
 split at q
 .exact⟨_,_,rfl,rfl,q.1,q.2⟩
 .exact q.elim
def ZbS:OpR X (binaryOp .Mod) ZsU:=Zpy.imp fun x y H Q q=>by
 unfold ZsU at q
 split at q
 .exact⟨_,_,rfl,rfl,q.1,q.2⟩
 .exact q.elim
def Zm8:OpR X (binaryOp .Pow) ZtS:=Zrp.imp fun x y H Q q=>by
 unfold ZtS at q
 split at q
 .exact⟨_,_,rfl,rfl,q.1,q.2⟩
 .exact q.elim
def Zvr:OpR X (compareOp .Lt) uLt:=(Zt5.or ZhY).imp fun x y H Q q=>by
 unfold uLt at q
 split at q
 .exact .inl ⟨_,_,rfl,rfl,q⟩
 .exact .inr ⟨_,_,rfl,rfl,q⟩
 .exact q.elim
def Zpk:OpR X (compareOp .Gt) uGt:=Zt4.imp fun x y H Q q=>by
 unfold uGt at q
 split at q
 .exact⟨_,_,rfl,rfl,q⟩
 .exact q.elim
def ZvM:OpR X (compareOp .Eq) uEq:=ZtU.imp fun x y H Q q=>by
 unfold uEq at q
 split at q<;>first|exact q.elim|(refine⟨rfl,?_⟩;simpa using q)
def ZvZ:OpR X (compareOp .NotEq) uNe:=ZtO.imp fun x y H Q q=>by
 unfold uNe at q
 split at q<;>first|exact q.elim|(refine⟨rfl,?_⟩;simpa using q)
def ZpA:OpR X (compareOp .In) (uIn X.K):=(ZjN.or ZjK).imp fun x y H Q q=>by
 unfold uIn at q
 split at q
 .exact .inl ⟨_,_,rfl,rfl,q⟩
 .obtain⟨xs,h1,h2,h3,h4⟩:=q
  exact .inr ⟨_,xs,rfl,h1,h2,h3,h4⟩
 .exact q.elim
def ZrC:OpR X (compareOp .NotIn) (Zqi X.K):=(ZeX.or ZeO).imp fun x y H Q q=>by
 unfold Zqi at q
 split at q
 .exact .inl ⟨_,_,rfl,rfl,q⟩
 .obtain⟨xs,h1,h2,h3,h4⟩:=q
  exact .inr ⟨_,xs,rfl,h1,h2,h3,h4⟩
 .exact q.elim
def ZaI:IxR X (uIx X.K):=by
 intro value slice pins s σ H x y v u Q I rx ry q hs;refine Zqf value slice pins s σ H x y v u Q I rx ry ?_ hs;unfold uIx at q;split at q
 .obtain⟨h1,c,h2,h3⟩:=q;exact .inr (.inr ⟨_,_,c,rfl,rfl,h1,h2,h3⟩)
 .obtain⟨xs,v,h1|h1,h2,h3⟩:=q
  .exact .inl ⟨_,xs,_,v,rfl,rfl,h1,h2,h3⟩
  .exact .inr (.inl ⟨_,xs,_,v,rfl,rfl,h1,h2,h3⟩)
 .exact q.elim
def ZcD:Zaj X (.builtin "len") (ZsN X.K):=(Zfi.or Ze5).imp fun xs H Q q=>by
 unfold ZsN at q
 split at q
 .exact .inl ⟨_,rfl,q.1,q.2⟩
 .obtain⟨ys,h1,h2⟩:=q
  exact .inr ⟨_,ys,rfl,h1,h2⟩
 .exact q.elim
def ZuI(hc:X.calm=true):Zaj X (.builtin "min") ZuZ:=(Zii hc).imp fun xs H Q q=>by
 unfold ZuZ at q
 split at q
 .rename_i i j
  refine⟨i,j,rfl,?_⟩
  have e:(if j<i then j else i)=min i j:=by split<;>lia
  rw[e];exact q
 .exact q.elim
def Zm1(hg:Gl X x)(hm:X.mg x=none)(hv:bootBuiltins x=some (.type T))(hn:x≠"__name__":=by decide)(hd:(x==("__debug__":Str))=false:=by decide):PE X (.Name x pos) (tC (.ty T)):=Zoq hg hm hv rfl hn hd
end
def ZkE:List V->Hp->(It->Hp->Prop)->Prop:=fun vs H R=>match vs with
 | [.int j]=>-(2^62)<=j/\j<2^62/\R (Itr 0 j.toNat) H
 | _=>False
def Zqu(ta:TA):TI:=fun σ H R=>ta σ H fun vs H1=>ZkE vs H1 R
def Zr0(K:YFr):V->Hp->(It->Hp->Prop)->Prop:=fun x H R=>match x with
 | .ref a=>(∃xs,SqL K H a xs)/\R (Itl K a) H
 | _=>False
def Zqs(K:YFr):V->Hp->(It->Hp->Prop)->Prop:=fun x H R=>match x with
 | .ref a=>(∃xs,SqT K H a xs)/\R (Itt K a) H
 | _=>False
def jOf(u:V->Hp->(It->Hp->Prop)->Prop)(te:TE):TI:=fun σ H R=>te σ H fun x H1=>u x H1 R
section
def Zbe(hg:Gl X "range")(hm:X.mg "range"=none)(ha:PA X [a] ta)(hs:starEach [a] X.env=[(false,eval a X.env)]:=by rfl):PI X tg (.Call (.Name "range" p) [a] [] pos) (Zqu ta):=by
 intro pins s σ H R I h;refine Call_ (ZcA I hg hm boot_range (YaL (thn (ha pos pins s σ H _ I h) fun us s1 ⟨vs,H1,I1,r1,q1⟩=>?_) hs rfl));unfold ZkE at q1;dsimp only at q1;split at q1
 .obtain⟨q1,q2,q⟩:=q1;cases r1 with
  | cons r rr =>
   cases rr;obtain⟨t,rfl⟩:=r;exact call_range_1 (Zlc I1 (by lia) (by lia) q1 q2 (by simpa using q))
 .exact q1.elim
end
def ZcZ:List Expr->Option (List Str)
 | []=>some []
 | .Constant (.str x) _ _::r=>(ZcZ r).map (x::·)
 | _=>none
def Zl4(vs:List V):TA:=fun _ H L=>L vs H
def ZbU:∀ {es:List Expr} {xs:List Str},ZcZ es=some xs->PA X es (Zl4 (xs.map V.str))
 | [],xs,h=>by
  cases h
  exact fun pos pins s σ H Q I q=>Zg pos pins s σ H Q I q
 | e :: es, xs,h=>by
  cases e with
  | Constant c k p =>
   cases c with
   | str x =>
    cases h1:ZcZ es with
    | none=>simp[ZcZ,h1]at h
    | some ys =>
     have h2:x::ys=xs:=by simpa[ZcZ,h1]using h
     subst h2
     have ih:=ZbU (X:=X) h1
     exact fun pos pins s σ H Q I q=>(Zb (te:=tC (.str x)) ZF ih) pos pins s σ H Q I q
   | _=>simp[ZcZ]at h
  | _=>simp[ZcZ]at h
def Zat.upd_new(h:H l=none):Zat H (upd H l o):=fun b u e=>by rw[Zr (Z8 e h)];exact e
def Zat.sq{K:YFr}(e:Zat H H')(h:SqT K H a xs):SqT K H' a xs:=by
 rcases h with(h|⟨o,h⟩)|h
 .exact .inl (.inl (e _ _ h))
 .exact .inl (.inr ⟨o,e _ _ h⟩)
 .exact .inr h
def Zmv(h0:0<=i)(h:i<xs.length):∃v,atI xs i=some v/\xs[i.toNat]? = some v:=by
 have hlt:i.toNat<xs.length:=by lia
 refine⟨xs[i.toNat],?_,Yg hlt⟩;have e:(i.toNat:Int)=i:=by lia
 have h:=Zai (Yg hlt);rw[e]at h;exact h
section
variable{K:YFr}
def Fun.ok2{st:Stmt}(F:Fun K x qual st f fd)(hs:ZN st=sc)(hb:ZaQ st=body)(S:Zao N ps (ZN st))(len:∀ vs H Q E,sp vs H Q E->vs.length=ps.length)(hbody:Zao N ps sc->∀ (cdv:Value) (A:Around) (outer:List Env) (s:Shared) (H:Hp) (vs:List V) (Q:VK) (E:XK),Zbb k (A.deeper (envOfC qual sc s.heap.objs.size f cdv))->sp vs H Q E ->
   ∃t,PSs (Zds CX0 P w K mg base N qual sc f cdv A outer s H E).nox body t/\t { nx:=fun _ H'=>Q .non H',rt:=Q } (L2.start N vs) H):ZbB P w K mg base CX0 (k+1) f fd ps sp:=by
 subst hs hb;exact F.ok S len (hbody S)
end
open PySem
def ZaW{cl:List (Str×Addr)}(h:(relabel scope env).names=names)(h2:(names.all fun p=>p.2 != .cell&&p.2 != .free)=true):
  ∀p∈(relabel scope env).names,p.2=.cell\/p.2=.free->(cl.lookup p.1).isSome=true:=by
 intro p hp hk;rw[h]at hp;have:=YaW.mp h2 p hp;rcases hk with e|e
 .rw[e]at this;exact absurd this (by decide)
 .rw[e]at this;exact absurd this (by decide)
def nd1{x:Str}:[x].Nodup:=by simp
section
variable{X:Cx}(K:YFr)(h:X.K=K)
include h
def Zwd:OpR X (compareOp .In) (uIn K):=h▸ZpA
def Zo8:IxR X (uIx K):=h▸ZaI
end
mutual
inductive Rep (K:YFr) (H:Hp):PyData->V->Prop
 | non:Rep K H .none .non
 | bl (b:Bool):Rep K H (.bool b) (.bl b)
 | int (i:Int):Rep K H (.int i) (.int i)
 | str (x:Str):Rep K H (.str x) (.str x)
 | tup {a:Addr} {xs:List V} {ds:List PyData}:SqT K H a xs->ZeA K H ds xs->Rep K H (.tuple ds) (.ref a)
 | lst {a:Addr} {xs:List V} {ds:List PyData}:SqL K H a xs->ZeA K H ds xs->Rep K H (.list ds) (.ref a)
inductive ZeA (K:YFr) (H:Hp):List PyData->List V->Prop
 | nil:ZeA K H [] []
 | cons {d:PyData} {v:V} {ds:List PyData} {vs:List V}:Rep K H d v->ZeA K H ds vs->ZeA K H (d::ds) (v::vs)
end
section
mutual
theorem Rep.reads (I:Inv X pins σ H s):∀ {d:PyData} {v:V} {u:Value},Rep X.K H d v->Zau v u->∃as,Reads s.heap u d as
 | _,_,_,.non,r=>by cases r;exact⟨_,.none⟩
 | _,_,_,.bl b,r=>by cases r;exact⟨_,.bool b⟩
 | _,_,_,.int i,r=>by obtain⟨t,rfl⟩:=r;exact⟨_,.int i t⟩
 | _,_,_,.str x,r=>by obtain⟨t,rfl⟩:=r;exact⟨_,.str x t⟩
 | _, _,_,.tup h q,r=>by
  cases r
  obtain⟨its,rv,⟨o,e,c,n,d⟩,hz⟩:=I.tuple h
  obtain⟨as,ra⟩:=ZeA.reads I q rv
  exact⟨_,.tuple e c d (by simpa using ra)⟩
 | _, _,_,.lst h q,r=>by
  cases r
  obtain⟨its,rv,⟨o,n,e,c,_,d⟩,hz⟩:=I.list h
  obtain⟨as,ra⟩:=ZeA.reads I q rv
  exact⟨_,.list e c d (by simpa using ra)⟩
theorem ZeA.reads (I:Inv X pins σ H s):∀ {ds:List PyData} {vs:List V} {us:List Value},ZeA X.K H ds vs->Z6 vs us->∃as,ReadsAll s.heap us ds as
 | _,_,_,.nil,r=>by cases r;exact⟨_,.nil⟩
 | _, _,_,.cons h q,r=>by
  cases r with
  | cons r0 r1 =>
   obtain⟨as,ra⟩:=Rep.reads I h r0
   obtain⟨bs,rb⟩:=ZeA.reads I q r1
   exact⟨_,.cons ra rb⟩
end
def ZoA(K:YFr)(ne:Bool):R2:=fun x y H Q=>∃d e,Rep K H d x/\Rep K H e y/\d.canLay0=true/\e.canLay0=true/\d.depth<=190/\Q (.bl (if ne then !PyData.eqv d e else PyData.eqv d e)) H
def Zps(hu:X.A.units+200<cLine):OpR X (compareOp .Eq) (ZoA X.K false):=by
 intro pins s σ H x y v u Q I rx ry h;obtain⟨d,e,h1,h2,c1,c2,dp,q⟩:=h;obtain⟨as,ra⟩:=Rep.reads I h1 rx;obtain⟨bs,rb⟩:=Rep.reads I h2 ry;refine SeqAt.compareEq_reads ra rb c1 c2 ?_ ⟨.bl _,H,I,rfl,q⟩;have:min d.depth e.depth<=d.depth:=YbL _ _;lia
def Zq4(hu:X.A.units+200<cLine):OpR X (compareOp .NotEq) (ZoA X.K true):=by
 intro pins s σ H x y v u Q I rx ry h;obtain⟨d,e,h1,h2,c1,c2,dp,q⟩:=h;obtain⟨as,ra⟩:=Rep.reads I h1 rx;obtain⟨bs,rb⟩:=Rep.reads I h2 ry;refine SeqAt.compareNe_reads ra rb c1 c2 ?_ ⟨.bl _,H,I,rfl,q⟩;have:min d.depth e.depth<=d.depth:=YbL _ _;lia
def Zsx(K:YFr):R2:=fun x y H Q=>match x,y with
 | .ref a,y=>ZoA K false (.ref a) y H Q
 | x,.ref b=>ZoA K false x (.ref b) H Q
 | x,y=>uEq x y H Q
def Ztz(K:YFr):R2:=fun x y H Q=>match x,y with
 | .ref a,y=>ZoA K true (.ref a) y H Q
 | x,.ref b=>ZoA K true x (.ref b) H Q
 | x,y=>uNe x y H Q
def ZaV(hr:Zbb k X.A):OpR X (compareOp .Eq) (Zsx X.K):=((Zps (by have:=hr.un;lia)).or ZvM).imp fun x y H Q q=>by
 unfold Zsx at q
 split at q
 .exact .inl q
 .exact .inl q
 .exact .inr q
def Zd3(hr:Zbb k X.A):OpR X (compareOp .NotEq) (Ztz X.K):=((Zq4 (by have:=hr.un;lia)).or ZvZ).imp fun x y H Q q=>by
 unfold Ztz at q
 split at q
 .exact .inl q
 .exact .inl q
 .exact .inr q
def Zpo(K:YFr)(h:X.K=K)(hr:Zbb k X.A):OpR X (compareOp .Eq) (Zsx K):=h▸ZaV hr
end
def Zut(K:YFr):List V->Hp->VK->Prop:=fun xs H Q=>match xs with
 | [.ref p]=>∃ns:List Int,SqL K H p (ns.map V.int)/\Q (.int ns.sum) H
 | _=>False
theorem Zfm(ns:List Int):∀n,n<=ns.length->preSum (fun i=>ns.getD i 0) n=(ns.take n).sum
 | 0,_=>by simp[preSum]
 | n+1,h=>by
  rw[preSum,Zfm ns n (by lia),List.take_add_one,Yg (by lia),List.sum_append]
  simp[YX,Yg (show n<ns.length by lia)]
def ZuO(hc:X.calm=true):Zaj X (.builtin "sum") (Zut X.K):=by
 intro pins s σ H xs us Q I r h;unfold Zut at h;split at h
 .rename_i p;obtain⟨ns,hl,q⟩:=h;obtain⟨u,rfl,ru⟩:=r.one;cases ru;obtain⟨its,rv,pl,hz⟩:=I.list hl;refine call_sum_walkAnyS (YaS pl.isList ?_);have hne:p≠s.heap.objs.size:=Yo (by obtain⟨o,n,e,_⟩:=pl;exact Ym e);have hlen:its.toArray.size=ns.length:=by have:=rv.length;simp at this;simp;lia
  refine⟨s.heap.objs.size,_,_,_,_,_,_,fun i=>ns.getD i 0,rfl,(YbB (show X.A.in1.handled=none from I.ok.hd hc) s.heap.objs.size p hne its.toArray).toS,⟨⟨_,Yl _ rfl,rfl,rfl⟩,pl.isList.at fun o e=>Ye _ e⟩,?_,?_,fun s' t' hm=>?_⟩
  .intro b hb;have hp:p<s.heap.objs.size:=by obtain⟨o,n,e,_⟩:=pl;exact Ym e
   rw[YJ];rcases Yn.mp hb with rfl|hb
   .exact Yaj _
   .have:b=p:=by simpa using hb
    subst this;exact Y0 hp
  .intro i v hv;have hv':its[i]? = some v:=by simpa using hv
   cases e:(ns.map V.int)[i]? with
   | none =>
    have:=rv.none_of e;rw[this]at hv';cases hv'
   | some y =>
    obtain⟨u,hu,ru⟩:=rv.get e;rw[hv']at hu;cases hu;rw[Yi]at e;cases eb:ns[i]? with
    | none=>rw[eb]at e;cases e
    | some b =>
     rw[eb]at e;cases e;obtain⟨t,rfl⟩:=ru;exact⟨t,by dsimp only;rw[YX,eb];rfl⟩
  .have e:preSum (fun i=>ns.getD i 0) its.toArray.size=ns.sum:=by
    rw[hlen,Zfm ns _ (Yj _),YZ]
   rw[e];have hI:Inv X pins σ H { s with heap:=s'.heap,toks:=s'.toks }:=I.kept (t':=s'.toks) fun b o e=>hm.heap b o (by simp;exact Yo (Ym e)) (Ye _ e);have es:({ s with heap:=s'.heap,toks:=s'.toks }:Shared)=s':=by
    have h1:=hm.gens;have h2:=hm.drawn;have h3:=hm.os;cases s';simp only at h1 h2 h3;subst h1 h2 h3;rfl
   rw[es]at hI;exact⟨.int _,H,hI,⟨_,rfl⟩,q⟩
 .exact h.elim
def ZoU:R2:=fun x y H Q=>match x,y with
 | .int i,.int j=>IntMulOk i j/\Q (.int (i*j)) H
 | .ref a,.int k=>ZvF (.ref a) (.int k) H Q
 | _,_=>False
def Zom:OpR X (binaryOp .Mult) (fun x y H Q=>∃i j,x=.int i/\y=.int j/\IntMulOk i j/\Q (.int (i*j)) H):=by
 intro pins s σ H x y v u Q I rx ry h;obtain⟨i,j,rfl,rfl,hm,q⟩:=h;obtain⟨t,rfl⟩:=rx;obtain⟨t',rfl⟩:=ry;exact PyProof.Rows.mul_int ⟨.int _,H,I.tok _,⟨_,rfl⟩,q⟩ hm
def Zf3:OpR X (binaryOp .Mult) ZoU:=(Zom.or ZqW).imp fun x y H Q q=>by
 unfold ZoU at q
 split at q
 .exact .inl ⟨_,_,rfl,rfl,q.1,q.2⟩
 .exact .inr q
 .exact q.elim
def ZbY(h:ZsP i j):IntMulOk i j:=h.ok
def ZB{α:Type}{P:α->Prop}{a:α}{l:List α}(h:P a)(t:∀p∈l,P p):∀p∈a::l,P p:=fun p hp=>by
 rcases Yn.mp hp with rfl|hp
 .exact h
 .exact t p hp
def ZJ{α:Type}{P:α->Prop}:∀p∈([]:List α),P p:=fun _ z=>nomatch z
def Zal{cl:List (Str×Addr)}(h:(relabel scope env).names=names)(h2:(names.all fun p=>(p.2 != .cell&&p.2 != .free)||(cl.lookup p.1).isSome)=true):
  ∀p∈(relabel scope env).names,p.2=.cell\/p.2=.free->(cl.lookup p.1).isSome=true:=by
 intro p hp hk;rw[h]at hp;have:=YaW.mp h2 p hp;rcases hk with e|e
 .rw[e]at this;simpa using this
 .rw[e]at this;simpa using this
section
def Zuw(K:YFr):R2:=fun x y H Q=>∃l b xs zs,x=.ref l/\y=.ref b/\SqL K H l xs/\SqL K H b zs/\xs.length+zs.length<=sizeLine/\∀p,H p=none->Q (.ref p) (upd H p (.lst (xs++zs)))
def Zog:OpR X (binaryOp .Add) (Zuw X.K):=by
 intro pins s σ H x y v u Q I rx ry h;obtain⟨l,b,xs,zs,rfl,rfl,hH,hB,hz,q⟩:=h;cases rx;cases ry;obtain⟨its,r,pl,z1⟩:=I.list hH;obtain⟨its2,r2,pl2,z2⟩:=I.list hB;have hl:=r.length;have hl2:=r2.length;obtain⟨⟨cls,dd,data,sl⟩,ho,hc,n,hd⟩:=id pl.isList;obtain⟨⟨cls2,dd2,data2,sl2⟩,ho2,hc2,n2,hd2⟩:=id pl2.isList;simp only at hc hd hc2 hd2;subst hc hd hc2 hd2;have e:its.toArray++its2.toArray=(its++its2).toArray:=by simp
 refine YbD ⟨_,ho,rfl⟩ ⟨_,ho2,rfl⟩ noFill_list_add seq_list_add PySem.F.slot_list_add PySem.F.entry_list_add (PySem.F.args_list_add_2 _ _) (PyProof.Rows.list_addW l b its.toArray its2.toArray n n2 dd dd2 sl sl2 (by rw[Yr,Yr];lia)) ⟨ho,ho2,?_⟩;rw[e];exact⟨.ref _,_,I.lnew (t':=s.toks) (r.append r2) (by rw[Ys];lia),rfl,q _ I.fresh⟩
end
def ZiC(hc:X.calm=true)(S:Z9 X scope cl ts frs')(hi:PI X tg iter wi)(hg:∀ pins s H fp,PG (X.comp scope cl (ts++frs'.map (·.1)) pins s H fp) tg g)(ht:∀ pins s H fp,ZlQ (X.comp scope cl (ts++frs'.map (·.1)) pins s H fp) ifs tt)(he:∀ pins s H fp,PE (X.comp scope cl (ts++frs'.map (·.1)) pins s H fp) elt te)(hs:∀ x,foldedSetIterable iter X.env x=pure x)(I:Inv X pins σ H s)(h:Zle ts.length frs' wi g tt te σ H Q)(hfin:∀ (C D:Addr) (H5:Hp) (s6:Shared) (m6:Str->Option Value),Inv X pins σ H5 s6->s6.heap.Ns C m6->Zey X pins H5 C->(∀ h',Heap.SameBut C s6.heap h'->Inv X pins σ H5 { s6 with heap:=h' })->Q (.ref D) H5 ->
   compPost (model X.prog X.w) X.A X.xe use Qv (.ref D) C (.ok .next) s6):
  wpAny (model X.prog X.w) X.A (comprehension (.ListComp elt [⟨tg,iter,ifs,0⟩] scope pos) scope X.env pos0 (newList []) false (eval iter X.env) use) Qv X.xe s:=by
 refine wpAny_comprehension_free (use:=use) (cl:=cl) rfl hs S.clos S.kind S.names (thn (hi pins s σ H _ I h) fun v s1 h1=>thn h1 fun itv s2 h2=>?_);obtain⟨it,fp,tn,J,H2,e,I2,T,st2,f2,q2⟩:=h2;subst e;have fr2:H2 s2.heap.objs.size=none:=I2.hok.fresh (Yj _);obtain⟨W,⟨m0,w0⟩,turn⟩:=q2 _ fr2;refine YO ?_;have hlt2:∀b∈fp,b<s2.heap.objs.size:=fun b hb=>by
  obtain⟨o,e,_⟩:=T.obj _ _ st2 b hb;exact Ym e
 have I3:Inv X pins σ (upd H2 s2.heap.objs.size (.lst [])) { s2 with heap:=s2.heap.push { cls:=.type "list",data:=.seq ([]:List Value).toArray } } :=
  I2.laid (t':=s2.toks) (fun b u e=>Ye _ e) (Yj _) ⟨Y2 _,[],0,.nil,Yl _ rfl⟩
 have f3:∀b∈fp,Zey X pins (upd H2 s2.heap.objs.size (.lst [])) b:=fun b hb=>⟨by rw[Zr (Yo (hlt2 b hb))];exact(f2 b hb).1,(f2 b hb).2⟩;have hk3:∀b o,s2.heap.get? b=some o->(s2.heap.push { cls:=.type "list",data:=.seq ([]:List Value).toArray }).get? b=some o:=fun b o e=>Ye _ e;have hsz3:(s2.heap.push { cls:=.type "list",data:=.seq ([]:List Value).toArray }).objs.size=s2.heap.objs.size+1:=YJ ..;refine wpAny_newFunctionEnv S.nocell (by intro y hy;simp at hy) (fun h₁ hns₁ hsb₁=>?_) S.kind;dsimp only at hns₁ hsb₁ ⊢;generalize hs3:({ s2 with heap:=s2.heap.push { cls:=.type "list",data:=.seq ([]:List Value).toArray } }:Shared)=s3 at I3 hns₁ hsb₁ ⊢;have es3:s3.heap=s2.heap.push { cls:=.type "list",data:=.seq ([]:List Value).toArray }:=by rw[<- hs3]
 have hk4:∀b o,s3.heap.get? b=some o->h₁.get? b=some o:=fun b o e=>by
  have:=hsb₁.2 b (by rw[<- es3];exact Yo (Ym e));rw[<- es3]at this;exact this.trans (Ye _ e)
 have hlt3:∀b∈fp,b<s3.heap.objs.size:=fun b hb=>by
  rw[es3,hsz3];exact Y0 (hlt2 b hb)
 rw[<- es3]at hns₁;have I4:=S.inv I3 f3 hlt3 (tk:=s2.toks+([]:List (Str×Value)).length) hns₁ hk4;have st4:tn 0 h₁:=T.keep _ _ _ st2 fun b hb o e=>hk4 b o (by rw[es3];exact hk3 b o e);have estart:({ s2 with heap:=h₁,toks:=s2.toks+([]:List (Str×Value)).length }:Shared)={ s3 with heap:=h₁,toks:=s2.toks+([]:List (Str×Value)).length }:=by rw[<- hs3]
 rw[estart];have stat:∀ {H':Hp},(∀b∈fp,H' b=none)->∀b∈fp,Zey (X.comp scope cl (ts++frs'.map (·.1)) pins s3 (upd H2 s2.heap.objs.size (.lst [])) fp) [] H' b:=fun hn b hb=>by
  obtain⟨h1,h2,h3,h4,h5,h6⟩:=f3 b hb;refine⟨hn b hb,Yo (hlt3 b hb),fun z=>?_,.inl hb,fun x c e=>h5 x c (S.subL e),fun p hp=>h6 p (by
   have:p∈(X.pn++pins)++[]:=hp;rwa [YN]at this)⟩
  rcases Yn.mp (I3.stkSub _ z)with e'|e'
  .exact h2 e'
  .exact h3 e'
 have loop : codeAny (model X.prog X.w) X.A (.compLoop (.ListComp elt [⟨tg,iter,ifs,0⟩] scope pos) 0 (.ref it) (.ref s2.heap.objs.size) (compEnvC scope cl s3.heap.objs.size X.env))
   (compPost (model X.prog X.w) X.A X.xe use Qv (.ref s2.heap.objs.size) s3.heap.objs.size) { s3 with heap:=h₁,toks:=s2.toks+([]:List (Str×Value)).length }:=by
  refine Zfd (fun n s'=>∃i τ H',Inv (X.comp scope cl (ts++frs'.map (·.1)) pins s3 (upd H2 s2.heap.objs.size (.lst [])) fp) [] τ H' s'/\tn i s'.heap/\(∀b∈fp,H' b=none)/\W i n τ H') ?_ m0
   ⟨0,_,_,I4,st4,fun b hb=>(f3 b hb).1,w0⟩
  rintro n s5 ⟨i,τ,H5,I5,st5,fr5,w5⟩;rcases turn i n τ H5 w5 with⟨stop,qn⟩|⟨go,step⟩
  .refine YG (T.done (X.comp scope cl (ts++frs'.map (·.1)) pins s3 (upd H2 s2.heap.objs.size (.lst [])) fp) rfl rfl rfl hc i [] s5 τ H5 (fun _ _=>False) I5 (stat fr5) st5 stop) (fun r s6 ⟨hr,I6⟩=>?_) fun _ _ z=>z;subst hr;obtain⟨m6,hn6,_⟩:=id I6.loc;have hA:∀h',Heap.SameBut s3.heap.objs.size s6.heap h'->Inv X pins σ H5 { s6 with heap:=h' }:=fun h' hs'=>Z9.after I3 f3 I6 hs';have hC0:=I3.fpOk (b:=s3.heap.objs.size) (Yj _) (I3.hok.fresh (Yj _));exact hfin _ _ H5 s6 m6 (hA s6.heap ⟨rfl,fun _ _=>rfl⟩) hn6 ⟨I6.free,hC0.2⟩ hA qn
  .refine YG (T.item (X.comp scope cl (ts++frs'.map (·.1)) pins s3 (upd H2 s2.heap.objs.size (.lst [])) fp) rfl rfl rfl hc i [] s5 τ H5 (fun _ _=>False) I5 (stat fr5) st5 go) (fun r s6 ⟨u,hr,h6⟩=>?_) fun _ _ z=>z;subst hr;refine thn h6 fun _ s7 h_q=>?_;obtain⟨x,H7,I7,r7,y7,st7,fr7⟩:=h_q;have I7':=I7.pinned (stat fr7) (T.obj _ _ st7);refine thn (hg _ _ _ _ _ s7 τ H7 x u _ I7' r7 (step x H7 y7)) fun _ s8 h_q=>?_;obtain⟨τ8,H8,I8,q8⟩:=h_q;refine thn (ht _ _ _ _ _ s8 τ8 H8 _ I8 q8) fun ok s9 h_q=>?_;obtain⟨H9,I9,q9⟩:=h_q;have again:∀ {m':Nat} {H':Hp} {s':Shared},Inv (X.comp scope cl (ts++frs'.map (·.1)) pins s3 (upd H2 s2.heap.objs.size (.lst [])) fp) ([]++ZdI fp s7.heap) τ8 H' s'->m'<n->W (i+1) m' τ8 H' ->
     ∃m,m<n/\∃i τ H',Inv (X.comp scope cl (ts++frs'.map (·.1)) pins s3 (upd H2 s2.heap.objs.size (.lst [])) fp) [] τ H' s'/\tn i s'.heap/\(∀b∈fp,H' b=none)/\W i m τ H':=fun {m' H' s'} I' hm w'=>by
    refine⟨m',hm,i+1,τ8,H',I'.unpinned,T.keep _ _ _ st7 fun b hb o e=>(I'.pin (b,o) (Yx _ (Yx _ (ZaX hb e)))).1,fun b hb=>?_,w'⟩;obtain⟨o,e,d⟩:=T.obj _ _ st7 b hb;exact(I'.pin (b,o) (Yx _ (Yx _ (ZaX hb e)))).2.1
   cases ok with
   | false =>
    rw[if_neg Yu];rw[if_neg Yu]at q9;obtain⟨m',hm,w'⟩:=q9;exact again I9 hm w'
   | true =>
    rw[if_pos rfl];rw[if_pos rfl]at q9;refine thn (he _ _ _ _ _ s9 τ8 H9 _ I9 q9) fun yv s10 h_q=>?_;obtain⟨y,H10,I10,r10,ys,hl,hz,m',hm,w'⟩:=h_q;refine thn (Zaa _ s10 τ8 H10 (.ref s2.heap.objs.size) [y] (.ref s2.heap.objs.size) [yv] (fun _ H'=>W (i+1) m' τ8 H') I10 rfl (.cons r10 .nil) ⟨_,ys,y,rfl,rfl,hl,hz,w'⟩) fun _ s11 h_q=>?_;obtain⟨_,H11,I11,_,w11⟩:=h_q;exact again I11 hm w11
 have es:(s2.heap.push { cls:=.type "list",data:=.seq ([]:List Value).toArray }).objs.size=s3.heap.objs.size:=by rw[es3]
 rw[es];exact codeAny_compStart_list loop (T.self _ 0 _ _ _ st4 loop)
def Za3(hc:X.calm=true)(S:Z9 X scope cl ts frs')(hi:PI X tg iter wi)(hg:∀pins s H fp,PG (X.comp scope cl (ts++frs'.map (·.1)) pins s H fp) tg g)(ht:∀pins s H fp,ZlQ (X.comp scope cl (ts++frs'.map (·.1)) pins s H fp) ifs tt)(he:∀pins s H fp,PE (X.comp scope cl (ts++frs'.map (·.1)) pins s H fp) elt te)(hs:∀x,foldedSetIterable iter X.env x=pure x:=by intro _;rfl):
  PE X (.ListComp elt [⟨tg,iter,ifs,0⟩] scope pos) (Zle ts.length frs' wi g tt te):=by
 intro pins s σ H Q I h;rw[eval_ListComp];exact ZiC hc S hi hg ht he hs (use:=none) (Qv:=EP X pins σ Q) I h fun C D H5 s6 m6 I6 hn fpc hA q=>⟨m6,hn,fun h' hs'=>⟨.ref D,H5,hA h' hs',rfl,q⟩⟩
def Zek(hN:X.N.Nodup)(hi':X.N[i]? = some y)(hy:Loc X.env.scope y)(hsw:swapsWith (.ListComp elt [⟨tg,iter,ifs,0⟩] scope pos) (some (.Name y py)) spos.line X.env=pure true)(hc:X.calm=true)(S:Z9 X scope cl ts frs')(hi:PI X tg iter wi)(hg:∀pins s H fp,PG (X.comp scope cl (ts++frs'.map (·.1)) pins s H fp) tg g)(ht:∀pins s H fp,ZlQ (X.comp scope cl (ts++frs'.map (·.1)) pins s H fp) ifs tt)(he:∀pins s H fp,PE (X.comp scope cl (ts++frs'.map (·.1)) pins s H fp) elt te)(hs:∀x,foldedSetIterable iter X.env x=pure x:=by intro _;rfl)(hf:X.fn y=true\/X.env.scope.names.lookup y=some .local:=by first|exact .inl rfl|exact .inr rfl|assumption):
  PS X (.Assign [.Name y py] (.ListComp elt [⟨tg,iter,ifs,0⟩] scope pos) spos) (Zqm (Zle ts.length frs' wi g tt te) (ZfG i)):=by
 intro pins s σ H D I h;rw[exec_Assign_Name_used _ _ _ _ hsw];refine Yb (YaF (Yb ?_));show wpAny _ X.A (do let _ <- comprehension (.ListComp elt [⟨tg,iter,ifs,0⟩] scope pos) scope X.env _ (newList []) false (eval iter X.env) (some (assign (.Name y py) X.env))) _ _ s;refine Yb (YG (ZiC hc S hi hg ht he hs (Qv:=fun _ s'=>SP X pins D .next s') (use:=some (assign (.Name y py) X.env)) I h ?_) (fun _ s' hq=>Yd (Yd hq)) fun _ _ e=>e);intro C Da H5 s6 m6 I6 hn6 fpC hA qn;show wpAny _ X.A (assign (.Name y py) X.env (.ref Da)) _ _ _;refine Ybz (Zdo I6 hN hi' hy (v:=.ref Da) rfl (fun s7 I7 ⟨a,sb,ha⟩=>?_) hf);have hCa:C≠a:=by
  obtain⟨_,h2,_,_,h5,_⟩:=fpC;rcases ha with rfl|ha
  .exact h2
  .exact fun e=>h5 _ _ ha e.symm
 refine⟨m6,hn6.sameBut sb hCa,fun h' hs'=>?_⟩;obtain⟨f0,f1,f2,f3,f4,f5⟩:=fpC;exact⟨_,H5,I7.turned (h':=h') (t':=s7.toks) (fun b o hb e=>(hs'.2 b hb).trans e) f0 f1 f3 f4 f5,qn⟩
def ZdY(K:YFr):List V->Hp->VK->Prop:=fun xs H Q=>match xs with
 | [.ref p]=>∃ys,Sq K H p ys/\∀l,H l=none->Q (.ref l) (upd H l (.lst ys))
 | _=>False
def ZmH:Zaj X (.type "list") (ZdY X.K):=ZeZ.imp fun xs H Q q=>by
 unfold ZdY at q
 split at q
 .obtain⟨ys,h1,h2⟩:=q
  exact⟨_,ys,rfl,h1,h2⟩
 .exact q.elim
end L2
namespace MM
def sm(n:Nat)(f:Nat->Int):Int:=((List.range n).map f).sum
abbrev at0(l:List Int)(i:Nat):Int:=l.getD i 0
end MM
namespace MM
def mc:Nat->Nat->Nat
 | _,0=>1
 | 0,_+1=>0
 | m+1,j+1=>mc m (j+1)+mc (m+1) j
def ch:Nat->Nat->Nat
 | _,0=>1
 | 0,_+1=>0
 | n+1,k+1=>ch n k+ch n (k+1)
def hat(l:List Int):Int->Int:=fun z=>if 0<=z then at0 l z.toNat else 0
def part(w:Nat->Int)(s:Nat)(bs:List Int)(m n:Nat):Int:=sm (m+1) fun j=>if j*s<=n then w j*at0 bs (n-j*s)else 0
end MM
namespace L2
open PySem PySem.Spec PyProof.Rows
def Zfr{c A B:Prop}[Decidable c](hc:c)(h:A):if c then A else B:=by rw[if_pos hc];exact h
def ZhM{c A B:Prop}[Decidable c](hc:¬c)(h:B):if c then A else B:=by rw[if_neg hc];exact h
section
def Inv.turnedL{ch:List Addr}(I:Inv X pins σ H s)(hch:∀b∈ch,Zey X pins H b)(k:∀b u,b∉ch->s.heap.get? b=some u->h'.get? b=some u)(hT:s.heap.objs.size<=T)(new:ZaO X.prog X.w (upd H T o) h' T o):Inv X pins σ (upd H T o) { s with heap:=h',toks:=t' }:=by
 have hn:H T=none:=I.hok.fresh hT;have nT:∀b u,s.heap.get? b=some u->b≠T:=fun b u e=>Yo (YI (Ym e) hT);have nch:∀b u,H b=some u->b∉ch:=fun b u e z=>by rw[(hch b z).1]at e;cases e
 refine I.step (g':=s.gens) (d':=s.drawn) (ch:=ch) (fun b hb=>?_) (fun b u _ _ hc e _=>k b u hc e) (fun b u _ _ hc e _=>⟨u.slots,k b u hc e⟩) (fun b u _ e n=>by rw[Zr (nT b u e)];exact n)
  (fun b u hc e=>⟨u,k b u hc e⟩) (fun b xs e=>by rw[Zr (Z8 e hn)];exact e) (fun b u v e=>by rw[Zr (Z8 e hn)];exact e) (fun b ps e=>⟨#[],by rw[Zr (Z8 e hn),e];simp⟩) (fun m hm=>?_) (fun b u e=>?_) I.bare
 .obtain⟨h0,h1,h2,h3,h4,h5⟩:=hch b hb;exact⟨h3,h1,h4,h5⟩
 .obtain⟨ob,es,ep,ho,r⟩:=hm;exact⟨ob,es,ep,k _ ob (fun z=>(hch _ z).2.1 rfl) ho,r⟩
 .by_cases hb:b=T
  .subst hb;rw[Zv]at e;cases e;exact new
  .rw[Zr hb]at e;refine(I.hok b u e).stay (fun c v hc q=>k c v ?_ q) (fun c q=>by rw[Zr (Z8 q hn)];exact q) fun c xs q=>by rw[Zr (Z8 q hn)];exact q
   rcases hc with z|z
   .rw[z];exact nch b u e
   .exact nch c _ z
def Inv.turnedM{ch:List Addr}(I:Inv X pins σ H s)(hch:∀b∈ch,Zey X pins H b)(k:∀b u,b∉ch->s.heap.get? b=some u->h'.get? b=some u):Inv X pins σ H { s with heap:=h',toks:=t' }:=by
 have nch:∀b u,H b=some u->b∉ch:=fun b u e z=>by rw[(hch b z).1]at e;cases e
 refine I.step (g':=s.gens) (d':=s.drawn) (ch:=ch) (fun b hb=>?_) (fun b u _ _ hc e _=>k b u hc e) (fun b u _ _ hc e _=>⟨u.slots,k b u hc e⟩) (fun _ _ _ _ n=>n)
  (fun b u hc e=>⟨u,k b u hc e⟩) (fun _ _ e=>e) (fun _ _ _ e=>e) (fun b ps e=>⟨#[],by rw[e];simp⟩) (fun m hm=>?_) (fun b u e=>?_) I.bare
 .obtain⟨h0,h1,h2,h3,h4,h5⟩:=hch b hb;exact⟨h3,h1,h4,h5⟩
 .obtain⟨ob,es,ep,ho,r⟩:=hm;exact⟨ob,es,ep,k _ ob (fun z=>(hch _ z).2.1 rfl) ho,r⟩
 .refine(I.hok b u e).stay (fun c v hc q=>k c v ?_ q) (fun _ q=>q) fun _ _ q=>q;rcases hc with z|z
  .rw[z];exact nch b u e
  .exact nch c _ z
end
def Ite(K:YFr)(a:Addr):It :=
 ⟨fun i H=>∃xs x,SqL K H a xs/\xs[i]? = some x,
  fun i H v H'=>∃T x,v=.ref T/\H T=none/\H'=upd H T (.tup [.int i,x])/\(∀xs,SqL K H a xs->xs[i]? = some x),
  fun i H=>∃xs,SqL K H a xs/\xs.length<=i⟩
def Ziz{K:YFr}(hne:e≠it):Zkc P w K (.Tuple elts k0 pos) (Ite K l) [e,it] e
  (fun i h=>(∃old,IsEnum h e it i old)/\h.IsListIter it l i) where
 mem:=by simp
 obj := fun i h st b hb=>by
  obtain⟨⟨old,he⟩,h1⟩:=st
  simp only[Yn,YM,Yan]at hb
  rcases hb with rfl|rfl
  .exact⟨_,he,fun v q=>nomatch q⟩
  .obtain⟨o,e,c,d⟩:=h1
   exact⟨o,e,fun v q=>by rw[d]at q;cases q⟩
 keep:=fun i h h' st k=>by
  obtain⟨⟨old,he⟩,h1⟩:=st
  exact⟨⟨old,k e (by simp) _ he⟩,h1.at fun o q=>k it (by simp) o q⟩
 item := by
  intro X hP hw hK hc i pins s σ H E I hf st hg;subst hP hw hK;obtain⟨⟨old,he⟩,h1⟩:=st;obtain⟨xs,x,hx,hxi⟩:=hg;obtain⟨its,rv,p,_⟩:=I.list hx;obtain⟨u,hu,ru⟩:=rv.get hxi;refine wpAny_pyNext_enum_item he h1 p.isList (x:=u) (by simpa using hu) hne fun h' a1 a2 a3 a4 hk=>⟨_,rfl,Yby a1 fun h'' he' sb=>?_⟩;have nz:s.heap.objs.size≠e:=Yay (Ym he);have hT':IsTup h'' s.heap.objs.size [Value.int i s.toks,u].toArray:=⟨_,sb.extBut _ _ nz a3,rfl,_,rfl⟩;have I':Inv X pins σ (upd H s.heap.objs.size (.tup [.int i,x])) { s with heap:=h'',toks:=s.toks+1 }:=I.turnedL (ch:=[e,it]) hf (fun b o hb q=>by
   simp only[Yn,YM,Yan,not_or]at hb;exact sb.extBut _ _ hb.1 (hk b o hb.1 hb.2 q)) (Yj _) ⟨by show 2<=sizeLine;decide,[Value.int i s.toks,u],.cons ⟨_,rfl⟩ (.cons ru .nil),hT'⟩
  have hn:H s.heap.objs.size=none:=I.hok.fresh (Yj _);refine⟨.ref s.heap.objs.size,_,I',rfl,⟨_,x,rfl,hn,rfl,fun zs hzs=>by rw[I.list_inj hzs hx];exact hxi⟩,⟨⟨_,by push_cast;exact he'⟩,a2.extBut sb.extBut (Ne.symm hne)⟩,fun b hb=>?_⟩;have hfb:=(hf b hb).1;have : b≠s.heap.objs.size:=by
   obtain⟨o,q⟩:∃o,s.heap.get? b=some o:=by
    simp only[Yn,YM,Yan]at hb;rcases hb with rfl|rfl
    .exact⟨_,he⟩
    .obtain⟨o,q,_⟩:=h1;exact⟨o,q⟩
   exact Yo (Ym q)
  rw[Zr this];exact hfb
 done := by
  intro X hP hw hK hc i pins s σ H E I hf st hg;subst hP hw hK;obtain⟨⟨old,he⟩,h1⟩:=st;obtain⟨xs,hx,hend⟩:=hg;obtain⟨its,rv,p,_⟩:=I.list hx;have hl:=rv.length;exact wpAny_pyNext_enum_end (I.ok.hd hc) he h1 p.isList (by simp;lia) fun h' hk=>⟨rfl,I.turnedM (t':=s.toks) (ch:=[e,it]) hf (fun b o hb q=>by
   simp only[Yn,YM,Yan,not_or]at hb;exact hk b o hb.2 q)⟩
 self:=fun _ _ _ _ _ st h=>by
  obtain⟨⟨old,he⟩,h1⟩:=st;exact Ybj he h
def Zoz(K:YFr):List V->Hp->(It->Hp->Prop)->Prop:=fun vs H R=>match vs with
 | [.ref a]=>(∃xs,SqL K H a xs)/\R (Ite K a) H
 | _=>False
def Zlv(u:List V->Hp->(It->Hp->Prop)->Prop)(ta:TA):TI:=fun σ H R=>ta σ H fun vs H1=>u vs H1 R
def Zdt:bootBuiltins "enumerate"=some (.type "enumerate"):=by decide +kernel
def Zcs(K:YFr)(hK:X.K=K)(n:Nat)(hc:X.calm=true)(h:PGs X es t)(hn:(assignEach es X.env).length=n)(hst:(assignEach es X.env).findIdx? (·.1)=none):PG X (.Tuple es k pos) (Zsw K n t):=by
 subst hK;exact ZbL hc h hn hst
def g2{K:YFr}(h:SqT K H T [x,y])(q:Q (some x::some y::fr) H):Zsw K 2 (Zkz (ZfG 0) (Zkz (ZfG 1) ZuX)) (.ref T) (k0::k1::fr) H Q :=
 ⟨T,_,rfl,h,rfl,_,_,rfl,_,_,rfl,rfl,q⟩
theorem ZbR(ns:List Int):∀k i,i<=k->MM.at0 ns (argBest (fun i j=>decide (MM.at0 ns i<MM.at0 ns j)) k)<=MM.at0 ns i
 | 0, i,h=>by
  have:i=0:=by lia
  subst this
  exact Int.le_refl _
 | k+1, i,h=>by
  rw[argBest]
  have ih:=ZbR ns k
  split
  .rename_i hb
   have hb:=Yak hb
   by_cases e:i=k+1
   .rw[e];exact Int.le_refl _
   .have:=ih i (by lia)
    lia
  .rename_i hb
   have hb:¬(MM.at0 ns (k+1)<MM.at0 ns (argBest (fun i j=>decide (MM.at0 ns i<MM.at0 ns j)) k)):=fun z=>hb (YC z)
   by_cases e:i=k+1
   .rw[e];lia
   .exact ih i (by lia)
def ZjP(h:i<ns.length):MM.at0 ns i∈ns:=by
 unfold MM.at0;rw[YX,Yg h];exact YaX h
def ZhX(h:x∈ns):∃i,i<ns.length/\MM.at0 ns i=x:=by
 obtain⟨i,hi,e⟩:=Yam.mp h;refine⟨i,hi,?_⟩;unfold MM.at0;rw[YX,Yg hi];exact e
def ZbD(rv:Z6 (ns.map V.int) its){v:Value}(h:its.toArray[i]? = some v):i<ns.length/\∃t,v=.int (MM.at0 ns i) t:=by
 have hv':its[i]? = some v:=by simpa using h
 have hlen:=rv.length;have hi:i<ns.length:=by
  have:=(Yh.mp hv').1;rw[Yc]at hlen;lia
 refine⟨hi,?_⟩;have e:(ns.map V.int)[i]? = some (.int (MM.at0 ns i)):=by
  rw[Yi,Yg hi];unfold MM.at0;rw[YX,Yg hi];rfl
 obtain⟨u,hu,ru⟩:=rv.get e;rw[hv']at hu;cases hu;exact ru
section
def ZnN(K:YFr):List V->Hp->VK->Prop:=fun xs H Q=>match xs with
 | [.int i,.int j]=>Q (.int (min i j)) H
 | [.ref p]=>∃ns:List Int,SqL K H p (ns.map V.int)/\1<=ns.length/\∀m,m∈ns->(∀x∈ns,m<=x)->Q (.int m) H
 | _=>False
def ZpL(hc:X.calm=true):Zaj X (.builtin "min") (fun xs H Q=>∃(p:Addr)(ns:List Int),xs=[.ref p]/\SqL X.K H p (ns.map V.int)/\1<=ns.length/\∀m,m∈ns->(∀x∈ns,m<=x)->Q (.int m) H):=by
 intro pins s σ H xs us Q I r h;obtain⟨p,ns,rfl,hl,h1,q⟩:=h;obtain⟨u,rfl,ru⟩:=r.one;cases ru;obtain⟨its,rv,pl,hz⟩:=I.list hl;have hlen:its.toArray.size=ns.length:=by have:=rv.length;simp at this;simp;lia
 have hp:p<s.heap.objs.size:=by obtain⟨o,n,e,_⟩:=pl;exact Ym e
 refine call_min_walk (YaS pl.isList ?_);refine⟨s.heap.objs.size,_,_,_,_,_,fun i j=>decide (MM.at0 ns i<MM.at0 ns j),rfl,YbB (show X.A.in1.handled=none from I.ok.hd hc) s.heap.objs.size p (Yo hp) its.toArray,⟨⟨_,Yl _ rfl,rfl,rfl⟩,pl.isList.at fun o e=>Ye _ e⟩,?_,by rw[hlen];exact h1,?_,?_⟩
 .intro b hb;rw[YJ];rcases Yn.mp hb with rfl|hb
  .exact Yaj _
  .have:b=p:=by simpa using hb
   subst this;exact Y0 hp
 .intro i j vi vj s' Q' E' hi hj hq;obtain⟨_,t,rfl⟩:=ZbD rv hi;obtain⟨_,t',rfl⟩:=ZbD rv hj;exact HT.rcLt_int _ _ _ _ _ _ _ _ _ _ hq
 .intro v h' tk hv hk;obtain⟨hi,t,rfl⟩:=ZbD rv hv;rw[hlen]at hi ⊢;refine⟨.int _,H,I.kept (t':=tk) fun b o e=>hk b o (by simp;exact Yo (Ym e)) (Ye _ e),⟨_,rfl⟩,q _ (ZjP hi) fun x hx=>?_⟩;obtain⟨j,hj,rfl⟩:=ZhX hx;exact ZbR ns (ns.length-1) j (by lia)
def ZrB(hc:X.calm=true):Zaj X (.builtin "min") (ZnN X.K):=((ZuI hc).or (ZpL hc)).imp fun xs H Q q=>by
 unfold ZnN at q
 split at q
 .exact .inl q
 .obtain⟨ns,h1,h2,h3⟩:=q
  exact .inr ⟨_,ns,rfl,h1,h2,h3⟩
 .exact q.elim
end
section
def Zln{ws:List Value}(ht:IsTup s.heap t #[])(hb:IsTup s.heap b ws.toArray)(h:Q (.ref b) s):wpAny (model prog w) A (binaryOp .Add (.ref t) (.ref b)) Q E s:=by
 obtain⟨⟨c1,d1,x1,l1⟩,g1,k1,n1,z1⟩:=id ht;obtain⟨⟨c2,d2,x2,l2⟩,g2,k2,n2,z2⟩:=id hb;simp only at k1 z1 k2 z2;subst k1 z1 k2 z2;exact YbD ⟨_,g1,rfl⟩ ⟨_,g2,rfl⟩ PySem.noFill_tuple_add PySem.seq_tuple_add Ybl Ybi (Ybe _ _) (tuple_addW0 t b #[] ws.toArray n1 n2 d1 d2 l1 l2 rfl) ⟨g1,g2,h⟩
end
section
def ZuH(K:YFr):R2:=fun x y H Q=>∃a b xs ys,x=.ref a/\y=.ref b/\SqT K H a xs/\SqT K H b ys/\xs.length+ys.length<=sizeLine/\∀p H',Zat H H'->SqT K H' p (xs++ys)->Q (.ref p) H'
def Zol:OpR X (binaryOp .Add) (ZuH X.K):=by
 intro pins s σ H x y v u Q I rx ry h;obtain⟨a,b,xs,ys,rfl,rfl,ha,hb,hz,q⟩:=h;by_cases hx:xs=[]
 .subst hx;cases rx;cases ry;obtain⟨its,r1,p1,_⟩:=I.tuple ha;obtain⟨its2,r2,p2,_⟩:=I.tuple hb;cases r1;exact Zln p1 p2 ⟨.ref b,H,I,rfl,q b H (Zat.refl _) hb⟩
 .refine ZnH pins s σ H (.ref a) (.ref b) v u Q I rx ry ⟨a,b,xs,ys,rfl,rfl,ha,hb,hx,hz,fun e=>?_,fun _ p hp=>q p _ (Zat.upd_new hp) (SqT.of Zv)⟩
  .subst e;exact q a H (Zat.refl _) (by rw[YN];exact ha)
def Zwg(K:YFr):V->Option Int->Option Int->Hp->VK->Prop:=fun x lo hi H Q=>∃a xs,x=.ref a/\SqT K H a xs/\∀p H',Zat H H'->SqT K H' p (Zg7 xs lo hi)->Q (.ref p) H'
end
section
def ZjR{lo hi:Option Int}(ht:IsTup s.heap t items)(hs:s.heap.IsSliceOf sl vl vu .none)(pl:IsPart vl lo)(pu:IsPart vu hi)(h1:HT.sIx items.size 0 lo=0)(h2:HT.sIx items.size items.size hi=items.size)(h:Q (.ref t) s):wpAny (model prog w) A (getItem (.ref t) (.ref sl)) Q E s:=by
 obtain⟨ob,g1,g2,g3⟩:=id hs;have hT:s.TypeIs (.ref sl) "slice":=⟨ob,g1,g2⟩;unfold getItem;try with_reducible refine YT ?_
 first|refine Yb (Yd ?_)|skip
 refine Yb (Ycf ht.typeIs (by decide) ?_);have key:wpAny (model prog w) A.in1 (Builtin.«tuple.__getitem__» ⟨[.ref t,.ref sl],[]⟩) (fun fin s'=>∃v,fin=.done (.ret v)/\Q v s') E s:=by
  show wpAny _ _ (Builtin.Tuple.tupleItemsOf (.ref t)>>=_) _ _ s;refine Yb (PyProof.Rows.tupleItemsOf_ ht (Yb (Ya3 hT ?_)));rw[if_pos (by decide)];refine Yb (HT.sliceApplied_gen hs pl pu ?_);rw[h1,h2];show wpAny _ _ (if((((0:Nat):Int)==0&&(1:Int)==1&&(items.size-0)==items.size))=true then _ else _) _ _ s;rw[if_pos (by simp)];refine Yb (Yb (Ya3 ht.typeIs (Yd ?_)));rw[if_pos (by decide)];exact Yb (Ya7 (Yd ⟨_,rfl,h⟩))
 exact Yb (Y4 (name:=Str.ofString "__getitem__") ht.typeIs Yag (YY Yag ht.typeIs PyProof.Rows.entry_tuple_getitem (YG key (fun fin s' ⟨v,e,q⟩=>⟨v,e,Yd q⟩) fun _ _ z=>z) (PyProof.Rows.args_tuple_getitem _ _)))
end
section
def ZhC{lo hi:Option Int}(h1:HT.sIx xs.length 0 lo=0)(h2:HT.sIx xs.length xs.length hi=xs.length):Zg7 xs lo hi=xs:=by
 unfold Zg7;rw[h1,h2,Ybq,Nat.sub_zero,YZ]
def Znq:SlR X (Zwg X.K):=by
 intro pins s σ H x v vl vu lo hi sl Q I rx hs pl pu h;obtain⟨a,xs,rfl,hx,q⟩:=h;by_cases hw:HT.sIx xs.length 0 lo=0/\HT.sIx xs.length xs.length hi=xs.length
 .cases rx;obtain⟨its,r,ht,hz⟩:=I.tuple hx;have hlen:its.toArray.size=xs.length:=by rw[Yr];exact r.length.symm
  refine⟨"tuple",_,Yag.lookup,ht.typeIs,ZjR ht hs pl pu (by rw[hlen];exact hw.1) (by rw[hlen];exact hw.2) ⟨.ref a,H,I,rfl,q a H (Zat.refl _) ?_⟩⟩;rw[ZhC hw.1 hw.2];exact hx
 .exact Zqc pins s σ H (.ref a) v vl vu lo hi sl Q I rx hs pl pu ⟨a,xs,rfl,hx,hw,fun p hp=>q p _ (Zat.upd_new hp) (SqT.of Zv)⟩
def ZlC(K:YFr):R2:=fun x y H Q=>match x,y with
 | .int i,.int j=>Q (.int (i+j)) H
 | .str i,.str j=>i.length+j.length<=sizeLine/\Q (.str (i++j)) H
 | .ref a,.ref b=>(∃xs zs,SqL K H a xs/\SqL K H b zs/\xs.length+zs.length<=sizeLine/\∀p,H p=none->Q (.ref p) (upd H p (.lst (xs++zs)))) \/
   (∃xs zs,SqT K H a xs/\SqT K H b zs/\xs.length+zs.length<=sizeLine/\∀p H',Zat H H'->SqT K H' p (xs++zs)->Q (.ref p) H')
 | _,_=>False
def Zbf:OpR X (binaryOp .Add) (ZlC X.K):=((Zsr.or Zhp).or (Zog.or Zol)).imp fun x y H Q q=>by
 unfold ZlC at q
 split at q
 .exact .inl (.inl ⟨_,_,rfl,rfl,q⟩)
 .exact .inl (.inr ⟨_,_,rfl,rfl,q.1,q.2⟩)
 .rcases q with⟨xs,zs,h1,h2,h3,h4⟩|⟨xs,zs,h1,h2,h3,h4⟩
  .exact .inr (.inl ⟨_,_,xs,zs,rfl,rfl,h1,h2,h3,h4⟩)
  .exact .inr (.inr ⟨_,_,xs,zs,rfl,rfl,h1,h2,h3,h4⟩)
 .exact q.elim
def ZqA(K:YFr)(h:X.K=K):OpR X (binaryOp .Add) (ZlC K):=h▸Zbf
def ZsK(K:YFr):V->Option Int->Option Int->Hp->VK->Prop:=fun x lo hi H Q=>match x with
 | .str z=>z.length<=sizeLine/\Q (.str (Zpd z lo hi)) H
 | .ref a=>(∃xs,SqL K H a xs/\∀p,H p=none->Q (.ref p) (upd H p (.lst (Zg7 xs lo hi))))\/(∃xs,SqT K H a xs/\∀p H',Zat H H'->SqT K H' p (Zg7 xs lo hi)->Q (.ref p) H')
 | _=>False
def Zhj:SlR X (ZsK X.K):=by
 intro pins s σ H x v vl vu lo hi sl Q I rx hs pl pu q;unfold ZsK at q;split at q
 .exact Zrw pins s σ H _ v vl vu lo hi sl Q I rx hs pl pu ⟨_,rfl,q.1,q.2⟩
 .rcases q with⟨xs,h1,h2⟩|⟨xs,h1,h2⟩
  .exact ZmS pins s σ H _ v vl vu lo hi sl Q I rx hs pl pu ⟨_,xs,rfl,h1,h2⟩
  .exact Znq pins s σ H _ v vl vu lo hi sl Q I rx hs pl pu ⟨_,xs,rfl,h1,h2⟩
 .exact q.elim
end
section
open PySem.AutoSeq1 (wpAny_loadPart')
def Ze9(t:Addr)(items:Array Value)(n:Nat)(dd:Option Addr)(sl:Array (Option Value)):
  Meets (Builtin.«enumerate.__new__» ⟨[.type "enumerate",.ref t],[]⟩) (fun _ R s=>s.heap.get? t=some { cls:=.type "tuple",dict:=dd,data:=.seq items n,slots:=sl } /\
   R (.ok (.ret (.ref (s.heap.push { cls:=.type "tuple_iterator",data:=.fields #[.ref t,.int 0 0] }).objs.size)))
    { s with heap:=(s.heap.push { cls:=.type "tuple_iterator",data:=.fields #[.ref t,.int 0 0] }).push { cls:=.type "enumerate",data:=.fields #[.none,.bool false,.ref s.heap.objs.size,rawInt 0,.none,.none] } }) :=
 .of_wp fun prog w A R s hq0=>by
  obtain⟨g1,g2⟩:=hq0
  obtain⟨hp,ge,dr,tk,os⟩:=s
  have es:=sub_enumerate
  have hL:Heap.IsTuple (Shared.heap ⟨hp,ge,dr,tk,os⟩) t items:=⟨_,g1,rfl,n,rfl⟩
  wp_walk using YaE g1
  refine wpAny_stack_any fun st=>Yd ?_
  split
  .rename_i cc _ _ _ _ _
   cases(cc==Value.type "enumerate")<;>(wp_walk using YaE g1,Ybw hL;exact⟨_,rfl,g2⟩)
  .wp_walk using YaE g1,Ybw hL
   exact⟨_,rfl,g2⟩
end
section
def Zeg(ht:s.heap.IsTuple t items)(h:∀h',IsEnum h' (s.heap.objs.size+1) s.heap.objs.size 0 .none->h'.IsTupleIter s.heap.objs.size t 0->(∀b o,s.heap.get? b=some o->h'.get? b=some o)->Q (.ref (s.heap.objs.size+1)) { s with heap:=h' }):
  wpAny (model prog w) A (call (.type "enumerate") [.ref t]) Q E s:=by
 obtain⟨⟨c,dd,dt,sl⟩,g1,k1,n,k2⟩:=ht;simp only at k1 k2;subst k1 k2;have e1:(s.heap.push { cls:=.type "tuple_iterator",data:=.fields #[.ref t,.int 0 0] }).objs.size=s.heap.objs.size+1:=YJ ..;have e2:IsEnum ((s.heap.push { cls:=.type "tuple_iterator",data:=.fields #[.ref t,.int 0 0] }).push { cls:=.type "enumerate",data:=.fields #[.none,.bool false,.ref s.heap.objs.size,rawInt 0,.none,.none] }) (s.heap.objs.size+1) s.heap.objs.size 0 .none:=by
  rw[<- e1];exact Yl _ rfl
 refine callType_new F.called_enumerate (by decide) (F.typeCall_enumerate_1 _) (F.newCall_enumerate_1 _) (fun ob=>F.args_object_init_2 ob _) F.entry_enumerate_new (Ze9 t items n dd sl) ⟨g1,?_⟩;show _/\_;rw[e1];exact⟨⟨_,e2,rfl⟩,h _ e2 ⟨_,Ye _ (Yl _ rfl),rfl,rfl⟩ fun b o z=>Ye _ (Ye _ z)⟩
def Zed(st:s.heap.IsTupleIter it t i)(ht:s.heap.IsTuple t items)(hx:items[i]? = some x)(hQ:∀h',h'.IsTupleIter it t (i+1)->Heap.SameBut it s.heap h'->Q x { s with heap:=h' }):wpAny (model prog w) A (Builtin.SmallTypes.nextOf (.ref it)) Q E s:=by
 obtain⟨ob,g1,g2,g3⟩:=id st;obtain⟨ol,k1,k2,n,k3⟩:=ht;have no:¬((Value.ref t==Value.none)=true):=Yu;unfold Builtin.SmallTypes.nextOf;refine Yb (Y4 (name:=Str.ofString "__next__") st.typeIs YaP (YY YaP st.typeIs Ybu (show wpAny _ _ (field (.ref it) 0>>=_) _ _ s from Yb (Y9 g1 g3 (x:=.ref t) rfl (show wpAny _ _ (if(Value.ref t==Value.none)=true then _ else _) _ _ s from ?_))) (Ybr _)));rw[if_neg no];refine(show wpAny _ _ (field (.ref it) 1>>=_) _ _ s from Yb (Y9 g1 g3 (x:=.int i 0) rfl (show wpAny _ _ (seqItems? (.ref t)>>=_) _ _ s from Yb (Ya4 k1 k3 ?_))));simp only[hx,Int.toNat_natCast];refine Yb (wpAny_setField g1 g3 (by simp) (Yd ⟨x,rfl,Yd (hQ _ ⟨_,YD _ g1 (Obj.isFreed_of_fields (YV g3 _)),(Obj.cls_mapFields ..).trans g2,?_⟩ (Yac ..))⟩));rw[YV g3];simp[rawInt]
def Zik{i:Nat}{T1:Heap->Prop}(he:IsEnum s.heap e it i old)(hne:e≠it)(hk:∀ h h',T1 h->(∀ o,h.get? it=some o->h'.get? it=some o)->T1 h')(hn:∀ (A':Around) (E':Value->Shared->Prop) (Q':Value->Shared->Prop),(∀ h',T1 h'->Heap.SameBut it s.heap h'->Q' x { s with heap:=h' })->wpAny (model prog w) A' (Builtin.SmallTypes.nextOf (.ref it)) Q' E' s)(hQ : ∀ h',IsEnumOut h' e it ((i:Int) + 1) x s.heap.objs.size->T1 h'->h'.get? s.heap.objs.size=some { cls:=.type "tuple",data:=.seq #[.int i s.toks,x] } ->
   (∀b o,b≠e->b≠it->s.heap.get? b=some o->h'.get? b=some o)->Q (some (.ref s.heap.objs.size)) { s with heap:=h',toks:=s.toks+1 }):
  wpAny (model prog w) A (pyNext (.ref e)) Q E s:=by
 have hT:s.TypeIs (.ref e) "enumerate":=⟨_,he,rfl⟩;have lt:e<s.heap.objs.size:=Ym he;have core:wpAny (model prog w) A.in1 (Builtin.«enumerate.__next__» ⟨[.ref e],[]⟩) (fun fin s'=>∃v,fin=.done (.ret v)/\wpAny (model prog w) A (pure (some v)) Q E s') (fun _ _=>False) s:=by
  obtain⟨hp,ge,dr,tk,os⟩:=s;refine(show wpAny _ _ (field (.ref e) 2>>=_) _ _ _ from Yb (Y9 he rfl (x:=.ref it) rfl (Yb (hn _ _ _ fun h1 t1 b1=>?_))));have b1:Heap.SameBut it hp h1:=b1;have g1:IsEnum h1 e it i old:=(b1.2 e hne).trans he;refine(show wpAny _ _ (field (.ref e) 3>>=_) _ _ ⟨h1,ge,dr,tk,os⟩from Yb (Y9 g1 rfl (x:=rawInt i) rfl (show wpAny _ _ (field (.ref e) 4>>=_) _ _ ⟨h1,ge,dr,tk,os⟩from Yb (Y9 g1 rfl (x:=.none) rfl (show wpAny _ _ (mkInt i>>=_) _ _ ⟨h1,ge,dr,tk,os⟩from Yb (wpAny_mkInt (show wpAny _ _ (setField (.ref e) 3 (rawInt ((i:Int)+1))>>=_) _ _ ⟨h1,ge,dr,tk+1,os⟩from Yb (Ya0 g1 (by simp) fun h2 g2 b2=>?_))))))));have b2:Heap.SameBut e h1 h2:=b2;have g2:IsEnum h2 e it ((i:Int)+1) old:=g2;refine(show wpAny _ _ (setField (.ref e) 4 .none>>=_) _ _ ⟨h2,ge,dr,tk+1,os⟩from Yb (Ya0 g2 (by simp) fun h3 g3 b3=>?_));have b3:Heap.SameBut e h2 h3:=b3;have g3:IsEnum h3 e it ((i:Int)+1) old:=g3;have z3:h3.objs.size=hp.objs.size:=by rw[b3.1,b2.1,b1.1]
  refine(show wpAny _ _ (newTuple [.int i tk,x]>>=_) _ _ ⟨h3,ge,dr,tk+1,os⟩from Yb (wpAny_newTuple ?_));have g4:IsEnum (h3.push { cls:=.type "tuple",data:=.seq #[.int i tk,x] }) e it ((i:Int)+1) old:=Ye _ g3;have u4:(h3.push { cls:=.type "tuple",data:=.seq #[.int i tk,x] }).get? hp.objs.size=some { cls:=.type "tuple",data:=.seq #[.int i tk,x] }:=by
   rw[<- z3];exact Yl _ rfl
  have v4:∀b o,b≠e->b≠it->hp.get? b=some o->(h3.push { cls:=.type "tuple",data:=.seq #[.int i tk,x] }).get? b=some o:=fun b o q1 q2 q3=>Ye _ (b3.extBut b o q1 (b2.extBut b o q1 (b1.extBut b o q2 q3)));have w4:T1 (h3.push { cls:=.type "tuple",data:=.seq #[.int i tk,x] }):=hk h1 _ t1 fun o q=>Ye _ (b3.extBut it o (Ne.symm hne) (b2.extBut it o (Ne.symm hne) q));generalize h3.push { cls:=.type "tuple",data:=.seq #[.int i tk,x] }=h4 at g4 u4 v4 w4 ⊢;rw[z3];refine(show wpAny _ _ (Builtin.SmallTypes.ownedTupleIsFree (.ref e)>>=_) _ _ ⟨h4,ge,dr,tk+1,os⟩from Yb ?_);unfold Builtin.SmallTypes.ownedTupleIsFree;refine Yb (Y9 g4 rfl (x:=.none) rfl (Yd ?_));simp only[if_true];refine Yb (Ya7 (Yb (Y9 g4 rfl (x:=old) rfl (Yb (Ya0 g4 (by simp) fun h5 g5 b5=>?_)))));have b5:Heap.SameBut e h4 h5:=b5;have g5:IsEnum h5 e it ((i:Int)+1) x:=g5;refine(show wpAny _ _ (Builtin.SmallTypes.ownedTupleHandOut (.ref e) (.ref hp.objs.size)>>=_) _ _ ⟨h5,ge,dr,tk+1,os⟩from Yb ?_);unfold Builtin.SmallTypes.ownedTupleHandOut;refine Yb (Ya0 g5 (by simp) fun h6 g6 b6=>?_);have b6:Heap.SameBut e h5 h6:=b6;have g6:IsEnumOut h6 e it ((i:Int)+1) x hp.objs.size:=g6;refine Ya0 g6 (by simp) fun h7 g7 b7=>?_;have b7:Heap.SameBut e h6 h7:=b7;have g7:IsEnumOut h7 e it ((i:Int)+1) x hp.objs.size:=g7;have on:∀b o,b≠e->h4.get? b=some o->h7.get? b=some o:=fun b o q1 q2=>b7.extBut b o q1 (b6.extBut b o q1 (b5.extBut b o q1 q2));exact Yb (Yba (Yd ⟨_,rfl,Yd (hQ h7 g7 (hk h4 h7 w4 fun o q=>on it o (Ne.symm hne) q) (on _ _ (Yay lt) u4) fun b o q1 q2 q3=>on b o q1 (v4 b o q1 q2 q3))⟩))
 unfold pyNext;exact Yb (YaQ (Y4 (name:=Str.ofString "__next__") hT Ya5 (YY Ya5 hT YbR (YG core (fun fin s' ⟨v,q1,q2⟩=>⟨v,q1,q2⟩) fun _ _ z=>z.elim) (YbJ _))))
end
section
def Zfh(hh:A.handled=none)(st:s.heap.IsTupleIter it t i)(ht:s.heap.IsTuple t items)(hx:items[i]? = none)(hE:∀h' e,Heap.ExtBut it s.heap h'->(∃o,h'.get? e=some o/\o.cls=.type "StopIteration")->E (.ref e) { s with heap:=h' }):wpAny (model prog w) A (Builtin.SmallTypes.nextOf (.ref it)) Q E s:=by
 obtain⟨ob,g1,g2,g3⟩:=id st;obtain⟨ol,k1,k2,n,k3⟩:=ht;have no:¬((Value.ref t==Value.none)=true):=Yu;unfold Builtin.SmallTypes.nextOf;refine Yb (Y4 (name:=Str.ofString "__next__") st.typeIs YaP (YY YaP st.typeIs Ybu (show wpAny _ _ (field (.ref it) 0>>=_) _ _ s from Yb (Y9 g1 g3 (x:=.ref t) rfl (show wpAny _ _ (if(Value.ref t==Value.none)=true then _ else _) _ _ s from ?_))) (Ybr _)));rw[if_neg no];refine(show wpAny _ _ (field (.ref it) 1>>=_) _ _ s from Yb (Y9 g1 g3 (x:=.int i 0) rfl (show wpAny _ _ (seqItems? (.ref t)>>=_) _ _ s from Yb (Ya4 k1 k3 ?_))));simp only[hx,Int.toNat_natCast];refine Yb (Ya7 (Yb (wpAny_setField g1 g3 (by simp) (show wpAny _ _ (newExc (.type "StopIteration") []>>=_) _ _ _ from Yb ?_))));simp only[newTuple,newExc];refine Yb (YO (Yb (m:=firstArgMember _ _) (Ybt (a:=Value.none) (by first|rfl|(simp only[firstArgMember];rfl)) (YO ?_ (by size_fits)))) (by size_fits));simp only[raiseNew];refine Yb (wpAny_handled ?_);first|rw[hh]|rw[show A.in1.handled=none from hh]
 exact Yb (Yd (wpAny_throw (hE _ _ (((Yac ..).extBut.push _).push _) ⟨_,Yl _ rfl,rfl⟩)))
def ZkF(he:IsEnum s.heap e it i old)(hn:∀(E':Value->Shared->Prop)(Q':Value->Shared->Prop),(∀h' x,Heap.ExtBut it s.heap h'->(∃o,h'.get? x=some o/\o.cls=.type "StopIteration")->E' (.ref x) { s with heap:=h' })->wpAny (model prog w) A.in1 (Builtin.SmallTypes.nextOf (.ref it)) Q' E' s)(hQ:∀h',Heap.ExtBut it s.heap h'->Q none { s with heap:=h' }):wpAny (model prog w) A (pyNext (.ref e)) Q E s:=by
 have hT:s.TypeIs (.ref e) "enumerate":=⟨_,he,rfl⟩;unfold pyNext;refine Yb (YaQ (Y4 (name:=Str.ofString "__next__") hT Ya5 (YY Ya5 hT YbR (show wpAny _ _ (field (.ref e) 2>>=_) _ _ _ from Yb (Y9 he rfl (x:=.ref it) rfl (Yb (hn _ _ fun h' x q1 q2=>?_)))) (YbJ _))));obtain⟨o,ho,hc⟩:=q2;exact Yb (YaY (T:="StopIteration") (b:=true) ⟨o,ho,hc⟩ isSubtype_stop (Yd (hQ _ q1)))
end
def ZrT(K:YFr)(a:Addr):It :=
 ⟨fun i H=>∃xs x,SqT K H a xs/\xs[i]? = some x,
  fun i H v H'=>∃T x,v=.ref T/\H T=none/\H'=upd H T (.tup [.int i,x])/\(∀xs,SqT K H a xs->xs[i]? = some x),
  fun i H=>∃xs,SqT K H a xs/\xs.length<=i⟩
def Zhq{K:YFr}(hne:e≠it):Zkc P w K (.Tuple elts k0 pos) (ZrT K l) [e,it] e
  (fun i h=>(∃old,IsEnum h e it i old)/\h.IsTupleIter it l i) where
 mem:=by simp
 obj := fun i h st b hb=>by
  obtain⟨⟨old,he⟩,h1⟩:=st
  simp only[Yn,YM,Yan]at hb
  rcases hb with rfl|rfl
  .exact⟨_,he,fun v q=>nomatch q⟩
  .obtain⟨o,e,c,d⟩:=h1
   exact⟨o,e,fun v q=>by rw[d]at q;cases q⟩
 keep:=fun i h h' st k=>by
  obtain⟨⟨old,he⟩,h1⟩:=st
  exact⟨⟨old,k e (by simp) _ he⟩,h1.at fun o q=>k it (by simp) o q⟩
 item := by
  intro X hP hw hK hc i pins s σ H E I hf st hg;subst hP hw hK;obtain⟨⟨old,he⟩,h1⟩:=st;obtain⟨xs,x,hx,hxi⟩:=hg;obtain⟨its,rv,p,_⟩:=I.tuple hx;obtain⟨u,hu,ru⟩:=rv.get hxi;refine Zik (x:=u) (T1:=fun h=>h.IsTupleIter it l (i+1)) he hne (fun h h' a b=>a.at b) (fun A' E' Q' q=>Zed h1 p (by simpa using hu) q) fun h' a1 a2 a3 hk=>⟨_,rfl,Yby a1 fun h'' he' sb=>?_⟩;have nz:s.heap.objs.size≠e:=Yay (Ym he);have hT':IsTup h'' s.heap.objs.size [Value.int i s.toks,u].toArray:=⟨_,sb.extBut _ _ nz a3,rfl,_,rfl⟩;have I':Inv X pins σ (upd H s.heap.objs.size (.tup [.int i,x])) { s with heap:=h'',toks:=s.toks+1 }:=I.turnedL (ch:=[e,it]) hf (fun b o hb q=>by
   simp only[Yn,YM,Yan,not_or]at hb;exact sb.extBut _ _ hb.1 (hk b o hb.1 hb.2 q)) (Yj _) ⟨by show 2<=sizeLine;decide,[Value.int i s.toks,u],.cons ⟨_,rfl⟩ (.cons ru .nil),hT'⟩
  have hn:H s.heap.objs.size=none:=I.hok.fresh (Yj _);refine⟨.ref s.heap.objs.size,_,I',rfl,⟨_,x,rfl,hn,rfl,fun zs hzs=>by rw[I.tuple_inj hzs hx];exact hxi⟩,⟨⟨_,by push_cast;exact he'⟩,a2.at fun o q=>sb.extBut it o (Ne.symm hne) q⟩,fun b hb=>?_⟩;have hfb:=(hf b hb).1;have : b≠s.heap.objs.size:=by
   obtain⟨o,q⟩:∃o,s.heap.get? b=some o:=by
    simp only[Yn,YM,Yan]at hb;rcases hb with rfl|rfl
    .exact⟨_,he⟩
    .obtain⟨o,q,_⟩:=h1;exact⟨o,q⟩
   exact Yo (Ym q)
  rw[Zr this];exact hfb
 done := by
  intro X hP hw hK hc i pins s σ H E I hf st hg;subst hP hw hK;obtain⟨⟨old,he⟩,h1⟩:=st;obtain⟨xs,hx,hend⟩:=hg;obtain⟨its,rv,p,_⟩:=I.tuple hx;have hl:=rv.length;exact ZkF he (fun E' Q' q=>Zfh (show X.A.in1.handled=none from I.ok.hd hc) h1 p (by simp;lia) q) fun h' hk=>⟨rfl,I.turnedM (t':=s.toks) (ch:=[e,it]) hf (fun b o hb q=>by
   simp only[Yn,YM,Yan,not_or]at hb;exact hk b o hb.2 q)⟩
 self:=fun _ _ _ _ _ st h=>by
  obtain⟨⟨old,he⟩,h1⟩:=st;exact Ybj he h
def Zit(K:YFr):List V->Hp->(It->Hp->Prop)->Prop:=fun vs H R=>match vs with
 | [.ref a]=>(∃xs,SqT K H a xs)/\R (ZrT K a) H
 | _=>False
def ZeU(m:Moved wr (fun a b=>b=a) s s'):s'={ s with heap:=s'.heap,toks:=s'.toks }:=by
 have h1:=m.gens;have h2:=m.drawn;have h3:=m.os;cases s';simp only at h1 h2 h3;subst h1 h2 h3;rfl
inductive Wr where
 | nothing
 | bead (c:Str)
 | side (b:Bool) (f:Wr)
 | pair (f g:Wr)
 | many (k:Nat) (ps:List Wr)
def ZaA:Nat->Str
 | 0=>"row"
 | 1=>"bag"
 | 2=>"choice"
 | _=>"ring"
def Znv:Bool->Str
 | true=>"right"
 | false=>"left"
def Wr.name:Wr->Str
 | .nothing=>"nothing"
 | .bead _=>"bead"
 | .side b _=>Znv b
 | .pair _ _=>"pair"
 | .many k _=>ZaA k
mutual
def Wr.tups:Wr->Nat
 | .nothing=>1
 | .bead _=>1
 | .side _ f=>1+f.tups
 | .pair f g=>1+(f.tups+(g.tups+0))
 | .many _ ps=>1+Zsf ps
def Zsf:List Wr->Nat
 | []=>0
 | w::ws=>w.tups+Zsf ws
end
def ZdX(K:YFr)(H H':Hp):Prop:=∀a xs,SqT K H a xs->SqT K H' a xs
def ZdX.trans{K:YFr}(h:ZdX K H H1)(k:ZdX K H1 H2):ZdX K H H2:=fun a xs q=>k a xs (h a xs q)
def Zat.tups{K:YFr}(e:Zat H H'):ZdX K H H':=fun _ _ h=>e.sq h
def ZdX.lst{K:YFr}(h:H l=some (.lst ys)):ZdX K H (upd H l (.lst zs)):=fun a xs q=>by
 rcases q with(q|⟨o,q⟩)|q
 .refine .inl (.inl ?_)
  rw[Zr (ZcE q h (by intro z;cases z))];exact q
 .refine .inl (.inr ⟨o,?_⟩)
  rw[Zr (ZcE q h (by intro z;cases z))];exact q
 .exact .inr q
def tn(ps:List Wr)(i:Nat):Int:=((ps.map Wr.tups).getD i 0:Nat)
def ZlU(j:Int):∃c:Str,atI [V.str "red",V.str "ash",V.str "blue",V.str "redder"] (j % 4)=some (.str c)/\PyData.strOk c=true:=by
 have h:j % 4=0\/j % 4=1\/j % 4=2\/j % 4=3:=by lia
 rcases h with h|h|h|h<;>rw[h]
 .exact⟨"red",Zai (j:=0) rfl,by decide +kernel⟩
 .exact⟨"ash",Zai (j:=1) rfl,by decide +kernel⟩
 .exact⟨"blue",Zai (j:=2) rfl,by decide +kernel⟩
 .exact⟨"redder",Zai (j:=3) rfl,by decide +kernel⟩
section
open PySem.AutoSeq1 (wpAny_loadPart')
def ZhH(l:Addr)(items:Array Value)(n:Nat)(t:Addr)(more:Array Value)(m:Nat)(dd:Option Addr)(sl:Array (Option Value))(h1:¬(!items.isEmpty&&Builtin.List.listTooLong (items.size+more.size))=true)(h2:items.size<=sizeLine)(h3:(items++more).size<=sizeLine+1):
  Meets (Builtin.«list.extend» ⟨[.ref l,.ref t],[]⟩) (fun _ R s=>s.heap.get? l=some { cls:=.type "list",data:=.seq items n } /\
   s.heap.get? t=some { cls:=.type "tuple",dict:=dd,data:=.seq more m,slots:=sl }/\R (.ok (.ret .none)) { s with heap:=s.heap.update l (Obj.mapSeq fun x=>x++more) }) :=
 .of_wp fun prog w A R s hq0=>by
  obtain⟨g1,g2,q⟩:=hq0
  obtain⟨hp,ge,dr,tk,os⟩:=s
  have a1:=PySem.AutoSeq1.idx_int
  have a2:=PySem.AutoSeq1.sub_tuple_tuple
  have a3:=PySem.AutoSeq1.sub_list_list
  have a4:=PySem.AutoSeq1.sub_tuple_list
  have a5:=PySem.AutoSeq1.sub_list_tuple
  wp_walk using(Yaw g1 rfl (hz:=h2) (_hz':=h3)),YaE g1,YaE g2
  exact⟨_,rfl,q⟩
end
section
def ZnJ(K:YFr):V->List V->Hp->VK->Prop:=fun x vs H Q=>∃l b xs zs,x=.ref l/\vs=[.ref b]/\H l=some (.lst xs)/\SqT K H b zs/\xs.length+zs.length<=sizeLine/\Q .non (upd H l (.lst (xs++zs)))
def Znp:MtM X "list.extend" (ZnJ X.K):=by
 intro pins s σ H x vs v us Q I rx rv h;obtain⟨l,b,xs,zs,rfl,rfl,hH,hB,hz,q⟩:=h;cases rx;obtain⟨u,rfl,ru⟩:=rv.one;cases ru;obtain⟨z,its,n,r,hl,e⟩:=I.lstM hH;obtain⟨its2,r2,⟨⟨c,dd,dt,sl⟩,e2,k1,m,k2⟩,z2⟩:=I.tuple hB;simp only at k1 k2;subst k1 k2;have hl2:=r2.length;have hsz:its.toArray.size+its2.toArray.size<=sizeLine:=by simp only[Yr];lia
 refine Ybh Ycb ⟨_,e,rfl⟩ Yb2 (YbY _ _) (ZhH l its.toArray n b its2.toArray m dd sl (by rw[Zei hsz,YbT];decide) (by lia) (by rw[Array.size_append];lia)) ⟨e,e2,?_⟩;refine⟨.non,_,I.lset (its':=its++its2) (t':=s.toks) hH e (by simp) (r.append r2) ?_,rfl,q⟩;simp only[Ys];lia
end
open PySem PySem.Spec PyProof.Rows PySem.MeetsSeq
open PySem.AutoSeq1 (wpAny_loadPart')
section
def Zpa(z:Str):Value->Bool
 | .str s _=>s.cps.toList==z.cps.toList
 | _=>false
def ZcY{ss:List Str}(r:Z6 (ss.map V.str) its){i:Nat}(hu:its[i]? = some u):∃s t,ss[i]? = some s/\u=.str s t:=by
 have hl:=r.length;rw[Yc]at hl;have hi:i<its.length:=(Yh.mp hu).1;obtain⟨v,hv,rv⟩:=r.get (i:=i) (x:=V.str (ss[i]'(by lia))) (by rw[Yi,Yg (by lia)];rfl);rw[hu]at hv;cases hv;obtain⟨t,rfl⟩:=rv;exact⟨_,t,Yg (by lia),rfl⟩
def ZhB{ss:List Str}(r:Z6 (ss.map V.str) its)(hj:ss[j]? = some z)(hno:∀m,m<j->ss[m]?≠some z):
  (∀y,y∈its.toArray->EqGives y (.str z t) (Zpa z y))/\∃h:j<its.toArray.size,Zpa z (its.toArray[j])=true/\∀m (hm:m<its.toArray.size),m<j->Zpa z (its.toArray[m])=false:=by
 have hl:=r.length;rw[Yc]at hl;refine⟨fun y hy=>?_,?_⟩
 .obtain⟨i,hi⟩:=YbV.mp (show y∈its by simpa using hy);obtain⟨s,u,_,rfl⟩:=ZcY r hi;exact SeqRoads2.EqGives.str s z u t
 .have h0:j<ss.length:=(Yh.mp hj).1;refine⟨by rw[Yr];lia,?_,fun m hm h=>?_⟩
  .obtain⟨s,u,h1,h2⟩:=ZcY r (i:=j) (u:=its[j]'(by lia)) (Yg (by lia));rw[hj]at h1;cases h1;show Zpa z (its[j]'(by lia))=true;rw[h2];show(z.cps.toList==z.cps.toList)=true;simp
  .rw[Yr]at hm;obtain⟨s,u,h1,h2⟩:=ZcY r (i:=m) (u:=its[m]) (Yg hm);show Zpa z its[m]=false;rw[h2];show(s.cps.toList==z.cps.toList)=false;refine Yv.mpr fun e=>hno m h ?_;have:s=z:=by
    cases s;cases z;simp only at e;rw[YbF.mp e]
   rw[h1,this]
def ZrV(T:V->List Str->Hp->Prop):V->List V->Hp->VK->Prop:=fun x vs H Q=>∃(ss:List Str)(z:Str)(j:Nat),T x ss H/\vs=[.str z]/\ss[j]? = some z/\(∀m,m<j->ss[m]?≠some z)/\Q (.int j) H
def Zoj:MtR X "list.index" (ZrV fun x ss H=>∃a,x=.ref a/\H a=some (.lst (ss.map V.str))):=by
 intro pins s σ H x vs v us Q I rx rv h;obtain⟨ss,z,j,⟨a,rfl,hH⟩,rfl,hj,hno,q⟩:=h;cases rx;obtain⟨u,rfl,ru⟩:=rv.one;obtain⟨t,rfl⟩:=ru;obtain⟨zz,its,n,r,hl,e⟩:=I.lstM hH;obtain⟨h1,h2,h3,h4⟩:=ZhB (t:=t) r hj hno;have hj2:j<sizeLine:=by rw[Yr,<- hl]at h2;lia
 have big:(sizeLine:Int)<2^63-1:=by decide
 exact Ybh F.slot_list_index ⟨_,e,rfl⟩ F.entry_list_index (F.args_list_index_2 _ _) (MeetsSeq.list_index a its.toArray n (.str z t) (Zpa z) h1 j h2 (by lia) h3 h4) ⟨e,.int j,H,I.tok _,⟨_,rfl⟩,q⟩
end
inductive U where
 | non|bl (b:Bool)|int (i:Int)|str (x:Str)|ty (n:String)|tup (xs:List U)|rol (xs:List U)|ref (a:Addr)
def SqR(K:YFr)(H:Hp)(a:Addr)(xs:List V):Prop:=(∃o,H a=some (.frz o (.lst xs))) \/
  ∃(o:Obj)(its:Array Value)(n:Nat),K.lookup a=some o/\o.cls=.type "list"/\o.dict=none/\o.data=.seq its n/\its.size<=sizeLine/\Z6 xs its.toList
def SqR.sq{K:YFr}(h:SqR K H a xs):SqL K H a xs:=by
 rcases h with h|h
 .exact .inl (.inr h)
 .exact .inr h
structure Kp (K:YFr) (H H':Hp):Prop where
 t : ZdX K H H'
 r : ∀a xs,SqR K H a xs->SqR K H' a xs
 f : ∀a o u,H a=some (.frz o u)->H' a=some (.frz o u)
def Kp.refl{K:YFr}(H:Hp):Kp K H H:=⟨fun _ _ h=>h,fun _ _ h=>h,fun _ _ _ h=>h⟩
def Kp.trans{K:YFr}(h:Kp K H H1)(k:Kp K H1 H2):Kp K H H2:=⟨h.t.trans k.t,fun a xs q=>k.r a xs (h.r a xs q),fun a o u q=>k.f a o u (h.f a o u q)⟩
def Zat.kp{K:YFr}(e:Zat H H'):Kp K H H':=⟨e.tups,fun a xs q=>by
 rcases q with⟨o,q⟩|q
 .exact .inl ⟨o,e _ _ q⟩
 .exact .inr q,fun a o u q=>e _ _ q⟩
def Kp.lst{K:YFr}(h:H l=some (.lst ys)):Kp K H (upd H l (.lst zs)):=⟨ZdX.lst h,fun a xs q=>by
 rcases q with⟨o,q⟩|q
 .exact .inl ⟨o,by rw[Zr (ZcE q h (by intro z;cases z))];exact q⟩
 .exact .inr q,fun a o u q=>by rw[Zr (ZcE q h (by intro z;cases z))];exact q⟩
def Kp.ins{K:YFr}(h:H l=some (.ins C dx fs)):Kp K H (upd H l o'):=⟨fun a xs q=>by
 rcases q with(q|⟨o,q⟩)|q
 .exact .inl (.inl (by rw[Zr (ZcE q h (by intro z;cases z))];exact q))
 .exact .inl (.inr ⟨o,by rw[Zr (ZcE q h (by intro z;cases z))];exact q⟩)
 .exact .inr q,fun a xs q=>by
 rcases q with⟨o,q⟩|q
 .exact .inl ⟨o,by rw[Zr (ZcE q h (by intro z;cases z))];exact q⟩
 .exact .inr q,fun a o u q=>by rw[Zr (ZcE q h (by intro z;cases z))];exact q⟩
mutual
inductive RU (K:YFr) (H:Hp):U->V->Prop
 | non:RU K H .non .non
 | bl (b:Bool):RU K H (.bl b) (.bl b)
 | int (i:Int):RU K H (.int i) (.int i)
 | str (x:Str):RU K H (.str x) (.str x)
 | ty (n:String):RU K H (.ty n) (.ty n)
 | ref (a:Addr):RU K H (.ref a) (.ref a)
 | tup {a:Addr} {vs:List V} {us:List U}:SqT K H a vs->RUs K H us vs->RU K H (.tup us) (.ref a)
 | rol {a:Addr} {vs:List V} {us:List U}:SqR K H a vs->RUs K H us vs->RU K H (.rol us) (.ref a)
inductive RUs (K:YFr) (H:Hp):List U->List V->Prop
 | nil:RUs K H [] []
 | cons {u:U} {v:V} {us:List U} {vs:List V}:RU K H u v->RUs K H us vs->RUs K H (u::us) (v::vs)
end
section
variable{K:YFr}
mutual
theorem RU.same (e:Kp K H H'):∀ {u:U} {v:V},RU K H u v->RU K H' u v
 | _,_,.non=>.non
 | _,_,.bl b=>.bl b
 | _,_,.int i=>.int i
 | _,_,.str x=>.str x
 | _,_,.ty n=>.ty n
 | _,_,.ref a=>.ref a
 | _,_,.tup h r=>.tup (e.t _ _ h) (RUs.same e r)
 | _,_,.rol h r=>.rol (e.r _ _ h) (RUs.same e r)
theorem RUs.same (e:Kp K H H'):∀ {us:List U} {vs:List V},RUs K H us vs->RUs K H' us vs
 | _,_,.nil=>.nil
 | _,_,.cons h r=>.cons (RU.same e h) (RUs.same e r)
end
def RUs.length:∀ {us:List U} {vs:List V},RUs K H us vs->us.length=vs.length
 | _,_,.nil=>rfl
 | _,_,.cons _ r=>by rw[List.length_cons,List.length_cons,r.length]
def RUs.app:∀ {us ws:List U} {vs xs:List V},RUs K H us vs->RUs K H ws xs->RUs K H (us++ws) (vs++xs)
 | _,_,_,_,.nil,s=>s
 | _,_,_,_,.cons h r,s=>.cons h (RUs.app r s)
def RUs.one(h:RU K H u v):RUs K H [u] [v]:=.cons h .nil
def RUs.get':∀ {us:List U} {vs:List V} {i:Nat} {u:U},RUs K H us vs->us[i]? = some u->∃v,vs[i]? = some v/\RU K H u v
 | _,_,_,_,.nil,e=>by simp at e
 | _,_,0,_,.cons h _,e=>by simp at e;subst e;exact⟨_,rfl,h⟩
 | _,_,i+1,_,.cons _ r,e=>by simp at e;simpa using RUs.get' r e
def RUs.take:∀ {us:List U} {vs:List V} (n:Nat),RUs K H us vs->RUs K H (us.take n) (vs.take n)
 | _,_,0,_=>.nil
 | _,_,_+1,.nil=>.nil
 | _,_,n+1,.cons r t=>.cons r (RUs.take n t)
def RUs.drop:∀ {us:List U} {vs:List V} (n:Nat),RUs K H us vs->RUs K H (us.drop n) (vs.drop n)
 | _,_,0,r=>r
 | _,_,_+1,.nil=>.nil
 | _,_,n+1,.cons _ t=>RUs.drop n t
def RUs.dropLast(h:RUs K H us vs):RUs K H us.dropLast vs.dropLast:=by
 rw[YbW,YbW,h.length];exact h.take _
def RUs.ints:∀ {ns:List Int} {vs:List V},RUs K H (ns.map U.int) vs->vs=ns.map V.int
 | [],_,.nil=>rfl
 | n::ns,_,.cons h r=>by cases h;rw[Yq,RUs.ints r]
def RUs.bls:∀ {ns:List Bool} {vs:List V},RUs K H (ns.map U.bl) vs->vs=ns.map V.bl
 | [],_,.nil=>rfl
 | n::ns,_,.cons h r=>by cases h;rw[Yq,RUs.bls r]
def RUs.strs:∀ {ns:List Str} {vs:List V},RUs K H (ns.map U.str) vs->vs=ns.map V.str
 | [],_,.nil=>rfl
 | n::ns,_,.cons h r=>by cases h;rw[Yq,RUs.strs r]
def RUs.of_strs:∀ {ns:List Str},RUs K H (ns.map U.str) (ns.map V.str)
 | []=>.nil
 | n::ns=>.cons (.str n) RUs.of_strs
def RUs.of_ints:∀ {ns:List Int},RUs K H (ns.map U.int) (ns.map V.int)
 | []=>.nil
 | n::ns=>.cons (.int n) RUs.of_ints
end
inductive AO where
 | lst (us:List U)|ins (C dx:Addr) (fs:List (Str×U))|oth (φ:YFr->Hp->Addr->Prop)
abbrev AHp:=Addr->Option AO
def updA(A:AHp)(a:Addr)(o:AO):AHp:=fun b=>if b=a then some o else A b
def Zc:updA A a o a=some o:=by unfold updA;rw[if_pos rfl]
def Zn(h:b≠a):updA A a o b=A b:=by unfold updA;rw[if_neg h]
def ZK:updA (updA A a o) a u=updA A a u:=by funext b;unfold updA;split<;>rfl
def RFs(K:YFr)(H:Hp)(fs:List (Str×U))(gs:List (Str×V)):Prop:=fs.map (·.1)=gs.map (·.1)/\RUs K H (fs.map (·.2)) (gs.map (·.2))
def RO(K:YFr)(H:Hp)(a:Addr):AO->Prop
 | .lst us=>∃vs,H a=some (.lst vs)/\RUs K H us vs
 | .ins C dx fs=>∃gs,H a=some (.ins C dx gs)/\RFs K H fs gs
 | .oth φ=>(∃o,H a=some o)/\φ K H a/\∀H1 H2,φ K H1 a->Kp K H1 H2->H2 a=H1 a->φ K H2 a
def HR(K:YFr)(H:Hp)(A:AHp):Prop:=∀a o,A a=some o->RO K H a o
section
variable{K:YFr}
def RO.keep(t:Kp K H H')(e:H' b=H b)(h:RO K H b o):RO K H' b o:=by
 cases o with
 | lst us=>obtain⟨vs,h1,h2⟩:=h;exact⟨vs,by rw[e];exact h1,h2.same t⟩
 | ins C dx fs=>obtain⟨gs,h1,h2,h3⟩:=h;exact⟨gs,by rw[e];exact h1,h2,h3.same t⟩
 | oth φ=>obtain⟨h0,h1,h2⟩:=h;exact⟨by rw[e];exact h0,h2 _ _ h1 t e,h2⟩
def HR.grow(t:Zat H H')(h:HR K H A):HR K H' A:=fun a o e=>by
 have q:=h a o e
 cases o with
 | lst us=>obtain⟨vs,h1,h2⟩:=q;exact⟨vs,t _ _ h1,h2.same t.kp⟩
 | ins C dx fs=>obtain⟨gs,h1,h2,h3⟩:=q;exact⟨gs,t _ _ h1,h2,h3.same t.kp⟩
 | oth φ=>obtain⟨⟨o,h0⟩,h1,h2⟩:=q;exact⟨⟨o,t _ _ h0⟩,h2 _ _ h1 t.kp (by rw[h0];exact t _ _ h0),h2⟩
def HR.none(h:HR K H A)(e:H a=none):A a=none:=by
 cases q:A a with
 | none=>rfl
 | some o =>
  have:=h a o q;cases o with
  | lst us=>obtain⟨vs,h1,_⟩:=this;rw[e]at h1;cases h1
  | ins C dx fs=>obtain⟨vs,h1,_⟩:=this;rw[e]at h1;cases h1
  | oth φ=>obtain⟨⟨_,h1⟩,_⟩:=this;rw[e]at h1;cases h1
def HR.newL(h:HR K H A)(e:H a=Option.none)(r:RUs K H us vs):HR K (upd H a (.lst vs)) (updA A a (.lst us)):=fun b o q=>by
 have s:=Zat.upd_new (o:=.lst vs) e
 by_cases hb:b=a
 .subst hb
  rw[Zc]at q
  cases q
  exact⟨vs,Zv,r.same s.kp⟩
 .rw[Zn hb]at q
  exact(h b o q).keep s.kp (Zr hb)
def HR.setL(h:HR K H A)(e:H a=some (.lst xs))(r:RUs K H us vs):HR K (upd H a (.lst vs)) (updA A a (.lst us)):=fun b o q=>by
 have s:Kp K H (upd H a (.lst vs)):=Kp.lst e
 by_cases hb:b=a
 .subst hb
  rw[Zc]at q
  cases q
  exact⟨vs,Zv,r.same s⟩
 .rw[Zn hb]at q
  exact(h b o q).keep s (Zr hb)
def HR.list(h:HR K H A)(e:A a=some (.lst us)):∃vs,H a=some (.lst vs)/\RUs K H us vs:=h a _ e
end
abbrev ASt:=List (Option U)
inductive RSt (K:YFr) (H:Hp):ASt->St->Prop
 | nil:RSt K H [] []
 | skip {x:Option V} {ρ:ASt} {σ:St}:RSt K H ρ σ->RSt K H (none::ρ) (x::σ)
 | cons {u:U} {v:V} {ρ:ASt} {σ:St}:RU K H u v->RSt K H ρ σ->RSt K H (some u::ρ) (some v::σ)
section
variable{K:YFr}
theorem RSt.same(e:Kp K H H'):∀ {ρ:ASt} {σ:St},RSt K H ρ σ->RSt K H' ρ σ
 | _,_,.nil=>.nil
 | _,_,.skip r=>.skip (RSt.same e r)
 | _,_,.cons h r=>.cons (h.same e) (RSt.same e r)
def ZpU:Nat->ASt->(U->Prop)->Prop
 | 0, ρ,k=>match ρ with
  | some u::_=>k u
  | _=>False
 | i+1,ρ,k=>match ρ with
  | _::ρ=>ZpU i ρ k
  | []=>False
def Zqd(ρ:ASt)(i:Nat)(k:U->Prop):Prop:=ZpU i ρ k
def RSt.get:∀ {ρ:ASt} {σ:St} {i:Nat} {k:U->Prop},RSt K H ρ σ->Zqd ρ i k->∃u v,σ[i]? = some (some v)/\RU K H u v/\k u
 | _,_,0,_,.nil,h=>h.elim
 | _,_,_+1,_,.nil,h=>h.elim
 | _,_,0,_,.skip _,h=>h.elim
 | _,_,i+1,_,.skip r,h=>by simpa using RSt.get r h
 | _,_,0,_,.cons q _,h=>⟨_,_,rfl,q,h⟩
 | _,_,i+1,_,.cons _ r,h=>by simpa using RSt.get r h
theorem RSt.set(q:RU K H u v):∀ {ρ:ASt} {σ:St} (i:Nat),RSt K H ρ σ->RSt K H (ρ.set i (some u)) (σ.set i (some v))
 | _,_,_,.nil=>.nil
 | _,_,0,.skip r=>.cons q r
 | _,_,i+1,.skip r=>.skip (RSt.set q i r)
 | _,_,0,.cons _ r=>.cons q r
 | _,_,i+1,.cons h r=>.cons h (RSt.set q i r)
end
abbrev AVK:=U->AHp->Prop
abbrev AE:=ASt->AHp->AVK->Prop
abbrev AT:=ASt->AHp->(Bool->AHp->Prop)->Prop
abbrev AA:=ASt->AHp->(List U->AHp->Prop)->Prop
abbrev AP1:=ASt->AHp->(Option Int->AHp->Prop)->Prop
structure ZaL where
 nx:ASt->AHp->Prop
 rt:AVK
 bk:ASt->AHp->Prop:=fun _ _=>False
 ct:ASt->AHp->Prop:=fun _ _=>False
abbrev AS:=ZaL->ASt->AHp->Prop
abbrev Aft(K:YFr)(H:Hp)(Q':AVK)(Q:VK):Prop:=∀u A' v H',Kp K H H'->HR K H' A'->RU K H' u v->Q' u A'->Q v H'
def AbE(K:YFr)(te:TE)(ae:AE):Prop:=∀ρ A σ H Q' Q,RSt K H ρ σ->HR K H A->ae ρ A Q'->Aft K H Q' Q->te σ H Q
def AbT(K:YFr)(te:TT)(ae:AT):Prop:=∀ρ A σ H (Q':Bool->AHp->Prop) (Q:Bool->Hp->Prop),RSt K H ρ σ->HR K H A->ae ρ A Q'->(∀b A' H',Kp K H H'->HR K H' A'->Q' b A'->Q b H')->te σ H Q
def AbA(K:YFr)(te:TA)(ae:AA):Prop:=∀ρ A σ H (Q':List U->AHp->Prop) (Q:List V->Hp->Prop),RSt K H ρ σ->HR K H A->ae ρ A Q'->(∀us A' vs H',Kp K H H'->HR K H' A'->RUs K H' us vs->Q' us A'->Q vs H')->te σ H Q
def AbP(K:YFr)(te:TO)(ae:AP1):Prop:=∀ρ A σ H (Q':Option Int->AHp->Prop) (Q:Option Int->Hp->Prop),RSt K H ρ σ->HR K H A->ae ρ A Q'->(∀b A' H',Kp K H H'->HR K H' A'->Q' b A'->Q b H')->te σ H Q
structure ZkB (K:YFr) (H:Hp) (D':ZaL) (D:Zez):Prop where
 nx:∀ρ A σ H',Kp K H H'->HR K H' A->RSt K H' ρ σ->D'.nx ρ A->D.nx σ H'
 rt:Aft K H D'.rt D.rt
 bk:∀ρ A σ H',Kp K H H'->HR K H' A->RSt K H' ρ σ->D'.bk ρ A->D.bk σ H'
 ct:∀ρ A σ H',Kp K H H'->HR K H' A->RSt K H' ρ σ->D'.ct ρ A->D.ct σ H'
def ZkB.same{K:YFr}(h:ZkB K H D' D)(k:Kp K H H1):ZkB K H1 D' D :=
 ⟨fun ρ A σ H' q=>h.nx ρ A σ H' (k.trans q),fun u A v H' q=>h.rt u A v H' (k.trans q),fun ρ A σ H' q=>h.bk ρ A σ H' (k.trans q),fun ρ A σ H' q=>h.ct ρ A σ H' (k.trans q)⟩
def AbS(K:YFr)(ts:TS)(as:AS):Prop:=∀ρ A σ H D' D,RSt K H ρ σ->HR K H A->as D' ρ A->ZkB K H D' D->ts D σ H
section
variable{K:YFr}
def ZmQ(i:Nat):AE:=fun ρ A Q=>Zqd ρ i fun u=>Q u A
def Za:AbE K (Zjh i) (ZmQ i):=fun ρ A σ H Q' Q hr hh h k=>by
 obtain⟨u,v,e,r,q⟩:=hr.get h
 exact⟨v,e,k u A v H (.refl H) hh r q⟩
def aC(u:U):AE:=fun _ A Q=>Q u A
def Zo7(h:∀H,RU K H u v):AbE K (tC v) (aC u):=fun ρ A σ H Q' Q hr hh q k=>k u A v H (.refl H) hh (h H) q
def Zm:AbE K (tC (.int i)) (aC (.int i)):=Zo7 fun _=>.int i
def ZL:AbE K (tC (.str i)) (aC (.str i)):=Zo7 fun _=>.str i
def Zdj:AbE K (tC (.bl i)) (aC (.bl i)):=Zo7 fun _=>.bl i
def Zca:AbE K (tC .non) (aC .non):=Zo7 fun _=>.non
def Zm4:AbE K (tC (.ty n)) (aC (.ty n)):=Zo7 fun _=>.ty n
def ZaK:AbE K (tC (.ref a)) (aC (.ref a)):=Zo7 fun _=>.ref a
abbrev AR2:=U->U->AHp->AVK->Prop
def AbR(K:YFr)(r:R2)(ar:AR2):Prop:=∀x y u w A H Q' Q,RU K H u x->RU K H w y->HR K H A->ar u w A Q'->Aft K H Q' Q->r x y H Q
def aOp(ar:AR2)(a b:AE):AE:=fun ρ A Q=>a ρ A fun x A1=>b ρ A1 fun y A2=>ar x y A2 Q
def Zk(hr:AbR K r ar)(ha:AbE K ta aa)(hb:AbE K tb ab):AbE K (tOp r ta tb) (aOp ar aa ab):=fun ρ A σ H Q' Q hs hh h k =>
 ha ρ A σ H _ _ hs hh h fun x A1 v H1 k1 h1 r1 q1=>hb ρ A1 σ H1 _ _ (hs.same k1) h1 q1 fun y A2 v2 H2 k2 h2 r2 q2=>hr _ _ _ _ _ _ _ _ (r1.same k2) r2 h2 q2 fun z A3 v3 H3 k3 h3 r3 q3=>k _ _ _ _ (k1.trans (k2.trans k3)) h3 r3 q3
def aB(a:AE):AT:=fun ρ A Q=>a ρ A fun x A1=>∃c,x=.bl c/\Q c A1
def ZbP(ha:AbE K ta aa):AbT K (tB ta) (aB aa):=fun ρ A σ H Q' Q hs hh h k =>
 ha ρ A σ H _ _ hs hh h fun x A1 v H1 k1 h1 r1 hq0=>by obtain⟨c,e,q1⟩:=hq0;subst e;cases r1;exact⟨c,rfl,k c A1 H1 k1 h1 q1⟩
def Zo(ha:AbE K ta aa):AbT K (Zpl ta) (aB aa):=ZbP ha
def Zu5(t u:AT):AT:=fun ρ A Q=>t ρ A fun c A1=>if c=true then u ρ A1 Q else Q false A1
def aOr(t u:AT):AT:=fun ρ A Q=>t ρ A fun c A1=>if c=true then Q true A1 else u ρ A1 Q
def Zvg(t:AT):AT:=fun ρ A Q=>t ρ A fun c A1=>Q (!c) A1
def Zcy(ha:AbT K t a)(hb:AbT K u b):AbT K (Zvl t u) (Zu5 a b):=fun ρ A σ H Q' Q hs hh h k =>
 ha ρ A σ H _ _ hs hh h fun c A1 H1 k1 h1 q1=>by
  cases c
  .exact ZhM (by decide) (k _ _ _ k1 h1 (by simpa using q1))
  .exact Zfr rfl (hb ρ A1 σ H1 _ _ (hs.same k1) h1 (by simpa using q1) fun c A2 H2 k2 h2 q2=>k _ _ _ (k1.trans k2) h2 q2)
def ZfT(ha:AbT K t a)(hb:AbT K u b):AbT K (tOr t u) (aOr a b):=fun ρ A σ H Q' Q hs hh h k =>
 ha ρ A σ H _ _ hs hh h fun c A1 H1 k1 h1 q1=>by
  cases c
  .exact ZhM (by decide) (hb ρ A1 σ H1 _ _ (hs.same k1) h1 (by simpa using q1) fun c A2 H2 k2 h2 q2=>k _ _ _ (k1.trans k2) h2 q2)
  .exact Zfr rfl (k _ _ _ k1 h1 (by simpa using q1))
def ZjC(ha:AbT K t a):AbT K (Zu7 t) (Zvg a):=fun ρ A σ H Q' Q hs hh h k=>ha ρ A σ H _ _ hs hh h fun c A1 H1 k1 h1 q1=>k _ _ _ k1 h1 q1
def ZvG(a b:AE):AE:=fun ρ A Q=>a ρ A fun x A1=>∃c,x=.bl c/\if c=true then Q (.bl true) A1 else b ρ A1 Q
def Zrv(ha:AbE K t a)(hb:AbE K u b):AbE K (ZvJ t u) (ZvG a b):=fun ρ A σ H Q' Q hs hh h k =>
 ha ρ A σ H _ _ hs hh h fun x A1 v H1 k1 h1 r1 hq0=>by
  obtain⟨c,e,q1⟩:=hq0
  subst e;cases r1
  refine⟨c,rfl,?_⟩
  cases c
  .exact ZhM (by decide) (hb ρ A1 σ H1 _ _ (hs.same k1) h1 (by simpa using q1) fun z A2 v2 H2 k2 h2 r2 q2=>k _ _ _ _ (k1.trans k2) h2 r2 q2)
  .exact Zfr rfl (k _ _ _ _ k1 h1 (.bl _) (by simpa using q1))
def ZfK:AT:=fun _ A Q=>Q true A
def ZaB:AbT K ZqT ZfK:=fun ρ A σ H Q' Q hs hh h k=>k _ _ _ (.refl H) hh h
def Zsv:AA:=fun _ A Q=>Q [] A
def Zf:AbA K ZkZ Zsv:=fun ρ A σ H Q' Q hs hh h k=>k _ _ _ _ (.refl H) hh .nil h
def Zim(a:AE)(l:AA):AA:=fun ρ A Q=>a ρ A fun x A1=>l ρ A1 fun xs A2=>Q (x::xs) A2
def Zd(ha:AbE K ta a)(hl:AbA K tl l):AbA K (ZdW ta tl) (Zim a l):=fun ρ A σ H Q' Q hs hh h k =>
 ha ρ A σ H _ _ hs hh h fun x A1 v H1 k1 g1 r1 q1=>hl ρ A1 σ H1 _ _ (hs.same k1) g1 q1 fun xs A2 vs H2 k2 g2 r2 q2=>k _ _ _ _ (k1.trans k2) g2 (.cons (r1.same k2) r2) q2
def Zl1(us:List U):AA:=fun _ A L=>L us A
def Zcu{xs:List Str}:AbA K (Zl4 (xs.map V.str)) (Zl1 (xs.map U.str)):=fun ρ A σ H Q' Q hs hh h k=>k _ _ _ _ (.refl H) hh RUs.of_strs h
def Zul(l:AA):AE:=fun ρ A Q=>l ρ A fun xs A1=>xs.length<=sizeLine/\Q (.tup xs) A1
def ZV(hl:AbA K tl l):AbE K (Zvj tl) (Zul l):=fun ρ A σ H Q' Q hs hh h k =>
 hl ρ A σ H _ _ hs hh h fun xs A1 vs H1 k1 g1 r1 ⟨hz,q1⟩=>⟨by rw[<- r1.length];exact hz,fun p hp=>by
  have s:=Zat.upd_new (o:=.tup vs) hp
  exact k _ _ _ _ (k1.trans s.kp) (g1.grow s) (.tup (SqT.of Zv) (r1.same s.kp)) q1⟩
def Zva(l:AA):AE:=fun ρ A Q=>l ρ A fun xs A1=>xs.length<=sizeLine/\∀p,A1 p=none->Q (.ref p) (updA A1 p (.lst xs))
def ZZ(hl:AbA K tl l):AbE K (ZvI tl) (Zva l):=fun ρ A σ H Q' Q hs hh h k =>
 hl ρ A σ H _ _ hs hh h fun xs A1 vs H1 k1 g1 r1 ⟨hz,q1⟩=>⟨by rw[<- r1.length];exact hz,fun p hp=>k _ _ _ _ (k1.trans (Zat.upd_new hp).kp) (g1.newL hp r1) (.ref p) (q1 p (g1.none hp))⟩
def AbL(K:YFr)(r:List V->Hp->VK->Prop)(ar:List U->AHp->AVK->Prop):Prop:=∀xs us A H Q' Q,RUs K H us xs->HR K H A->ar us A Q'->Aft K H Q' Q->r xs H Q
def aCB(ar:List U->AHp->AVK->Prop)(l:AA):AE:=fun ρ A Q=>l ρ A fun us A1=>ar us A1 Q
def ZY(hr:AbL K r ar)(hl:AbA K tl l):AbE K (tCB r tl) (aCB ar l):=fun ρ A σ H Q' Q hs hh h k =>
 hl ρ A σ H _ _ hs hh h fun xs A1 vs H1 k1 g1 r1 q1=>hr _ _ _ _ _ _ r1 g1 q1 fun z A3 v3 H3 k3 h3 r3 q3=>k _ _ _ _ (k1.trans k3) h3 r3 q3
abbrev ASp:=List U->AHp->AVK->Prop
def Zar(K:YFr)(asp:ASp):Sp:=fun vs H Q _=>∃us A Q',RUs K H us vs/\HR K H A/\asp us A Q'/\Aft K H Q' Q
def Znb(asp:ASp)(l:AA):AE:=fun ρ A Q=>l ρ A fun us A1=>asp us A1 Q
def Zw(hl:AbA K tl l):AbE K (ZoO (Zar K asp) [] E tl) (Znb asp l):=fun ρ A σ H Q' Q hs hh h k =>
 hl ρ A σ H _ _ hs hh h fun us A1 vs H1 k1 g1 r1 q1=>⟨us,A1,Q',by rw[YN];exact r1,g1,q1,fun z A3 v3 H3 k3 h3 r3 q3=>k _ _ _ _ (k1.trans k3) h3 r3 q3⟩
def ZhU:AP1:=fun _ A Q=>Q none A
def Zbx:AbP K ZjW ZhU:=fun ρ A σ H Q' Q hs hh h k=>k _ _ _ (.refl H) hh h
def ZrO(a:AE):AP1:=fun ρ A Q=>a ρ A fun x A1=>∃i,x=.int i/\Q (some i) A1
def ZbV(ha:AbE K t a):AbP K (Zq5 t) (ZrO a):=fun ρ A σ H Q' Q hs hh h k =>
 ha ρ A σ H _ _ hs hh h fun x A1 v H1 k1 h1 r1 hq0=>by obtain⟨i,e,q1⟩:=hq0;subst e;cases r1;exact⟨i,rfl,k _ _ _ k1 h1 q1⟩
def Zvm(K:YFr)(r:V->Option Int->Option Int->Hp->VK->Prop)(ar:U->Option Int->Option Int->AHp->AVK->Prop):Prop:=∀x u lo hi A H Q' Q,RU K H u x->HR K H A->ar u lo hi A Q'->Aft K H Q' Q->r x lo hi H Q
def aSl(ar:U->Option Int->Option Int->AHp->AVK->Prop)(a:AE)(l h:AP1):AE:=fun ρ A Q=>a ρ A fun x A1=>l ρ A1 fun i A2=>h ρ A2 fun j A3=>ar x i j A3 Q
def ZhE(hr:Zvm K r ar)(ha:AbE K t a)(hl:AbP K tl l)(hh:AbP K th h):AbE K (tSl r t tl th) (aSl ar a l h):=fun ρ A σ H Q' Q hs g w k =>
 ha ρ A σ H _ _ hs g w fun x A1 v H1 k1 g1 r1 q1=>hl ρ A1 σ H1 _ _ (hs.same k1) g1 q1 fun i A2 H2 k2 g2 q2=>hh ρ A2 σ H2 _ _ (hs.same (k1.trans k2)) g2 q2 fun j A3 H3 k3 g3 q3 =>
  hr _ _ _ _ _ _ _ _ (r1.same (k2.trans k3)) g3 q3 fun z A4 v4 H4 k4 g4 r4 q4=>k _ _ _ _ (k1.trans (k2.trans (k3.trans k4))) g4 r4 q4
def AbY(K:YFr)(T:String)(y:U->AHp->Prop):Prop:=∀x u A H,RU K H u x->HR K H A->y u A->tyV K T x H
def ZvY(y:U->AHp->Prop)(ar:U->List U->AHp->AVK->Prop)(a:AE):AE:=fun ρ A Q=>a ρ A fun x A1=>y x A1/\ar x [] A1 Q
def aBM(y:U->AHp->Prop)(ar:U->List U->AHp->AVK->Prop)(a:AE)(l:AA):AE:=fun ρ A Q=>a ρ A fun x A1=>y x A1/\l ρ A1 fun us A2=>ar x us A2 Q
def ZkP(K:YFr)(r:V->List V->Hp->VK->Prop)(ar:U->List U->AHp->AVK->Prop):Prop:=∀x u xs us A H Q' Q,RU K H u x->RUs K H us xs->HR K H A->ar u us A Q'->Aft K H Q' Q->r x xs H Q
def ZdG(hy:AbY K T y)(hr:ZkP K r ar)(ha:AbE K t a):AbE K (Zvx K T r t) (ZvY y ar a):=fun ρ A σ H Q' Q hs g w k =>
 ha ρ A σ H _ _ hs g w fun x A1 v H1 k1 g1 r1 ⟨q0,q1⟩=>⟨hy _ _ _ _ r1 g1 q0,hr _ _ _ _ _ _ _ _ r1 .nil g1 q1 fun z A4 v4 H4 k4 g4 r4 q4=>k _ _ _ _ (k1.trans k4) g4 r4 q4⟩
def ZbJ(hy:AbY K T y)(hr:ZkP K r ar)(ha:AbE K t a)(hl:AbA K tl l):AbE K (tBM K T r t tl) (aBM y ar a l):=fun ρ A σ H Q' Q hs g w k =>
 ha ρ A σ H _ _ hs g w fun x A1 v H1 k1 g1 r1 ⟨q0,q1⟩=>⟨hy _ _ _ _ r1 g1 q0,hl ρ A1 σ H1 _ _ (hs.same k1) g1 q1 fun us A2 vs H2 k2 g2 r2 q2=>hr _ _ _ _ _ _ _ _ (r1.same k2) r2 g2 q2 fun z A4 v4 H4 k4 g4 r4 q4=>k _ _ _ _ (k1.trans (k2.trans k4)) g4 r4 q4⟩
def Zpq:AS:=fun D ρ A=>D.nx ρ A
def Zy:AbS K ZpX Zpq:=fun ρ A σ H D' D hs g w k=>k.nx _ _ _ _ (.refl H) g hs w
def ZvC(t u:AS):AS:=fun D ρ A=>t { D with nx:=u D } ρ A
def Zj(ha:AbS K t a)(hb:AbS K u b):AbS K (ZsA t u) (ZvC a b):=fun ρ A σ H D' D hs g w k =>
 ha ρ A σ H _ _ hs g w ⟨fun ρ1 A1 σ1 H1 k1 g1 r1 q1=>hb ρ1 A1 σ1 H1 _ _ r1 g1 q1 (k.same k1),k.rt,k.bk,k.ct⟩
def Zqo(a:AE):AS:=fun D ρ A=>a ρ A fun _ A1=>D.nx ρ A1
def Z1(ha:AbE K t a):AbS K (ZkN t) (Zqo a):=fun ρ A σ H D' D hs g w k=>ha ρ A σ H _ _ hs g w fun x A1 v H1 k1 g1 r1 q1=>k.nx _ _ _ _ k1 g1 (hs.same k1) q1
def ZvH(a:AE):AS:=fun D ρ A=>a ρ A D.rt
def Zs(ha:AbE K t a):AbS K (Zvf t) (ZvH a):=fun ρ A σ H D' D hs g w k=>ha ρ A σ H _ _ hs g w k.rt
def Ztw(c:AT)(t u:AS):AS:=fun D ρ A=>c ρ A fun b A1=>if b=true then t D ρ A1 else u D ρ A1
def Zas(hc:AbT K c ac)(ha:AbS K t a)(hb:AbS K u b):AbS K (Zuy c t u) (Ztw ac a b):=fun ρ A σ H D' D hs g w k =>
 hc ρ A σ H _ _ hs g w fun c A1 H1 k1 g1 q1=>by
  cases c
  .exact ZhM (by decide) (hb ρ A1 σ H1 _ _ (hs.same k1) g1 (by simpa using q1) (k.same k1))
  .exact Zfr rfl (ha ρ A1 σ H1 _ _ (hs.same k1) g1 (by simpa using q1) (k.same k1))
abbrev AG:=U->ASt->AHp->(ASt->AHp->Prop)->Prop
abbrev AGs:=List U->ASt->AHp->(ASt->AHp->Prop)->Prop
abbrev Zvk(K:YFr)(H:Hp)(Q':ASt->AHp->Prop)(Q:St->Hp->Prop):Prop:=∀ρ A σ H',Kp K H H'->HR K H' A->RSt K H' ρ σ->Q' ρ A->Q σ H'
def AbG(K:YFr)(t:TG)(a:AG):Prop:=∀u v ρ A σ H Q' Q,RU K H u v->RSt K H ρ σ->HR K H A->a u ρ A Q'->Zvk K H Q' Q->t v σ H Q
def ZsD(K:YFr)(t:TGs)(a:AGs):Prop:=∀u v ρ A σ H Q' Q,RUs K H u v->RSt K H ρ σ->HR K H A->a u ρ A Q'->Zvk K H Q' Q->t v σ H Q
def Zdr(i:Nat):AG:=fun u ρ A Q=>Q (ρ.set i (some u)) A
def Zi:AbG K (ZfG i) (Zdr i):=fun u v ρ A σ H Q' Q r hs g w k=>k _ _ _ _ (.refl H) g (hs.set r i) w
def Zta:AGs:=fun us ρ A Q=>us=[]/\Q ρ A
def Zay:ZsD K ZuX Zta:=fun u v ρ A σ H Q' Q r hs g hq0 k=>by obtain⟨e,w⟩:=hq0;subst e;cases r;exact⟨rfl,k _ _ _ _ (.refl H) g hs w⟩
def ZkM(t:AG)(u:AGs):AGs:=fun us ρ A Q=>∃v r,us=v::r/\t v ρ A fun ρ' A'=>u r ρ' A' Q
def ZH(ha:AbG K t a)(hb:ZsD K u b):ZsD K (Zkz t u) (ZkM a b):=fun us vs ρ A σ H Q' Q r hs g hq0 k=>by
 obtain⟨x,xs,e,w⟩:=hq0
 subst e
 cases r with
 | cons r rr=>exact⟨_,_,rfl,ha _ _ _ _ _ _ _ _ r hs g w fun ρ1 A1 σ1 H1 k1 g1 s1 q1=>hb _ _ _ _ _ _ _ _ (rr.same k1) s1 g1 q1 fun ρ2 A2 σ2 H2 k2 g2 s2 q2=>k _ _ _ _ (k1.trans k2) g2 s2 q2⟩
def Zto(n:Nat)(t:AGs):AG:=fun u ρ A Q=>∃us,u=.tup us/\us.length=n/\t us ρ A Q
def Zaw(ha:ZsD K t a):AbG K (Zsw K n t) (Zto n a):=fun u v ρ A σ H Q' Q r hs g hq0 k=>by
 obtain⟨us,e,hn,w⟩:=hq0
 subst e
 cases r with
 | tup h rr=>exact⟨_,_,rfl,h,by rw[<- rr.length];exact hn,ha _ _ _ _ _ _ _ _ rr hs g w k⟩
def Zvn(a:AE)(b:AG):AS:=fun D ρ A=>a ρ A fun x A1=>b x ρ A1 D.nx
def Zu(ha:AbE K t a)(hb:AbG K tg b):AbS K (Zqm t tg) (Zvn a b):=fun ρ A σ H D' D hs g w k =>
 ha ρ A σ H _ _ hs g w fun x A1 v H1 k1 g1 r1 q1=>hb _ _ _ _ _ _ _ _ r1 (hs.same k1) g1 q1 fun ρ2 A2 σ2 H2 k2 g2 s2 q2=>k.nx _ _ _ _ (k1.trans k2) g2 s2 q2
def ZpV(c:AT)(b:AS):AS:=fun D ρ A=>∃W:Nat->ASt->AHp->Prop,(∃m,W m ρ A)/\∀m ρ A,W m ρ A ->
 c ρ A fun k A1=>if k=true then ∃N:ASt->AHp->Prop,(∀ρ' A',N ρ' A'->∃m',m'<m/\W m' ρ' A')/\b { D with nx:=N,ct:=N,bk:=D.nx } ρ A1 else D.nx ρ A1
def ZbZ(hc:AbT K c ac)(ha:AbS K t a):AbS K (ZmL c t) (ZpV ac a):=fun ρ A σ H D' D hs g hq0 k=>by
 obtain⟨W,⟨m0,w0⟩,turn⟩:=hq0
 refine⟨fun m σ1 H1=>∃ρ1 A1,Kp K H H1/\HR K H1 A1/\RSt K H1 ρ1 σ1/\W m ρ1 A1,⟨m0,ρ,A,.refl H,g,hs,w0⟩,?_⟩
 rintro m σ1 H1 ⟨ρ1,A1,k1,g1,s1,w1⟩
 refine hc ρ1 A1 σ1 H1 _ _ s1 g1 (turn m ρ1 A1 w1) fun b A2 H2 k2 g2 q2=>?_
 cases b
 .exact ZhM (by decide) (k.nx _ _ _ _ (k1.trans k2) g2 (s1.same k2) (by simpa using q2))
 .refine Zfr rfl ?_
  obtain⟨N,hN,q2⟩:=(by simpa using q2:∃N:ASt->AHp->Prop,(∀ρ' A',N ρ' A'->∃m',m'<m/\W m' ρ' A')/\a { D' with nx:=N,ct:=N,bk:=D'.nx } ρ1 A2)
  refine⟨fun σ' H'=>∃ρ' A',Kp K H H'/\HR K H' A'/\RSt K H' ρ' σ'/\N ρ' A',?_,?_⟩
  .rintro σ' H' ⟨ρ',A',k',g',s',n'⟩
   obtain⟨m',hm,w'⟩:=hN ρ' A' n'
   exact⟨m',hm,ρ',A',k',g',s',w'⟩
  .have k12:=k1.trans k2
   exact ha ρ1 A2 σ1 H2 _ _ (s1.same k2) g2 q2 ⟨fun ρ A σ H' k3 g3 s3 n3=>⟨ρ,A,k12.trans k3,g3,s3,n3⟩,(k.same k12).rt,fun ρ A σ H' k3 g3 s3 n3=>k.nx _ _ _ _ (k12.trans k3) g3 s3 n3,fun ρ A σ H' k3 g3 s3 n3=>⟨ρ,A,k12.trans k3,g3,s3,n3⟩⟩
end
abbrev AIt:=Nat->AHp->Option U->Prop
def AbJ(K:YFr)(H0:Hp)(J:It)(aj:AIt):Prop:=∀i A H r,Kp K H0 H->HR K H A->aj i A r->match r with
 | none=>J.stop i H
 | some u=>J.go i H/\∀x H',J.yld i H x H'->Kp K H H'/\HR K H' A/\RU K H' u x
abbrev AI:=ASt->AHp->(AIt->AHp->Prop)->Prop
def AbI(K:YFr)(wi:TI)(ai:AI):Prop:=∀ρ A σ H R' R,RSt K H ρ σ->HR K H A->ai ρ A R'->(∀aj A' J H',Kp K H H'->HR K H' A'->AbJ K H' J aj->R' aj A'->R J H')->wi σ H R
def ZfN(J:AIt)(g:AG)(b:AS)(D:ZaL)(ρ:ASt)(A:AHp):Prop:=∃W:Nat->Nat->ASt->AHp->Prop,(∃m,W 0 m ρ A)/\∀i m ρ A,W i m ρ A ->
 (J i A none/\D.nx ρ A)\/∃u,J i A (some u)/\∃N:ASt->AHp->Prop,(∀ρ' A',N ρ' A'->∃m',m'<m/\W (i+1) m' ρ' A')/\g u ρ A fun ρ2 A2=>b { D with nx:=N,ct:=N,bk:=D.nx } ρ2 A2
def Zu8(wi:AI)(g:AG)(b:AS):AS:=fun D ρ A=>wi ρ A fun J A1=>ZfN J g b D ρ A1
section
variable{K:YFr}
def Zag(hi:AbI K wi ai)(hg:AbG K g ag)(ha:AbS K t a):AbS K (ZvV wi g t) (Zu8 ai ag a):=fun ρ A σ H D' D hs g0 w k=>by
 refine hi ρ A σ H _ _ hs g0 w fun aj A1 J H1 k1 g1 hj q=>?_
 obtain⟨W,⟨m0,w0⟩,turn⟩:=q
 refine⟨fun i m σ2 H2=>∃ρ2 A2,Kp K H1 H2/\HR K H2 A2/\RSt K H2 ρ2 σ2/\W i m ρ2 A2,⟨m0,ρ,A1,.refl H1,g1,hs.same k1,w0⟩,?_⟩
 rintro i m σ2 H2 ⟨ρ2,A2,k2,g2,s2,w2⟩
 have k12:=k1.trans k2
 rcases turn i m ρ2 A2 w2 with⟨hstop,q⟩|⟨u,hgo,N,hN,q⟩
 .exact .inl ⟨hj i A2 H2 _ k2 g2 hstop,k.nx _ _ _ _ k12 g2 s2 q⟩
 .obtain⟨j1,j2⟩:=hj i A2 H2 _ k2 g2 hgo
  refine .inr ⟨j1,fun σ' H'=>∃ρ' A',Kp K H1 H'/\HR K H' A'/\RSt K H' ρ' σ'/\N ρ' A',?_,fun x H3 hy=>?_⟩
  .rintro σ' H' ⟨ρ',A',k',g',s',n'⟩
   obtain⟨m',hm,w'⟩:=hN ρ' A' n'
   exact⟨m',hm,ρ',A',k',g',s',w'⟩
  .obtain⟨k3,g3,r3⟩:=j2 x H3 hy
   refine hg _ _ _ _ _ _ _ _ r3 (s2.same k3) g3 q fun ρ4 A4 σ4 H4 k4 g4 s4 q4=>?_
   have k24:=k2.trans (k3.trans k4)
   exact ha ρ4 A4 σ4 H4 _ _ s4 g4 q4 ⟨fun ρ5 A5 σ5 H5 k5 g5 s5 n5=>⟨ρ5,A5,k24.trans k5,g5,s5,n5⟩,(k.same (k1.trans k24)).rt,fun ρ5 A5 σ5 H5 k5 g5 s5 n5=>k.nx _ _ _ _ ((k1.trans k24).trans k5) g5 s5 n5,fun ρ5 A5 σ5 H5 k5 g5 s5 n5=>⟨ρ5,A5,k24.trans k5,g5,s5,n5⟩⟩
def Zcx(us:List U):AIt:=fun i _ r=>r=us[i]?
def Zoh(a:Addr):AIt:=fun i A r=>∃us,A a=some (.lst us)/\r=us[i]?
def Zvy(y:U->AHp->(AIt->AHp->Prop)->Prop)(a:AE):AI:=fun ρ A R=>a ρ A fun x A1=>y x A1 R
def Zok(K:YFr)(u:V->Hp->(It->Hp->Prop)->Prop)(y:U->AHp->(AIt->AHp->Prop)->Prop):Prop:=∀x v A H R' R,RU K H x v->HR K H A->y x A R'->(∀aj A' J H',Kp K H H'->HR K H' A'->AbJ K H' J aj->R' aj A'->R J H')->u v H R
def ZO(hy:Zok K u y)(ha:AbE K t a):AbI K (jOf u t) (Zvy y a):=fun ρ A σ H R' R hs g w k =>
 ha ρ A σ H _ _ hs g w fun x A1 v H1 k1 g1 r1 q1=>hy _ _ _ _ _ _ r1 g1 q1 fun aj A2 J H2 k2 g2 hj q2=>k _ _ _ _ (k1.trans k2) g2 hj q2
def ZoI(h:SqR K H a vs)(r:RUs K H us vs):AbJ K H (Itl K a) (Zcx us):=fun i A H1 x k g e=>by
 have e:x=us[i]?:=e
 have h1:=(k.r _ _ h).sq
 have r1:=r.same k
 subst e
 cases hu:us[i]? with
 | none=>exact⟨vs,h1,by rw[<- r1.length];exact YH.mp hu⟩
 | some u =>
  obtain⟨v,hv,rv⟩:=r1.get' hu
  refine⟨⟨vs,v,h1,hv⟩,?_⟩
  rintro x H' ⟨rfl,hx⟩
  have:=hx vs h1
  rw[hv]at this;cases this
  exact⟨.refl _,g,rv⟩
def ZnM:AbJ K H (Itl K a) (Zoh a):=fun i A H1 x k g hq0=>by
 obtain⟨us,hA,e⟩:=hq0
 subst e
 obtain⟨vs,h1,r1⟩:=g.list hA
 have h1:SqL K H1 a vs:=SqL.of h1
 cases hu:us[i]? with
 | none=>exact⟨vs,h1,by rw[<- r1.length];exact YH.mp hu⟩
 | some u =>
  obtain⟨v,hv,rv⟩:=r1.get' hu
  refine⟨⟨vs,v,h1,hv⟩,?_⟩
  rintro x H' ⟨rfl,hx⟩
  have:=hx vs h1
  rw[hv]at this;cases this
  exact⟨.refl _,g,rv⟩
def ZoK(h:SqT K H a vs)(r:RUs K H us vs):AbJ K H (Itt K a) (Zcx us):=fun i A H1 x k g e=>by
 have e:x=us[i]?:=e
 have h1:=k.t _ _ h
 have r1:=r.same k
 subst e
 cases hu:us[i]? with
 | none=>exact⟨vs,h1,by rw[<- r1.length];exact YH.mp hu⟩
 | some u =>
  obtain⟨v,hv,rv⟩:=r1.get' hu
  refine⟨⟨vs,v,h1,hv⟩,?_⟩
  rintro x H' ⟨rfl,hx⟩
  have:=hx vs h1
  rw[hv]at this;cases this
  exact⟨.refl _,g,rv⟩
def Znw:U->AHp->(AIt->AHp->Prop)->Prop:=fun u A R=>match u with
 | .ref a=>(∃us,A a=some (.lst us))/\R (Zoh a) A
 | .rol us=>R (Zcx us) A
 | _=>False
def Zgl:Zok K (Zr0 K) Znw:=fun x v A H R' R r g w k=>by
 cases r with
 | ref a =>
  obtain⟨⟨us,hA⟩,w⟩:=w
  obtain⟨vs,h1,r1⟩:=g.list hA
  exact⟨⟨vs,SqL.of h1⟩,k _ _ _ _ (.refl H) g ZnM w⟩
 | rol h1 r1=>exact⟨⟨_,h1.sq⟩,k _ _ _ _ (.refl H) g (ZoI h1 r1) w⟩
 | _=>exact w.elim
def ZvD:U->AHp->(AIt->AHp->Prop)->Prop:=fun u A R=>match u with
 | .tup us=>R (Zcx us) A
 | _=>False
def Zo3:Zok K (Zqs K) ZvD:=fun x v A H R' R r g w k=>by
 cases r with
 | tup h1 r1=>exact⟨⟨_,h1⟩,k _ _ _ _ (.refl H) g (ZoK h1 r1) w⟩
 | _=>exact w.elim
def Zib(lo:Int)(n:Nat):List U:=(List.range n).map fun(i:Nat)=>.int (lo+(i:Int))
def Zec(lo:Int)(n i:Nat):(Zib lo n)[i]? = if i<n then some (.int (lo+(i:Int)))else none:=by
 unfold Zib;rw[Yi];by_cases h:i<n
 .rw[if_pos h,Ybp h];rfl
 .rw[if_neg h,Y3 (by rw[Yav];lia)];rfl
def rngU_len(lo:Int)(n:Nat):(Zib lo n).length=n:=by simp[Zib]
def ZoD{lo:Int}:AbJ K H (Itr lo n) (Zcx (Zib lo n)):=fun i A H1 x k g e=>by
 have e:x=(Zib lo n)[i]?:=e
 rw[Zec]at e
 subst e
 by_cases h:i<n
 .rw[if_pos h]
  refine⟨h,?_⟩
  rintro x H' ⟨rfl,rfl⟩
  exact⟨.refl _,g,.int _⟩
 .rw[if_neg h]
  exact YbE h
def Zly:List U->AHp->(AIt->AHp->Prop)->Prop:=fun us A R=>match us with
 | [.int j]=>-(2^62)<=j/\j<2^62/\R (Zcx (Zib 0 j.toNat)) A
 | _=>False
def Zo6(K:YFr)(u:List V->Hp->(It->Hp->Prop)->Prop)(y:List U->AHp->(AIt->AHp->Prop)->Prop):Prop:=∀x v A H R' R,RUs K H x v->HR K H A->y x A R'->(∀aj A' J H',Kp K H H'->HR K H' A'->AbJ K H' J aj->R' aj A'->R J H')->u v H R
def Zf2(y:List U->AHp->(AIt->AHp->Prop)->Prop)(l:AA):AI:=fun ρ A R=>l ρ A fun us A1=>y us A1 R
def Zet(hy:Zo6 K u y)(hl:AbA K t l):AbI K (Zlv u t) (Zf2 y l):=fun ρ A σ H R' R hs g w k =>
 hl ρ A σ H _ _ hs g w fun x A1 v H1 k1 g1 r1 q1=>hy _ _ _ _ _ _ r1 g1 q1 fun aj A2 J H2 k2 g2 hj q2=>k _ _ _ _ (k1.trans k2) g2 hj q2
def Zk5:Zo6 K ZkE Zly:=fun x v A H R' R r g w k=>by
 unfold Zly at w
 split at w
 .cases r with
  | cons r rr =>
   cases rr;cases r
   exact⟨w.1,w.2.1,k _ _ _ _ (.refl H) g ZoD w.2.2⟩
 .exact w.elim
def ZbI(hl:AbA K t l):AbI K (Zqu t) (Zf2 Zly l):=Zet (u:=ZkE) Zk5 hl
def enU(us:List U):List U:=us.zipIdx.map fun p=>.tup [.int (p.2:Nat),p.1]
def Zfy(us:List U)(i:Nat):(enU us)[i]? = (us[i]?).map fun u=>.tup [.int (i:Nat),u]:=by
 unfold enU;rw[Yi,List.getElem?_zipIdx];cases us[i]?<;>simp
def Zni(us:List U):(enU us).length=us.length:=by simp[enU]
def Zkl(a:Addr):AIt:=fun i A r=>∃us,A a=some (.lst us)/\r=(enU us)[i]?
def Zli:List U->AHp->(AIt->AHp->Prop)->Prop:=fun us A R=>match us with
 | [.ref a]=>(∃us,A a=some (.lst us))/\R (Zkl a) A
 | [.rol us]=>R (Zcx (enU us)) A
 | _=>False
def Zmm(h1:SqL K H a vs)(r1:RUs K H us vs)(g:HR K H A):match (enU us)[i]? with
  | none=>(Ite K a).stop i H
  | some u=>(Ite K a).go i H/\∀x H',(Ite K a).yld i H x H'->Kp K H H'/\HR K H' A/\RU K H' u x:=by
 rw[Zfy];cases hu:us[i]? with
 | none=>exact⟨vs,h1,by rw[<- r1.length];exact YH.mp hu⟩
 | some u =>
  obtain⟨v,hv,rv⟩:=r1.get' hu;refine⟨⟨vs,v,h1,hv⟩,?_⟩;rintro x H' ⟨T,x0,rfl,hT,rfl,hx⟩;have:=hx vs h1;rw[hv]at this;cases this;have s:=Zat.upd_new (o:=.tup [.int i,v]) hT;exact⟨s.kp,g.grow s,.tup (SqT.of Zv) (.cons (.int _) (.one (rv.same s.kp)))⟩
def ZoX(h1:SqT K H a vs)(r1:RUs K H us vs)(g:HR K H A):match (enU us)[i]? with
  | none=>(ZrT K a).stop i H
  | some u=>(ZrT K a).go i H/\∀x H',(ZrT K a).yld i H x H'->Kp K H H'/\HR K H' A/\RU K H' u x:=by
 rw[Zfy];cases hu:us[i]? with
 | none=>exact⟨vs,h1,by rw[<- r1.length];exact YH.mp hu⟩
 | some u =>
  obtain⟨v,hv,rv⟩:=r1.get' hu;refine⟨⟨vs,v,h1,hv⟩,?_⟩;rintro x H' ⟨T,x0,rfl,hT,rfl,hx⟩;have:=hx vs h1;rw[hv]at this;cases this;have s:=Zat.upd_new (o:=.tup [.int i,v]) hT;exact⟨s.kp,g.grow s,.tup (SqT.of Zv) (.cons (.int _) (.one (rv.same s.kp)))⟩
def ZgW:Zo6 K (Zoz K) Zli:=fun x v A H R' R r g w k=>by
 unfold Zli at w
 split at w
 .cases r with
  | cons r rr =>
   cases rr;cases r
   obtain⟨⟨us,hA⟩,w⟩:=w
   obtain⟨vs,h1,r1⟩:=g.list hA
   refine⟨⟨vs,SqL.of h1⟩,k _ _ _ _ (.refl H) g (fun i A1 H1 r k1 g1 ⟨us,hA,e⟩=>?_) w⟩
   subst e
   obtain⟨vs,h1,r1⟩:=g1.list hA
   exact Zmm (SqL.of h1) r1 g1
 .cases r with
  | cons r rr =>
   cases rr
   cases r with
   | rol h1 r1 =>
    refine⟨⟨_,h1.sq⟩,k _ _ _ _ (.refl H) g (fun i A1 H1 r k1 g1 e=>?_) w⟩
    have e:r=(enU _)[i]?:=e
    subst e
    exact Zmm (k1.r _ _ h1).sq (r1.same k1) g1
 .exact w.elim
def Zh7:List U->AHp->(AIt->AHp->Prop)->Prop:=fun us A R=>match us with
 | [.tup us]=>R (Zcx (enU us)) A
 | _=>False
def ZiV:Zo6 K (Zit K) Zh7:=fun x v A H R' R r g w k=>by
 unfold Zh7 at w
 split at w
 .cases r with
  | cons r rr =>
   cases rr
   cases r with
   | tup h1 r1 =>
    refine⟨⟨_,h1⟩,k _ _ _ _ (.refl H) g (fun i A1 H1 r k1 g1 e=>?_) w⟩
    have e:r=(enU _)[i]?:=e
    subst e
    exact ZoX (k1.t _ _ h1) (r1.same k1) g1
 .exact w.elim
def aCompStart(nt:Nat)(frs:List (Str×Nat))(ρ:ASt):ASt:=List.replicate nt none++frs.map fun p=>(ρ[p.2]?).join
def RSt.join:∀ {ρ:ASt} {σ:St} (i:Nat) {ρ2:ASt} {σ2:St},RSt K H ρ σ->RSt K H ρ2 σ2->RSt K H ((ρ[i]?).join::ρ2) ((σ[i]?).join::σ2)
 | _,_,_,_,_,.nil,q=>by simpa using .skip q
 | _,_,0,_,_,.skip _,q=>by simpa using .skip q
 | _,_,i+1,_,_,.skip r,q=>by simpa using RSt.join i r q
 | _,_,0,_,_,.cons h _,q=>by simpa using .cons h q
 | _,_,i+1,_,_,.cons _ r,q=>by simpa using RSt.join i r q
def RSt.comp(h:RSt K H ρ σ)(nt:Nat)(frs:List (Str×Nat)):RSt K H (aCompStart nt frs ρ) (Zam nt frs σ):=by
 unfold aCompStart Zam;induction nt with
 | zero =>
  simp only[List.replicate_zero,List.nil_append];induction frs with
  | nil=>exact .nil
  | cons p frs ih=>simp only[Yq];exact h.join p.2 ih
 | succ n ih=>simp only[List.replicate_succ,List.cons_append];exact .skip ih
def aCL(J:AIt)(g:AG)(tt:AT)(te:AE)(l:Addr)(Q:AVK)(τ:ASt)(A:AHp):Prop:=∃W:Nat->Nat->ASt->AHp->Prop,(∃m,W 0 m τ A) /\
 ∀i m τ A,W i m τ A->(J i A none/\Q (.ref l) A)\/∃u,J i A (some u)/\g u τ A fun τ2 A2=>tt τ2 A2 fun ok A3 =>
  if ok=true then te τ2 A3 fun y A4=>∃ys,A4 l=some (.lst ys)/\ys.length<sizeLine/\∃m',m'<m/\W (i+1) m' τ2 (updA A4 l (.lst (ys++[y])))else ∃m',m'<m/\W (i+1) m' τ2 A3
def Zrt(nt:Nat)(frs:List (Str×Nat))(wi:AI)(g:AG)(tt:AT)(te:AE):AE:=fun ρ A Q=>wi ρ A fun J A1=>∀l,A1 l=none->aCL J g tt te l Q (aCompStart nt frs ρ) (updA A1 l (.lst []))
def Zaz{frs:List (Str×Nat)}(hi:AbI K wi ai)(hg:AbG K g ag)(ht:AbT K tt at')(he:AbE K te ae):AbE K (Zle nt frs wi g tt te) (Zrt nt frs ai ag at' ae):=fun ρ A σ H Q' Q hs g0 w k=>by
 refine hi ρ A σ H _ _ hs g0 w fun aj A1 J H1 k1 g1 hj q=>?_
 intro l hl
 obtain⟨W,⟨m0,w0⟩,turn⟩:=q l (g1.none hl)
 have kl:Kp K H1 (upd H1 l (.lst [])):=(Zat.upd_new hl).kp
 refine⟨fun i m τ H2=>∃τ' A2,Kp K H1 H2/\HR K H2 A2/\RSt K H2 τ' τ/\W i m τ' A2,⟨m0,_,_,kl,g1.newL hl .nil,(hs.same (k1.trans kl)).comp nt frs,w0⟩,?_⟩
 rintro i m τ H2 ⟨τ',A2,k2,g2,s2,w2⟩
 have k12:=k1.trans k2
 rcases turn i m τ' A2 w2 with⟨hstop,q⟩|⟨u,hgo,q⟩
 .exact .inl ⟨hj i A2 H2 _ k2 g2 hstop,k _ _ _ _ k12 g2 (.ref l) q⟩
 .obtain⟨j1,j2⟩:=hj i A2 H2 _ k2 g2 hgo
  refine .inr ⟨j1,fun x H3 hy=>?_⟩
  obtain⟨k3,g3,r3⟩:=j2 x H3 hy
  refine hg _ _ _ _ _ _ _ _ r3 (s2.same k3) g3 q fun ρ4 A4 σ4 H4 k4 g4 s4 q4=>ht ρ4 A4 σ4 H4 _ _ s4 g4 q4 fun b A5 H5 k5 g5 q5=>?_
  have k25:=k2.trans (k3.trans (k4.trans k5))
  cases b
  .refine ZhM (by decide) ?_
   obtain⟨m',hm,w'⟩:=(by simpa using q5:∃m',m'<m/\W (i+1) m' ρ4 A5)
   exact⟨m',hm,_,_,k25,g5,s4.same k5,w'⟩
  .refine Zfr rfl (he ρ4 A5 σ4 H5 _ _ (s4.same k5) g5 (by simpa using q5) fun y A6 v6 H6 k6 g6 r6 q6=>?_)
   obtain⟨ys,hA,hz,m',hm,w'⟩:=q6
   obtain⟨vs,h6,r7⟩:=g6.list hA
   exact⟨vs,h6,by rw[<- r7.length];exact hz,m',hm,_,_,k25.trans (k6.trans (Kp.lst h6)),g6.setL h6 (r7.app (.one r6)),(s4.same (k5.trans (k6.trans (Kp.lst h6)))),w'⟩
end
section
variable{K:YFr}
def Zpc:AR2:=fun u w A Q=>match u,w with
 | .int i,.int j=>Q (.int (i+j)) A
 | .str i,.str j=>i.length+j.length<=sizeLine/\Q (.str (i++j)) A
 | .tup xs,.tup ys=>xs.length+ys.length<=sizeLine/\Q (.tup (xs++ys)) A
 | .ref a,.ref b=>∃xs ys,A a=some (.lst xs)/\A b=some (.lst ys)/\xs.length+ys.length<=sizeLine/\∀p,A p=none->Q (.ref p) (updA A p (.lst (xs++ys)))
 | _,_=>False
def Zbj:AbR K (ZlC K) Zpc:=fun x y u w A H Q' Q hu hw g h k=>by
 unfold Zpc at h
 split at h
 .cases hu;cases hw;exact k _ _ _ _ (.refl H) g (.int _) h
 .cases hu;cases hw;exact⟨h.1,k _ _ _ _ (.refl H) g (.str _) h.2⟩
 .cases hu with
  | tup h1 r1 =>
   cases hw with
   | tup h2 r2 =>
    refine .inr ⟨_,_,h1,h2,by rw[<- r1.length,<- r2.length];exact h.1,fun p H' s hp=>k _ _ _ _ s.kp (g.grow s) (.tup hp ((r1.app r2).same s.kp)) h.2⟩
 .cases hu;cases hw
  obtain⟨xs,ys,e1,e2,hz,q⟩:=h
  obtain⟨vs,h1,r1⟩:=g.list e1
  obtain⟨zs,h2,r2⟩:=g.list e2
  exact .inl ⟨vs,zs,SqL.of h1,SqL.of h2,by rw[<- r1.length,<- r2.length];exact hz,fun p hp=>k _ _ _ _ (Zat.upd_new hp).kp (g.newL hp (r1.app r2)) (.ref p) (q p (g.none hp))⟩
 .exact h.elim
def xI2(C:Int->Int->Prop)(f:Int->Int->U):AR2:=fun u w A Q=>match u,w with
 | .int i,.int j=>C i j/\Q (f i j) A
 | _,_=>False
def xI(f:Int->Int->U):AR2:=fun u w A Q=>match u,w with
 | .int i,.int j=>Q (f i j) A
 | _,_=>False
def Zf6:AbR K Zuh (xI fun i j=>.int (i-j)):=fun x y u w A H Q' Q hu hw g h k=>by
 unfold xI at h
 split at h
 .cases hu;cases hw;exact k _ _ _ _ (.refl H) g (.int _) h
 .exact h.elim
def ZsF:AR2:=fun u w A Q=>match u,w with
 | .int i,.int j=>IntMulOk i j/\Q (.int (i*j)) A
 | .ref a,.int m=>∃xs,A a=some (.lst xs)/\-(2^63)<=m/\m<2^63/\xs.length*m.toNat<=sizeLine/\∀p,A p=none->Q (.ref p) (updA A p (.lst (List.replicate m.toNat xs).flatten))
 | _,_=>False
def RUs.flat(r:RUs K H us vs):∀n,RUs K H (List.replicate n us).flatten (List.replicate n vs).flatten
 | 0=>.nil
 | n+1=>by rw[List.replicate_succ,List.replicate_succ,List.flatten_cons,List.flatten_cons];exact r.app (r.flat n)
def Zgb:AbR K ZoU ZsF:=fun x y u w A H Q' Q hu hw g h k=>by
 unfold ZsF at h
 split at h
 .cases hu;cases hw;exact⟨h.1,k _ _ _ _ (.refl H) g (.int _) h.2⟩
 .cases hu;cases hw
  obtain⟨xs,e1,b1,b2,hz,q⟩:=h
  obtain⟨vs,h1,r1⟩:=g.list e1
  exact⟨_,_,vs,rfl,rfl,h1,b1,b2,by rw[<- r1.length];exact hz,fun p hp=>k _ _ _ _ (Zat.upd_new hp).kp (g.newL hp (r1.flat _)) (.ref p) (q p (g.none hp))⟩
 .exact h.elim
def ZgH:AbR K ZuT (xI2 ZuA fun i j=>.int (i / j)):=fun x y u w A H Q' Q hu hw g h k=>by
 unfold xI2 at h
 split at h
 .cases hu;cases hw;exact⟨h.1,k _ _ _ _ (.refl H) g (.int _) h.2⟩
 .exact h.elim
def Za1:AbR K ZsU (xI2 (fun _ j=>0<j) fun i j=>.int (i % j)):=fun x y u w A H Q' Q hu hw g h k=>by
 unfold xI2 at h
 split at h
 .cases hu;cases hw;exact⟨h.1,k _ _ _ _ (.refl H) g (.int _) h.2⟩
 .exact h.elim
def Zh5:AbR K ZtS (xI2 ZsT fun i j=>.int (i^j.toNat)):=fun x y u w A H Q' Q hu hw g h k=>by
 unfold xI2 at h
 split at h
 .cases hu;cases hw;exact⟨h.1,k _ _ _ _ (.refl H) g (.int _) h.2⟩
 .exact h.elim
def xLt:AR2:=fun u w A Q=>match u,w with
 | .int i,.int j=>Q (.bl (decide (i<j))) A
 | .str i,.str j=>Q (.bl (decide (i.cps.toList<j.cps.toList))) A
 | _,_=>False
def Zqe:AbR K uLt xLt:=fun x y u w A H Q' Q hu hw g h k=>by
 unfold xLt at h
 split at h
 .cases hu;cases hw;exact k _ _ _ _ (.refl H) g (.bl _) h
 .cases hu;cases hw;exact k _ _ _ _ (.refl H) g (.bl _) h
 .exact h.elim
def Zjr:AbR K uGt (xI fun i j=>.bl (decide (j<i))):=fun x y u w A H Q' Q hu hw g h k=>by
 unfold xI at h
 split at h
 .cases hu;cases hw;exact k _ _ _ _ (.refl H) g (.bl _) h
 .exact h.elim
mutual
inductive DU (A:AHp):U->PyData->Prop
 | non:DU A .non .none
 | bl (b:Bool):DU A (.bl b) (.bool b)
 | int (i:Int):DU A (.int i) (.int i)
 | str (x:Str):DU A (.str x) (.str x)
 | tup {us:List U} {ds:List PyData}:DUs A us ds->DU A (.tup us) (.tuple ds)
 | rol {us:List U} {ds:List PyData}:DUs A us ds->DU A (.rol us) (.list ds)
 | lst {a:Addr} {us:List U} {ds:List PyData}:A a=some (.lst us)->DUs A us ds->DU A (.ref a) (.list ds)
inductive DUs (A:AHp):List U->List PyData->Prop
 | nil:DUs A [] []
 | cons {u:U} {d:PyData} {us:List U} {ds:List PyData}:DU A u d->DUs A us ds->DUs A (u::us) (d::ds)
end
mutual
theorem DU.rep {A:AHp} {H:Hp} (g:HR K H A):∀ {u:U} {v:V} {d:PyData},DU A u d->RU K H u v->Rep K H d v:=by
 intro u v d h r
 cases h with
 | non=>cases r;exact .non
 | bl b=>cases r;exact .bl b
 | int b=>cases r;exact .int b
 | str b=>cases r;exact .str b
 | tup q=>cases r with|tup h r=>exact .tup h (DUs.reps g q r)
 | rol q=>cases r with|rol h r=>exact .lst h.sq (DUs.reps g q r)
 | lst e q =>
  cases r
  obtain⟨vs,h,r⟩:=g.list e
  exact .lst (SqL.of h) (DUs.reps g q r)
theorem DUs.reps {A:AHp} {H:Hp} (g:HR K H A):∀ {us:List U} {vs:List V} {ds:List PyData},DUs A us ds->RUs K H us vs->ZeA K H ds vs
 | _,_,_,.nil,.nil=>.nil
 | _,_,_,.cons h r,.cons q s=>.cons (DU.rep g h q) (DUs.reps g r s)
end
def Za5(ne:Bool)(u w:U)(A:AHp)(Q:AVK):Prop:=∃d e,DU A u d/\DU A w e/\d.canLay0=true/\e.canLay0=true/\d.depth<=190/\Q (.bl (if ne then !PyData.eqv d e else PyData.eqv d e)) A
def xEq:AR2:=fun u w A Q=>match u,w with
 | .int i,.int j=>Q (.bl (decide (i=j))) A
 | .str i,.str j=>Q (.bl (decide (i=j))) A
 | .bl i,.bl j=>Q (.bl (decide (i=j))) A
 | .tup us,.tup ws=>Za5 false (.tup us) (.tup ws) A Q
 | .ref a,.ref b=>Za5 false (.ref a) (.ref b) A Q
 | .rol a,.ref b=>Za5 false (.rol a) (.ref b) A Q
 | .tup us,.non=>Za5 false (.tup us) .non A Q
 | .non,.tup us=>Za5 false .non (.tup us) A Q
 | .non,.non=>Q (.bl true) A
 | .non,.str _=>Q (.bl false) A
 | .str _,.non=>Q (.bl false) A
 | _,_=>False
def Za9(hu:RU K H u x)(hw:RU K H w y)(g:HR K H A)(h:Za5 ne u w A Q')(k:Aft K H Q' Q):ZoA K ne x y H Q:=by
 obtain⟨d,e,h1,h2,c1,c2,dp,q⟩:=h;exact⟨d,e,h1.rep g hu,h2.rep g hw,c1,c2,dp,k _ _ _ _ (.refl H) g (.bl _) q⟩
def ZaN:AbR K (Zsx K) xEq:=fun x y u w A H Q' Q hu hw g h k=>by
 unfold xEq at h
 split at h
 .cases hu;cases hw;exact k _ _ _ _ (.refl H) g (.bl _) h
 .cases hu;cases hw;exact k _ _ _ _ (.refl H) g (.bl _) h
 .cases hu;cases hw;exact k _ _ _ _ (.refl H) g (.bl _) h
 .have:=Za9 hu hw g h k;cases hu;exact this
 .have:=Za9 hu hw g h k;cases hu;exact this
 .have:=Za9 hu hw g h k;cases hu;exact this
 .have:=Za9 hu hw g h k;cases hu;exact this
 .have:=Za9 hu hw g h k;cases hu;cases hw;exact this
 .cases hu;cases hw;exact k _ _ _ _ (.refl H) g (.bl _) h
 .cases hu;cases hw;exact k _ _ _ _ (.refl H) g (.bl _) h
 .cases hu;cases hw;exact k _ _ _ _ (.refl H) g (.bl _) h
 .exact h.elim
def xNe:AR2:=fun u w A Q=>match u,w with
 | .int i,.int j=>Q (.bl (!decide (i=j))) A
 | .str i,.str j=>Q (.bl (!decide (i=j))) A
 | .bl i,.bl j=>Q (.bl (!decide (i=j))) A
 | .tup us,.tup ws=>Za5 true (.tup us) (.tup ws) A Q
 | .ref a,.ref b=>Za5 true (.ref a) (.ref b) A Q
 | .rol a,.ref b=>Za5 true (.rol a) (.ref b) A Q
 | .tup us,.non=>Za5 true (.tup us) .non A Q
 | .non,.tup us=>Za5 true .non (.tup us) A Q
 | .non,.non=>Q (.bl false) A
 | .non,.str _=>Q (.bl true) A
 | .str _,.non=>Q (.bl true) A
 | _,_=>False
def Zd0:AbR K (Ztz K) xNe:=fun x y u w A H Q' Q hu hw g h k=>by
 unfold xNe at h
 split at h
 .cases hu;cases hw;exact k _ _ _ _ (.refl H) g (.bl _) h
 .cases hu;cases hw;exact k _ _ _ _ (.refl H) g (.bl _) h
 .cases hu;cases hw;exact k _ _ _ _ (.refl H) g (.bl _) h
 .have:=Za9 hu hw g h k;cases hu;exact this
 .have:=Za9 hu hw g h k;cases hu;exact this
 .have:=Za9 hu hw g h k;cases hu;exact this
 .have:=Za9 hu hw g h k;cases hu;exact this
 .have:=Za9 hu hw g h k;cases hu;cases hw;exact this
 .cases hu;cases hw;exact k _ _ _ _ (.refl H) g (.bl _) h
 .cases hu;cases hw;exact k _ _ _ _ (.refl H) g (.bl _) h
 .cases hu;cases hw;exact k _ _ _ _ (.refl H) g (.bl _) h
 .exact h.elim
def U.isNon:U->Bool
 | .non=>true
 | _=>false
def ZvU:AR2:=fun u w A Q=>w=.non/\Q (.bl u.isNon) A
def Zod:AR2:=fun u w A Q=>w=.non/\Q (.bl (!u.isNon)) A
def ZlM:AbR K (fun x y H Q=>y=.non/\Q (.bl (decide (x=.non))) H) ZvU:=fun x y u w A H Q' Q hu hw g hq0 k=>by
 obtain⟨e,h⟩:=hq0
 subst e;cases hw
 refine⟨rfl,?_⟩
 have:decide (x=V.non)=u.isNon:=by cases hu<;>simp[U.isNon]
 rw[this]
 exact k _ _ _ _ (.refl H) g (.bl _) h
def ZfF:AbR K (fun x y H Q=>y=.non/\Q (.bl (!decide (x=.non))) H) Zod:=fun x y u w A H Q' Q hu hw g hq0 k=>by
 obtain⟨e,h⟩:=hq0
 subst e;cases hw
 refine⟨rfl,?_⟩
 have:decide (x=V.non)=u.isNon:=by cases hu<;>simp[U.isNon]
 rw[this]
 exact k _ _ _ _ (.refl H) g (.bl _) h
def U.flat:U->Bool
 | .non=>true
 | .bl _=>true
 | .int _=>true
 | .str _=>true
 | _=>false
def U.toV:U->V
 | .bl b=>.bl b
 | .int i=>.int i
 | .str x=>.str x
 | _=>.non
def RU.flat(h:RU K H u v)(f:u.flat=true):v=u.toV/\Zbh v=true:=by
 cases h<;>first|exact⟨rfl,rfl⟩|cases f
def RUs.flats:∀ {us:List U} {vs:List V},RUs K H us vs->us.all U.flat=true->vs=us.map U.toV/\vs.all Zbh=true
 | _,_,.nil,_=>⟨rfl,rfl⟩
 | _, _,.cons h r,f=>by
  rw[List.all_cons,YU]at f
  obtain⟨e1,f1⟩:=h.flat f.1
  obtain⟨e2,f2⟩:=RUs.flats r f.2
  exact⟨by rw[Yq,e1,e2],by rw[List.all_cons,f1,f2];rfl⟩
def inU(u:U)(us:List U):Bool:=inV u.toV (us.map U.toV)
def Zj9(neg:Bool):AR2:=fun u w A Q=>match w with
 | .str j=>∃i,u=.str i/\Q (.bl (if neg then !occ j i else occ j i)) A
 | .tup us=>u.flat=true/\us.all U.flat=true/\Q (.bl (if neg then !inU u us else inU u us)) A
 | .rol us=>u.flat=true/\us.all U.flat=true/\Q (.bl (if neg then !inU u us else inU u us)) A
 | .ref a=>∃us,A a=some (.lst us)/\u.flat=true/\us.all U.flat=true/\Q (.bl (if neg then !inU u us else inU u us)) A
 | _=>False
abbrev xIn:=Zj9 false
abbrev ZvO:=Zj9 true
def Zqk{xs:List V}(fx:Zbh x=true)(h:∃xs,Sq K H p xs/\Zbh x=true/\xs.all Zbh=true/\Q (.bl (inV x xs)) H):uIn K x (.ref p) H Q:=by
 cases x<;>exact h
def Zn3{xs:List V}(fx:Zbh x=true)(h:∃xs,Sq K H p xs/\Zbh x=true/\xs.all Zbh=true/\Q (.bl (!inV x xs)) H):Zqi K x (.ref p) H Q:=by
 cases x<;>exact h
def ZmT(hu:RU K H u x)(hs:Sq K H p vs)(r:RUs K H us vs)(g:HR K H A)(f:u.flat=true)(fs:us.all U.flat=true)(h:Q' (.bl (inU u us)) A)(k:Aft K H Q' Q):uIn K x (.ref p) H Q:=by
 obtain⟨e1,f1⟩:=hu.flat f;obtain⟨e2,f2⟩:=r.flats fs;refine Zqk (xs:=vs) f1 ⟨vs,hs,f1,f2,k _ _ _ _ (.refl H) g (.bl _) ?_⟩;rw[e1,e2];exact h
def ZjO(hu:RU K H u x)(hs:Sq K H p vs)(r:RUs K H us vs)(g:HR K H A)(f:u.flat=true)(fs:us.all U.flat=true)(h:Q' (.bl (!inU u us)) A)(k:Aft K H Q' Q):Zqi K x (.ref p) H Q:=by
 obtain⟨e1,f1⟩:=hu.flat f;obtain⟨e2,f2⟩:=r.flats fs;refine Zn3 (xs:=vs) f1 ⟨vs,hs,f1,f2,k _ _ _ _ (.refl H) g (.bl _) ?_⟩;rw[e1,e2];exact h
def Zi0:AbR K (uIn K) xIn:=fun x y u w A H Q' Q hu hw g h k=>by
 unfold xIn Zj9 at h
 split at h
 .obtain⟨i,rfl,h⟩:=h
  cases hw;cases hu;exact k _ _ _ _ (.refl H) g (.bl _) h
 .cases hw with
  | tup h1 r1=>exact ZmT hu (.inr h1) r1 g h.1 h.2.1 h.2.2 k
 .cases hw with
  | rol h1 r1=>exact ZmT hu (.inl h1.sq) r1 g h.1 h.2.1 h.2.2 k
 .cases hw
  obtain⟨us,e,h⟩:=h
  obtain⟨vs,h1,r1⟩:=g.list e
  exact ZmT hu (.inl (SqL.of h1)) r1 g h.1 h.2.1 h.2.2 k
 .exact h.elim
def Zl7:AbR K (Zqi K) ZvO:=fun x y u w A H Q' Q hu hw g h k=>by
 unfold ZvO Zj9 at h
 split at h
 .obtain⟨i,rfl,h⟩:=h
  cases hw;cases hu;exact k _ _ _ _ (.refl H) g (.bl _) h
 .cases hw with
  | tup h1 r1=>exact ZjO hu (.inr h1) r1 g h.1 h.2.1 h.2.2 k
 .cases hw with
  | rol h1 r1=>exact ZjO hu (.inl h1.sq) r1 g h.1 h.2.1 h.2.2 k
 .cases hw
  obtain⟨us,e,h⟩:=h
  obtain⟨vs,h1,r1⟩:=g.list e
  exact ZjO hu (.inl (SqL.of h1)) r1 g h.1 h.2.1 h.2.2 k
 .exact h.elim
def RUs.at(r:RUs K H us vs)(h:atI us i=some u):∃v,atI vs i=some v/\RU K H u v:=by
 unfold atI at h ⊢;rw[<- r.length];cases e:ixN us.length i with
 | none=>rw[e]at h;cases h
 | some j=>rw[e]at h;exact r.get' h
def xIx:AR2:=fun u w A Q=>match u,w with
 | .str z,.int i=>z.length<=sizeLine/\∃c,atI z.cps.toList i=some c/\Q (.str ⟨#[c]⟩) A
 | .tup us,.int i=>∃x,atI us i=some x/\Q x A
 | .rol us,.int i=>∃x,atI us i=some x/\Q x A
 | .ref a,.int i=>∃us x,A a=some (.lst us)/\atI us i=some x/\Q x A
 | _,_=>False
def ZM:AbR K (uIx K) xIx:=fun x y u w A H Q' Q hu hw g h k=>by
 unfold xIx at h
 split at h
 .cases hu;cases hw
  obtain⟨hz,c,e,h⟩:=h
  exact⟨hz,c,e,k _ _ _ _ (.refl H) g (.str _) h⟩
 .cases hw
  obtain⟨x,e,h⟩:=h
  cases hu with
  | tup h1 r1 =>
   obtain⟨v,e2,rv⟩:=r1.at e
   exact⟨_,v,.inr h1,e2,k _ _ _ _ (.refl H) g rv h⟩
 .cases hw
  obtain⟨x,e,h⟩:=h
  cases hu with
  | rol h1 r1 =>
   obtain⟨v,e2,rv⟩:=r1.at e
   exact⟨_,v,.inl h1.sq,e2,k _ _ _ _ (.refl H) g rv h⟩
 .cases hw;cases hu
  obtain⟨us,x,e0,e,h⟩:=h
  obtain⟨vs,h1,r1⟩:=g.list e0
  obtain⟨v,e2,rv⟩:=r1.at e
  exact⟨_,v,.inl (SqL.of h1),e2,k _ _ _ _ (.refl H) g rv h⟩
 .exact h.elim
def ZhA(xs:List U)(lo hi:Option Int):List U:=(xs.drop (HT.sIx xs.length 0 lo)).take (HT.sIx xs.length xs.length hi-HT.sIx xs.length 0 lo)
def RUs.cut(r:RUs K H us vs)(lo hi:Option Int):RUs K H (ZhA us lo hi) (Zg7 vs lo hi):=by
 unfold ZhA Zg7;rw[r.length];exact(r.drop _).take _
def xSl:U->Option Int->Option Int->AHp->AVK->Prop:=fun u lo hi A Q=>match u with
 | .str z=>z.length<=sizeLine/\Q (.str (Zpd z lo hi)) A
 | .tup us=>Q (.tup (ZhA us lo hi)) A
 | .rol us=>∀p,A p=none->Q (.ref p) (updA A p (.lst (ZhA us lo hi)))
 | .ref a=>∃us,A a=some (.lst us)/\∀p,A p=none->Q (.ref p) (updA A p (.lst (ZhA us lo hi)))
 | _=>False
def ZdE:Zvm K (ZsK K) xSl:=fun x u lo hi A H Q' Q hu g h k=>by
 unfold xSl at h
 split at h
 .cases hu;exact⟨h.1,k _ _ _ _ (.refl H) g (.str _) h.2⟩
 .cases hu with
  | tup h1 r1=>exact .inr ⟨_,h1,fun p H' s hp=>k _ _ _ _ s.kp (g.grow s) (.tup hp ((r1.cut lo hi).same s.kp)) h⟩
 .cases hu with
  | rol h1 r1=>exact .inl ⟨_,h1.sq,fun p hp=>k _ _ _ _ (Zat.upd_new hp).kp (g.newL hp (r1.cut lo hi)) (.ref p) (h p (g.none hp))⟩
 .cases hu
  obtain⟨us,e,h⟩:=h
  obtain⟨vs,h1,r1⟩:=g.list e
  exact .inl ⟨_,SqL.of h1,fun p hp=>k _ _ _ _ (Zat.upd_new hp).kp (g.newL hp (r1.cut lo hi)) (.ref p) (h p (g.none hp))⟩
 .exact h.elim
def Zo5:List U->AHp->AVK->Prop:=fun us A Q=>match us with
 | [.str z]=>z.length<=sizeLine/\Q (.int z.length) A
 | [.tup us]=>Q (.int us.length) A
 | [.rol us]=>Q (.int us.length) A
 | [.ref a]=>∃us,A a=some (.lst us)/\Q (.int us.length) A
 | _=>False
def RUs.inv1(h:RUs K H [u] vs):∃v,vs=[v]/\RU K H u v:=by
 cases h with
 | cons h r=>cases r;exact⟨_,rfl,h⟩
def RUs.inv2(h:RUs K H [u,w] vs):∃v x,vs=[v,x]/\RU K H u v/\RU K H w x:=by
 cases h with
 | cons h r=>obtain⟨x,rfl,r'⟩:=r.inv1;exact⟨_,x,rfl,h,r'⟩
def Zbq:AbL K (ZsN K) Zo5:=fun xs us A H Q' Q r g h k=>by
 unfold Zo5 at h
 split at h
 .obtain⟨v,rfl,r'⟩:=r.inv1;cases r';exact⟨h.1,k _ _ _ _ (.refl H) g (.int _) h.2⟩
 .obtain⟨v,rfl,r'⟩:=r.inv1
  cases r' with
  | tup h1 r1=>exact⟨_,.inr h1,k _ _ _ _ (.refl H) g (.int _) (by rw[<- r1.length];exact h)⟩
 .obtain⟨v,rfl,r'⟩:=r.inv1
  cases r' with
  | rol h1 r1=>exact⟨_,.inl h1.sq,k _ _ _ _ (.refl H) g (.int _) (by rw[<- r1.length];exact h)⟩
 .obtain⟨v,rfl,r'⟩:=r.inv1
  cases r'
  obtain⟨us,e,h⟩:=h
  obtain⟨vs,h1,r1⟩:=g.list e
  exact⟨_,.inl (SqL.of h1),k _ _ _ _ (.refl H) g (.int _) (by rw[<- r1.length];exact h)⟩
 .exact h.elim
def ZpW:List U->AHp->AVK->Prop:=fun us A Q=>match us with
 | [.int i,.int j]=>Q (.int (min i j)) A
 | [.ref a]=>∃ns:List Int,A a=some (.lst (ns.map U.int))/\1<=ns.length/\∀m,m∈ns->(∀x∈ns,m<=x)->Q (.int m) A
 | _=>False
def ZrM:AbL K (ZnN K) ZpW:=fun xs us A H Q' Q r g h k=>by
 unfold ZpW at h
 split at h
 .obtain⟨v,x,rfl,r1,r2⟩:=r.inv2;cases r1;cases r2;exact k _ _ _ _ (.refl H) g (.int _) h
 .obtain⟨v,rfl,r'⟩:=r.inv1;cases r'
  obtain⟨ns,e,hn,h⟩:=h
  obtain⟨vs,h1,r1⟩:=g.list e
  exact⟨ns,SqL.of (by rw[h1,r1.ints]),hn,fun m hm hx=>k _ _ _ _ (.refl H) g (.int _) (h m hm hx)⟩
 .exact h.elim
def Ztb:List U->AHp->AVK->Prop:=fun us A Q=>match us with
 | [.ref a]=>∃ns:List Int,A a=some (.lst (ns.map U.int))/\Q (.int ns.sum) A
 | _=>False
def Zpz:AbL K (Zut K) Ztb:=fun xs us A H Q' Q r g h k=>by
 unfold Ztb at h
 split at h
 .obtain⟨v,rfl,r'⟩:=r.inv1;cases r'
  obtain⟨ns,e,h⟩:=h
  obtain⟨vs,h1,r1⟩:=g.list e
  exact⟨ns,SqL.of (by rw[h1,r1.ints]),k _ _ _ _ (.refl H) g (.int _) h⟩
 .exact h.elim
def Zc4:List U->AHp->AVK->Prop:=fun us A Q=>match us with
 | [.tup us]=>∀p,A p=none->Q (.ref p) (updA A p (.lst us))
 | [.rol us]=>∀p,A p=none->Q (.ref p) (updA A p (.lst us))
 | [.ref a]=>∃us,A a=some (.lst us)/\∀p,A p=none->Q (.ref p) (updA A p (.lst us))
 | _=>False
def Zih:AbL K (ZdY K) Zc4:=fun xs us A H Q' Q r g h k=>by
 unfold Zc4 at h
 split at h
 .obtain⟨v,rfl,r'⟩:=r.inv1
  cases r' with
  | tup h1 r1=>exact⟨_,.inr h1,fun p hp=>k _ _ _ _ (Zat.upd_new hp).kp (g.newL hp r1) (.ref p) (h p (g.none hp))⟩
 .obtain⟨v,rfl,r'⟩:=r.inv1
  cases r' with
  | rol h1 r1=>exact⟨_,.inl h1.sq,fun p hp=>k _ _ _ _ (Zat.upd_new hp).kp (g.newL hp r1) (.ref p) (h p (g.none hp))⟩
 .obtain⟨v,rfl,r'⟩:=r.inv1
  cases r'
  obtain⟨us,e,h⟩:=h
  obtain⟨vs,h1,r1⟩:=g.list e
  exact⟨_,.inl (SqL.of h1),fun p hp=>k _ _ _ _ (Zat.upd_new hp).kp (g.newL hp r1) (.ref p) (h p (g.none hp))⟩
 .exact h.elim
def Znt:U->AHp->Prop:=fun u A=>match u with
 | .ref a=>∃us,A a=some (.lst us)
 | _=>False
def ZP:AbY K "list" Znt:=fun x u A H r g h=>by
 unfold Znt at h
 split at h
 .cases r
  obtain⟨us,e⟩:=h
  obtain⟨vs,h1,r1⟩:=g.list e
  exact .inl ⟨rfl,vs,SqL.of h1⟩
 .exact h.elim
def ZuW:U->List U->AHp->AVK->Prop:=fun u us A Q=>match u,us with
 | .ref a,[w]=>∃xs,A a=some (.lst xs)/\xs.length<sizeLine/\Q .non (updA A a (.lst (xs++[w])))
 | _,_=>False
def ZaR:ZkP K ZiT ZuW:=fun x u xs us A H Q' Q r rs g h k=>by
 unfold ZuW at h
 split at h
 .cases r
  obtain⟨v,rfl,rv⟩:=rs.inv1
  obtain⟨zs,e,hz,h⟩:=h
  obtain⟨vs,h1,r1⟩:=g.list e
  exact⟨_,vs,_,rfl,rfl,h1,by rw[<- r1.length];exact hz,k _ _ _ _ (Kp.lst h1) (g.setL h1 (r1.app (.one rv))) .non h⟩
 .exact h.elim
def ZtH:U->List U->AHp->AVK->Prop:=fun u us A Q=>match u,us with
 | .ref a,[]=>∃xs y,A a=some (.lst (xs++[y]))/\Q y (updA A a (.lst xs))
 | _,_=>False
def Zci:ZkP K ZvN ZtH:=fun x u xs us A H Q' Q r rs g h k=>by
 unfold ZtH at h
 split at h
 .cases r;cases rs
  obtain⟨zs,y,e,h⟩:=h
  obtain⟨vs,h1,r1⟩:=g.list e
  have hl:=r1.length
  rw[Ys,List.length_singleton]at hl
  obtain⟨v,hv,rv⟩:=r1.get' (i:=zs.length) (u:=y) (by simp)
  refine⟨_,vs,v,rfl,rfl,h1,by rw[<- hl];exact hv,k _ _ _ _ (Kp.lst h1) (g.setL h1 ?_) (rv.same (Kp.lst h1)) h⟩
  have:=r1.dropLast
  rw[List.dropLast_concat]at this
  exact this
 .exact h.elim
def ZoF:U->List U->AHp->AVK->Prop:=fun u us A Q=>match u,us with
 | .ref a,[.tup ws]=>∃xs,A a=some (.lst xs)/\xs.length+ws.length<=sizeLine/\Q .non (updA A a (.lst (xs++ws)))
 | _,_=>False
def Zlb:ZkP K (ZnJ K) ZoF:=fun x u xs us A H Q' Q r rs g h k=>by
 unfold ZoF at h
 split at h
 .cases r
  obtain⟨v,rfl,rv⟩:=rs.inv1
  obtain⟨zs,e,hz,h⟩:=h
  obtain⟨vs,h1,r1⟩:=g.list e
  cases rv with
  | tup h2 r2=>exact⟨_,_,vs,_,rfl,rfl,h1,h2,by rw[<- r1.length,<- r2.length];exact hz,k _ _ _ _ (Kp.lst h1) (g.setL h1 (r1.app r2)) .non h⟩
 .exact h.elim
def ZsH:U->List U->AHp->AVK->Prop:=fun u us A Q=>match u,us with
 | .ref a,[.ref b]=>∃xs ws,A a=some (.lst xs)/\A b=some (.lst ws)/\xs.length+ws.length<=sizeLine/\Q .non (updA A a (.lst (xs++ws)))
 | _,_=>False
def ZoH:ZkP K ZfU ZsH:=fun x u xs us A H Q' Q r rs g h k=>by
 unfold ZsH at h
 split at h
 .cases r
  obtain⟨v,rfl,rv⟩:=rs.inv1
  cases rv
  obtain⟨zs,ws,e,e2,hz,h⟩:=h
  obtain⟨vs,h1,r1⟩:=g.list e
  obtain⟨ys,h2,r2⟩:=g.list e2
  exact⟨_,_,vs,_,rfl,rfl,h1,h2,by rw[<- r1.length,<- r2.length];exact hz,k _ _ _ _ (Kp.lst h1) (g.setL h1 (r1.app r2)) .non h⟩
 .exact h.elim
end
def ZjT(x:U)(xs:List U):ZhA (x::xs) (some 1) none=xs:=by
 unfold ZhA;have:HT.sIx (x::xs).length 0 (some 1)=1:=by
  have:=HT.sIx_nat (x::xs).length 0 1;rw[show((1:Nat):Int)=1 from rfl]at this;rw[this,List.length_cons];lia
 rw[this,HT.sIx_none,List.drop_succ_cons,Ybq,List.length_cons,Ybv,YZ]
section
def ZrK:(ZmQ 0 (some u::ρ) A Q)=(Q u A):=rfl
def Zpm:(Zdr 0 u (a0::ρ) A g)=(g (some u::ρ) A):=rfl
def Zqz:(Zqd (some u::ρ) 0 k)=(k u):=rfl
def ZqI:(ZmQ (i+1) (a0::ρ) A Q)=(ZmQ i ρ A Q):=rfl
def ZuK:(Zdr (i+1) u (a0::ρ) A g)=(Zdr i u ρ A fun ρ2 A2=>g (a0::ρ2) A2):=rfl
def Zpr:(Zqd (a0::ρ) (i+1) k)=(Zqd ρ i k):=rfl
def q_c:(aC u ρ A Q)=(Q u A):=rfl
def Zwh:(aOp r a b ρ A Q)=(a ρ A fun x A1=>b ρ A1 fun y A2=>r x y A2 Q):=rfl
def Zv7:(aB a ρ A B)=(a ρ A fun x A1=>∃c,x=.bl c/\B c A1):=rfl
def Zwp{F:Bool->Prop}:(∃c,U.bl k=.bl c/\F c)=(F k):=by simp
def ZsL{F:Int->Prop}:(∃c,U.int i=.int c/\F c)=(F i):=by simp
def Zux:(Zu5 c d ρ A B)=(c ρ A fun k A1=>if k=true then d ρ A1 B else B false A1):=rfl
def Zv1:(aOr c d ρ A B)=(c ρ A fun k A1=>if k=true then B true A1 else d ρ A1 B):=rfl
def Ztg:(Zvg c ρ A B)=(c ρ A fun k A1=>B (!k) A1):=rfl
def ZuU:(ZvG a b ρ A Q)=(a ρ A fun x A1=>∃k,x=.bl k/\if k=true then Q (.bl true) A1 else b ρ A1 Q):=rfl
def Zre:(ZfK ρ A B)=(B true A):=rfl
def Ztx:(Zsv ρ A L)=(L [] A):=rfl
def Zpx:(Zim a l ρ A L)=(a ρ A fun x A1=>l ρ A1 fun xs A2=>L (x::xs) A2):=rfl
def Zny:(Zl1 us ρ A L)=(L us A):=rfl
def Zt8:(Zul l ρ A Q)=(l ρ A fun xs A1=>xs.length<=sizeLine/\Q (.tup xs) A1):=rfl
def Ztp:(Zva l ρ A Q)=(l ρ A fun xs A1=>xs.length<=sizeLine/\∀p,A1 p=none->Q (.ref p) (updA A1 p (.lst xs))):=rfl
def Zwn:(aCB r l ρ A Q)=(l ρ A fun us A1=>r us A1 Q):=rfl
def ZqU:(Znb sp l ρ A Q)=(l ρ A fun us A1=>sp us A1 Q):=rfl
def ZkA:(ZhU ρ A O)=(O none A):=rfl
def Zsa:(ZrO a ρ A O)=(a ρ A fun x A1=>∃i,x=.int i/\O (some i) A1):=rfl
def Zwe{lo hi:AP1}:(aSl r a lo hi ρ A Q)=(a ρ A fun x A1=>lo ρ A1 fun i A2=>hi ρ A2 fun j A3=>r x i j A3 Q):=rfl
def ZsR:(ZvY y r a ρ A Q)=(a ρ A fun x A1=>y x A1/\r x [] A1 Q):=rfl
def Zwb:(aBM y r a l ρ A Q)=(a ρ A fun x A1=>y x A1/\l ρ A1 fun us A2=>r x us A2 Q):=rfl
def Zrc:(Zpq D ρ A)=(D.nx ρ A):=rfl
def ZtW:(ZvC t t2 D ρ A)=(t { D with nx:=t2 D } ρ A):=rfl
def ZqD:(Zqo a D ρ A)=(a ρ A fun _ A1=>D.nx ρ A1):=rfl
def Zua:(ZvH a D ρ A)=(a ρ A D.rt):=rfl
def Zt9:(Ztw c t t2 D ρ A)=(c ρ A fun k A1=>if k=true then t D ρ A1 else t2 D ρ A1):=rfl
def ZtM:(Zvn a g D ρ A)=(a ρ A fun x A1=>g x ρ A1 D.nx):=rfl
def ZtV{F:U->U->Prop}:(∃a b,[v,w]=[a,b]/\F a b)=(F v w):=propext ⟨fun hq0=>by obtain⟨a,b,e,h⟩:=hq0;injection e with e1 e2;injection e2 with e2 _;subst e1 e2;exact h,fun h=>⟨_,_,rfl,h⟩⟩
def Ztm:(Zu8 wi g t D ρ A)=(wi ρ A fun J A1=>ZfN J g t D ρ A1):=rfl
def ZsI:(Zvy y a ρ A R)=(a ρ A fun x A1=>y x A1 R):=rfl
def Zoc:(Zf2 y l ρ A R)=(l ρ A fun us A1=>y us A1 R):=rfl
def Zs9:(Znw (.ref p) A R)=((∃us,A p=some (.lst us))/\R (Zoh p) A):=rfl
def ZtA:(Znw (.rol us) A R)=(R (Zcx us) A):=rfl
def Zwa:(ZvD (.tup us) A R)=(R (Zcx us) A):=rfl
def Ztc:(Zly [.int j] A R)=(-(2^62)<=j/\j<2^62/\R (Zcx (Zib 0 j.toNat)) A):=rfl
def Zun:(Zli [.ref p] A R)=((∃us,A p=some (.lst us))/\R (Zkl p) A):=rfl
def Zuo:(Zli [.rol us] A R)=(R (Zcx (enU us)) A):=rfl
def Ztj:(Zh7 [.tup us] A R)=(R (Zcx (enU us)) A):=rfl
def ZpM{frs:List (Str×Nat)}:(Zrt nt frs wi g tt te ρ A Q)=(wi ρ A fun J A1=>∀l,A1 l=none->aCL J g tt te l Q (aCompStart nt frs ρ) (updA A1 l (.lst []))):=rfl
def ZrF:(Zto n t (.tup us) ρ A N)=(us.length=n/\t us ρ A N):=propext ⟨fun hq0=>by obtain⟨vs,e,h⟩:=hq0;cases e;exact h,fun h=>⟨_,rfl,h⟩⟩
def ZoY:(ZkM t ts (u::us) ρ A N)=(t u ρ A fun ρ2 A2=>ts us ρ2 A2 N):=propext ⟨fun hq0=>by obtain⟨v,r,e,h⟩:=hq0;cases e;exact h,fun h=>⟨_,_,rfl,h⟩⟩
def ZpI:(Zta [] ρ A N)=(N ρ A):=propext ⟨fun h=>h.2,fun h=>⟨rfl,h⟩⟩
def Zr2:(Zpc (.int i) (.int j) A Q)=(Q (.int (i+j)) A):=rfl
def ZpP:(Zpc (.str x) (.str y) A Q)=(x.length+y.length<=sizeLine/\Q (.str (x++y)) A):=rfl
def ZrH:(Zpc (.tup us) (.tup ws) A Q)=(us.length+ws.length<=sizeLine/\Q (.tup (us++ws)) A):=rfl
def Zp0:(Zpc (.ref p) (.ref q) A Q)=(∃xs ys,A p=some (.lst xs)/\A q=some (.lst ys)/\xs.length+ys.length<=sizeLine/\∀p,A p=none->Q (.ref p) (updA A p (.lst (xs++ys)))):=rfl
def Zwk:(xI f (.int i) (.int j) A Q)=(Q (f i j) A):=rfl
def ZsM:(xI2 C f (.int i) (.int j) A Q)=(C i j/\Q (f i j) A):=rfl
def ZuF:(ZsF (.int i) (.int j) A Q)=(IntMulOk i j/\Q (.int (i*j)) A):=rfl
def Zup:(ZsF (.ref p) (.int m) A Q)=(∃xs,A p=some (.lst xs)/\-(2^63)<=m/\m<2^63/\xs.length*m.toNat<=sizeLine/\∀p,A p=none->Q (.ref p) (updA A p (.lst (List.replicate m.toNat xs).flatten))):=rfl
def Ztt:(xLt (.int i) (.int j) A Q)=(Q (.bl (decide (i<j))) A):=rfl
def ZuG:(xLt (.str x) (.str y) A Q)=(Q (.bl (decide (x.cps.toList<y.cps.toList))) A):=rfl
def ZuS:(xEq (.int i) (.int j) A Q)=(Q (.bl (decide (i=j))) A):=rfl
def Zug:(xEq (.str x) (.str y) A Q)=(Q (.bl (decide (x=y))) A):=rfl
def ZtK:(xEq (.bl k) (.bl m) A Q)=(Q (.bl (decide (k=m))) A):=rfl
def Zuq:(xEq (.tup us) (.tup ws) A Q)=(Za5 false (.tup us) (.tup ws) A Q):=rfl
def Zs7:(xEq (.ref p) (.ref q) A Q)=(Za5 false (.ref p) (.ref q) A Q):=rfl
def ZqP:(xEq (.tup us) .non A Q)=(Za5 false (.tup us) .non A Q):=rfl
def ZpD:(xEq .non (.tup us) A Q)=(Za5 false .non (.tup us) A Q):=rfl
def Zp6:(xEq .non .non A Q)=(Q (.bl true) A):=rfl
def Zpu:(xEq .non (.str x) A Q)=(Q (.bl false) A):=rfl
def Zsl:(xEq (.str x) .non A Q)=(Q (.bl false) A):=rfl
def Zs4:(xNe (.int i) (.int j) A Q)=(Q (.bl (!decide (i=j))) A):=rfl
def ZtR:(xNe (.str x) (.str y) A Q)=(Q (.bl (!decide (x=y))) A):=rfl
def Ztk:(xNe (.bl k) (.bl m) A Q)=(Q (.bl (!decide (k=m))) A):=rfl
def Zum:(xNe (.tup us) (.tup ws) A Q)=(Za5 true (.tup us) (.tup ws) A Q):=rfl
def ZtB:(xNe (.ref p) (.ref q) A Q)=(Za5 true (.ref p) (.ref q) A Q):=rfl
def ZqH:(xNe (.tup us) .non A Q)=(Za5 true (.tup us) .non A Q):=rfl
def Zr8:(xNe .non (.tup us) A Q)=(Za5 true .non (.tup us) A Q):=rfl
def ZrZ:(xNe .non .non A Q)=(Q (.bl false) A):=rfl
def ZrQ:(xNe .non (.str x) A Q)=(Q (.bl true) A):=rfl
def ZrX:(xNe (.str x) .non A Q)=(Q (.bl true) A):=rfl
def Zs1:(ZvU u .non A Q)=(Q (.bl u.isNon) A):=propext ⟨fun h=>h.2,fun h=>⟨rfl,h⟩⟩
def Zpg:(Zod u .non A Q)=(Q (.bl (!u.isNon)) A):=propext ⟨fun h=>h.2,fun h=>⟨rfl,h⟩⟩
def Zpn:(Zj9 false u (.tup us) A Q)=(u.flat=true/\us.all U.flat=true/\Q (.bl (inU u us)) A):=rfl
def ZoW:(Zj9 true u (.tup us) A Q)=(u.flat=true/\us.all U.flat=true/\Q (.bl (!inU u us)) A):=rfl
def Zrg:(Zj9 false u (.ref p) A Q)=(∃us,A p=some (.lst us)/\u.flat=true/\us.all U.flat=true/\Q (.bl (inU u us)) A):=rfl
def Znk:(Zj9 true u (.ref p) A Q)=(∃us,A p=some (.lst us)/\u.flat=true/\us.all U.flat=true/\Q (.bl (!inU u us)) A):=rfl
def Zrh:(Zj9 false (.str x) (.str y) A Q)=(Q (.bl (occ y x)) A):=propext ⟨fun hq0=>by obtain⟨i,e,h⟩:=hq0;cases e;exact h,fun h=>⟨_,rfl,h⟩⟩
def Zon:(Zj9 true (.str x) (.str y) A Q)=(Q (.bl (!occ y x)) A):=propext ⟨fun hq0=>by obtain⟨i,e,h⟩:=hq0;cases e;exact h,fun h=>⟨_,rfl,h⟩⟩
def Zs0:(xIx (.str z) (.int i) A Q)=(z.length<=sizeLine/\∃c,atI z.cps.toList i=some c/\Q (.str ⟨#[c]⟩) A):=rfl
def ZuJ:(xIx (.tup (u::us)) (.int 0) A Q)=(Q u A):=propext ⟨fun hq0=>by obtain⟨x,e,h⟩:=hq0;rw[show atI (u::us) 0=some u from Zai (j:=0) rfl]at e;cases e;exact h,fun h=>⟨_,Zai (j:=0) rfl,h⟩⟩
def Zs8:(xIx (.tup (u::w::us)) (.int 1) A Q)=(Q w A):=propext ⟨fun hq0=>by obtain⟨x,e,h⟩:=hq0;rw[show atI (u::w::us) 1=some w from Zai (j:=1) rfl]at e;cases e;exact h,fun h=>⟨_,Zai (j:=1) rfl,h⟩⟩
def Zs5:(xIx (.tup (u::w::x::us)) (.int 2) A Q)=(Q x A):=propext ⟨fun hq0=>by obtain⟨z,e,h⟩:=hq0;rw[show atI (u::w::x::us) 2=some x from Zai (j:=2) rfl]at e;cases e;exact h,fun h=>⟨_,Zai (j:=2) rfl,h⟩⟩
def ZsZ:(xIx (.tup us) (.int i) A Q)=(∃x,atI us i=some x/\Q x A):=rfl
def ZuE:(xIx (.rol us) (.int i) A Q)=(∃x,atI us i=some x/\Q x A):=rfl
def ZsQ:(xIx (.ref p) (.int i) A Q)=(∃us x,A p=some (.lst us)/\atI us i=some x/\Q x A):=rfl
def Ztd{lo hi:Option Int}:(xSl (.str z) lo hi A Q)=(z.length<=sizeLine/\Q (.str (Zpd z lo hi)) A):=rfl
def Zqq:(xSl (.tup (u::us)) (some 1) none A Q)=(Q (.tup us) A):=by show Q (.tup (ZhA (u::us) (some 1) none)) A=_;rw[ZjT]
def ZtZ{lo hi:Option Int}:(xSl (.tup us) lo hi A Q)=(Q (.tup (ZhA us lo hi)) A):=rfl
def ZsG{lo hi:Option Int}:(xSl (.rol us) lo hi A Q)=(∀p,A p=none->Q (.ref p) (updA A p (.lst (ZhA us lo hi)))):=rfl
def ZsO{lo hi:Option Int}:(xSl (.ref p) lo hi A Q)=(∃us,A p=some (.lst us)/\∀p,A p=none->Q (.ref p) (updA A p (.lst (ZhA us lo hi)))):=rfl
def Zqj:(Zo5 [.str z] A Q)=(z.length<=sizeLine/\Q (.int z.length) A):=rfl
def Zrb:(Zo5 [.tup us] A Q)=(Q (.int us.length) A):=rfl
def Zsj:(Zo5 [.rol us] A Q)=(Q (.int us.length) A):=rfl
def ZrE:(Zo5 [.ref p] A Q)=(∃us,A p=some (.lst us)/\Q (.int us.length) A):=rfl
def ZrW:(ZpW [.int i,.int j] A Q)=(Q (.int (min i j)) A):=rfl
def ZpQ:(ZpW [.ref p] A Q)=(∃ns:List Int,A p=some (.lst (ns.map U.int))/\1<=ns.length/\∀m,m∈ns->(∀x∈ns,m<=x)->Q (.int m) A):=rfl
def ZtX:(Ztb [.ref p] A Q)=(∃ns:List Int,A p=some (.lst (ns.map U.int))/\Q (.int ns.sum) A):=rfl
def Zuf:(Zc4 [.tup us] A Q)=(∀p,A p=none->Q (.ref p) (updA A p (.lst us))):=rfl
def ZuL:(Zc4 [.rol us] A Q)=(∀p,A p=none->Q (.ref p) (updA A p (.lst us))):=rfl
def ZtL:(Zc4 [.ref p] A Q)=(∃us,A p=some (.lst us)/\∀p,A p=none->Q (.ref p) (updA A p (.lst us))):=rfl
def Ztv:(Znt (.ref p) A)=(∃us,A p=some (.lst us)):=rfl
def ZsX:(ZuW (.ref p) [u] A Q)=(∃xs,A p=some (.lst xs)/\xs.length<sizeLine/\Q .non (updA A p (.lst (xs++[u])))):=rfl
def ZuN:(ZtH (.ref p) [] A Q)=(∃xs y,A p=some (.lst (xs++[y]))/\Q y (updA A p (.lst xs))):=rfl
def ZpC:(ZoF (.ref p) [.tup us] A Q)=(∃xs,A p=some (.lst xs)/\xs.length+us.length<=sizeLine/\Q .non (updA A p (.lst (xs++us)))):=rfl
def Zty:(ZsH (.ref p) [.ref q] A Q)=(∃xs ws,A p=some (.lst xs)/\A q=some (.lst ws)/\xs.length+ws.length<=sizeLine/\Q .non (updA A p (.lst (xs++ws)))):=rfl
end
def Ext(A A':AHp):Prop:=∀a o,A a=some o->A' a=some o
def Ext.refl(A:AHp):Ext A A:=fun _ _ h=>h
def Ext.trans(h:Ext A B)(k:Ext B C):Ext A C:=fun a o e=>k a o (h a o e)
def Ext.new(h:A l=none):Ext A (updA A l o):=fun b u e=>by
 rw[Zn (fun z=>by rw[z,h]at e;cases e)];exact e
def HR.ext{K:YFr}(e:Ext A A')(h:HR K H A'):HR K H A:=fun a o q=>h a o (e a o q)
def Fg(Q:AVK):AVK:=fun u A=>∃A',Ext A' A/\Q u A'
def aStart(N:List Str)(us:List U):ASt:=us.map some++List.replicate (N.length-us.length) none
section
variable{K:YFr}
def RSt.nones:∀n,RSt K H (List.replicate n none) (List.replicate n none)
 | 0=>.nil
 | n+1=>.skip (RSt.nones n)
def RSt.start(N:List Str)(r:RUs K H us vs):RSt K H (aStart N us) (L2.start N vs):=by
 unfold aStart L2.start;rw[r.length];generalize N.length-vs.length=n;induction us generalizing vs with
 | nil=>cases r;exact RSt.nones n
 | cons u us ih =>
  cases r with
  | cons h r=>exact .cons h (ih r)
def Fun.okA{st:Stmt}(F:Fun K x qual st f fd)(hs:ZN st=sc)(hb:ZaQ st=body)(S:Zao N ps (ZN st))(hbody:Zao N ps sc->∀ (cdv:Value) (A:Around) (outer:List Env) (s:Shared) (H:Hp) (E:XK),Zbb k (A.deeper (envOfC qual sc s.heap.objs.size f cdv)) ->
   ∃t,PSs (Zds CX0 P w K mg base N qual sc f cdv A outer s H E).nox body t/\AbS K t as)(hsp:∀us A Q,asp us A Q->us.length=ps.length/\as { nx:=fun _ A'=>Fg Q .non A',rt:=Fg Q } (aStart N us) A):ZbB P w K mg base CX0 (k+1) f fd ps (Zar K asp):=by
 refine F.ok2 hs hb S (fun vs H Q E ⟨us,A,Q',r,g,h,_⟩=>?_) fun S cdv A outer s H vs Q E hr ⟨us,A',Q',r,g,h,k⟩=>?_
 .rw[<- r.length];exact(hsp us A Q' h).1
 .obtain⟨t,ht,ha⟩:=hbody S cdv A outer s H E hr;exact⟨t,ht,ha _ _ _ _ _ _ (RSt.start N r) g (hsp us A' Q' h).2 ⟨fun ρ A σ H' k' g' s' ⟨A3,e,q'⟩=>k _ _ _ _ k' (g'.ext e) .non q',fun u A v H' k' g' r' ⟨A3,e,q'⟩=>k _ _ _ _ k' (g'.ext e) r' q',fun _ _ _ _ _ _ _ q=>q.elim,fun _ _ _ _ _ _ _ q=>q.elim⟩⟩
def ZgB:ASp:=fun us A Q=>∃ns:List Int,us=[.rol (ns.map U.int)]/\ns.length<=63/\∀A',Q (.bl true) A'
def Zp7{ns:List Int}(hl:ns.length<=63)(hO:ZsC H)(hS:SqL K H a (ns.map V.int)):Zar K ZgB [.ref a] H (fun v _=>v=.bl true) E:=by
 have hR:SqR K H a (ns.map V.int):=by
  rcases hS with(h|h)|h
  .rcases hO a with e|⟨o,xs,e⟩<;>rw[e]at h<;>cases h
  .exact .inl h
  .exact .inr h
 exact⟨[.rol (ns.map U.int)],fun _=>none,fun u _=>u=.bl true,.one (.rol hR RUs.of_ints),(fun a o e=>by cases e),⟨ns,rfl,hl,fun _=>rfl⟩,fun u A v H' _ _ r e=>by subst e;cases r;rfl⟩
end
def Zsd:U->AHp->(Bool->AHp->Prop)->Prop:=fun x A1 Q=>match x with
 | .ref p=>∃us,A1 p=some (.lst us)/\Q (!us.isEmpty) A1
 | .tup us=>Q (!us.isEmpty) A1
 | .bl b=>Q b A1
 | .int i=>Q (i != 0) A1
 | .non=>Q false A1
 | _=>False
def ZvW(a:AE):AT:=fun ρ A Q=>a ρ A fun x A1=>Zsd x A1 Q
def RUs.empty{K:YFr}(r:RUs K H us vs):vs.isEmpty=us.isEmpty:=by cases r<;>rfl
def Ziu{K:YFr}(ha:AbE K t a):AbT K (fun σ H Q=>t σ H fun x H'=>∃k,ZtD K x H' k/\Q k H') (ZvW a):=fun ρ A σ H Q' Q hs g w k =>
 ha ρ A σ H _ _ hs g w fun x A1 v H1 k1 g1 r1 q1=>by
  cases r1 with
  | ref p =>
   obtain⟨us,e,q1⟩:=q1
   obtain⟨vs,h1,r1⟩:=g1.list e
   exact⟨_,.inl ⟨vs,SqL.of h1,rfl⟩,k _ _ _ k1 g1 (by rw[r1.empty];exact q1)⟩
  | tup h r=>exact⟨_,.inr (.inl ⟨_,h,rfl⟩),k _ _ _ k1 g1 (by rw[r.empty];exact q1)⟩
  | bl b=>exact⟨b,rfl,k _ _ _ k1 g1 q1⟩
  | int i=>exact⟨_,rfl,k _ _ _ k1 g1 q1⟩
  | non=>exact⟨_,rfl,k _ _ _ k1 g1 q1⟩
  | _=>exact q1.elim
def ZuB:(ZvW a ρ A B)=(a ρ A fun x A1=>Zsd x A1 B):=rfl
def Zrj:(Zsd (.ref p) A B)=(∃us,A p=some (.lst us)/\B (!us.isEmpty) A):=rfl
def Zro:(Zsd (.tup us) A B)=(B (!us.isEmpty) A):=rfl
def Zpp:(Zsd (.bl k) A B)=(B k A):=rfl
section
def Zla(items:List U)(Pv:Nat->ASt->AHp->Prop)(h0:Pv 0 ρ A)(hJ:∀k ρ A,k<=items.length->Pv k ρ A->J k A items[k]?)(hs:∀k u ρ A,items[k]? = some u->Pv k ρ A->g u ρ A fun ρ2 A2=>b { D with nx:=Pv (k+1),ct:=Pv (k+1),bk:=D.nx } ρ2 A2)(hd:∀ρ A,Pv items.length ρ A->D.nx ρ A):ZfN J g b D ρ A:=by
 refine⟨fun k m ρ A=>m=items.length-k/\k<=items.length/\Pv k ρ A,⟨_,rfl,Y2 _,h0⟩,?_⟩;rintro k m ρ A ⟨rfl,hk,p⟩;have j:=hJ k ρ A hk p;by_cases hlt:k<items.length
 .rw[Yg hlt]at j;exact .inr ⟨_,j,Pv (k+1),fun ρ' A' p'=>⟨items.length-(k+1),by lia,rfl,hlt,p'⟩,hs k _ ρ A (Yg hlt) p⟩
 .have e:k=items.length:=by lia
  subst e;rw[Y3 (Yj _)]at j;exact .inl ⟨j,hd ρ A p⟩
def Zil(Pv:Nat->ASt->AHp->Prop)(h0:Pv 0 ρ A)(hs:∀k u ρ A,us[k]? = some u->Pv k ρ A->g u ρ A fun ρ2 A2=>b { D with nx:=Pv (k+1),ct:=Pv (k+1),bk:=D.nx } ρ2 A2)(hd:∀ρ A,Pv us.length ρ A->D.nx ρ A):ZfN (Zcx us) g b D ρ A :=
 Zla us Pv h0 (fun _ _ _ _ _=>rfl) hs hd
def ZaY(us:List U)(Pv:Nat->ASt->AHp->Prop)(h0:Pv 0 ρ A)(hl:∀k ρ A,k<=us.length->Pv k ρ A->A a=some (.lst us))(hs:∀k u ρ A,us[k]? = some u->Pv k ρ A->g u ρ A fun ρ2 A2=>b { D with nx:=Pv (k+1),ct:=Pv (k+1),bk:=D.nx } ρ2 A2)(hd:∀ρ A,Pv us.length ρ A->D.nx ρ A):ZfN (Zoh a) g b D ρ A :=
 Zla us Pv h0 (fun k ρ A hk p=>⟨us,hl k ρ A hk p,rfl⟩) hs hd
def Zdh{lo:Int}(Pv:Nat->ASt->AHp->Prop)(h0:Pv 0 ρ A)(hs:∀(k:Nat) ρ A,k<n->Pv k ρ A->g (.int (lo+k)) ρ A fun ρ2 A2=>b { D with nx:=Pv (k+1),ct:=Pv (k+1),bk:=D.nx } ρ2 A2)(hd:∀ρ A,Pv n ρ A->D.nx ρ A):ZfN (Zcx (Zib lo n)) g b D ρ A :=
 Zla (Zib lo n) Pv h0 (fun k ρ A hk p=>rfl) (fun k u ρ A hu p=>by
  rw[Zec]at hu
  by_cases h:k<n
  .rw[if_pos h]at hu;cases hu;exact hs k ρ A h p
  .rw[if_neg h]at hu;cases hu) (by rw[rngU_len];exact hd)
end
def neA{A:AHp}(h:A a=some o)(h':A b=none):a≠b:=fun e=>by rw[e,h']at h;cases h
section
def Zmn(items:List U)(p:Nat->Bool)(f:Nat->U)(T:ASt->Prop)(h0:T τ)(hl:A l=none)(hn:items.length<=100000)(hJ:∀ k A2,k<=items.length->Ext A A2->J k A2 items[k]?)(hs : ∀ k u τ A2,items[k]? = some u->T τ->Ext A A2->∀ (Cy:ASt->U->AHp->Prop) (Cn:ASt->AHp->Prop),(p k=true->∀ τ2,T τ2->Cy τ2 (f k) A2)->(p k=false->∀ τ2,T τ2->Cn τ2 A2) ->
   g u τ A2 fun τ2 A3=>tt τ2 A3 fun ok A4=>if ok=true then te τ2 A4 (Cy τ2)else Cn τ2 A4)(hd:Q (.ref l) (updA A l (.lst (((List.range items.length).filter p).map f)))):aCL J g tt te l Q τ (updA A l (.lst [])):=by
 refine⟨fun i m τ A2=>m=items.length-i/\i<=items.length/\T τ/\A2=updA A l (.lst (((List.range i).filter p).map f)),⟨_,rfl,Y2 _,h0,rfl⟩,?_⟩;rintro i m τ A2 ⟨rfl,hi,ht,rfl⟩;have j:=hJ i _ hi (Ext.new (o:=.lst (((List.range i).filter p).map f)) hl);by_cases hlt:i<items.length
 .have hu:items[i]? = some items[i]:=Yg hlt;rw[hu]at j;refine .inr ⟨_,j,hs i _ τ _ hu ht (Ext.new hl) _ _ (fun hp τ2 ht2=>⟨_,Zc,?_,_,?_,rfl,hlt,ht2,?_⟩) (fun hp τ2 ht2=>⟨_,?_,rfl,hlt,ht2,?_⟩)⟩
  .have:(((List.range i).filter p).map f).length<=i:=by rw[Yc];exact YB (List.length_filter_le ..) (by simp)
   have:(100000:Nat)<sizeLine:=by decide
   lia
  .lia
  .rw[ZK,List.range_succ,Ybf,Yt];simp[hp]
  .lia
  .rw[List.range_succ,Ybf,Yt];simp[hp]
 .have e:i=items.length:=by lia
  subst e;rw[Y3 (Yj _)]at j;exact .inl ⟨j,hd⟩
def Zmq(items ys:List U)(hlen:ys.length=items.length)(hl:A l=none)(hn:items.length<=100000)(hJ:∀k A2,k<=items.length->Ext A A2->J k A2 items[k]?)(hs:∀(k:Nat) u y A2,items[k]? = some u->ys[k]? = some y->Ext A A2->∀Cy:U->AHp->Prop,Cy y A2->te (some u::fr) A2 Cy)(hd:Q (.ref l) (updA A l (.lst ys))):aCL J (Zdr 0) ZfK te l Q (x0::fr) (updA A l (.lst [])):=by
 refine Zmn items (fun _=>true) (fun k=>(ys[k]?).getD .non) (fun τ=>∃x,τ=x::fr) ⟨_,rfl⟩ hl hn hJ ?_ ?_
 .rintro k u τ A2 hu ⟨x,rfl⟩ he Cy Cn hy hno;show if true=true then te (some u::fr) A2 (Cy (some u::fr))else Cn (some u::fr) A2;rw[if_pos rfl];have hk:k<ys.length:=by rw[hlen];exact(Yh.mp hu).1
  have hyk:ys[k]? = some ys[k]:=Yg hk;refine hs k u _ A2 hu hyk he _ ?_;have:=hy rfl (some u::fr) ⟨_,rfl⟩;rw[hyk]at this;exact this
 .have e:((List.range items.length).filter fun _=>true).map (fun k=>(ys[k]?).getD .non)=ys:=by
   rw[Ybb.mpr (fun _ _=>rfl),<- hlen];apply Ycl
   .simp
   .intro i h1 h2;simp[Yg h2]
  rw[e];exact hd
def ZmO(items:List U)(p:Nat->Bool)(f:Nat->U)(hl:A l=none)(hn:items.length<=100000)(hJ:∀k A2,k<=items.length->Ext A A2->J k A2 items[k]?)(hs:∀(k:Nat) u A2,items[k]? = some u->Ext A A2->∀(Cy:U->AHp->Prop)(Cn:AHp->Prop),(p k=true->Cy (f k) A2)->(p k=false->Cn A2)->tt (some u::fr) A2 fun ok A4=>if ok=true then te (some u::fr) A4 Cy else Cn A4)(hd:Q (.ref l) (updA A l (.lst (((List.range items.length).filter p).map f)))):aCL J (Zdr 0) tt te l Q (x0::fr) (updA A l (.lst [])):=by
 refine Zmn items p f (fun τ=>∃x,τ=x::fr) ⟨_,rfl⟩ hl hn hJ ?_ hd;rintro k u τ A2 hu ⟨x,rfl⟩ he Cy Cn hy hno;exact hs k u A2 hu he _ _ (fun h=>hy h _ ⟨_,rfl⟩) fun h=>hno h _ ⟨_,rfl⟩
end
section
inductive TyW (K:YFr) (H:Hp):V->Value->Prop
 | of {x:V} {t:Value}:Zhi K H x t->TyW K H x t
 | tup {a:Addr} {xs:List V}:SqT K H a xs->TyW K H (.ref a) (.type "tuple")
def Zts(K:YFr):List V->Hp->VK->Prop:=fun xs H Q=>match xs with
 | [x,.ty n]=>∃t b,TyW K H x t/\PySem.W.kitOne K t (.type n)=some b/\Q (.bl b) H
 | [x,.ref c]=>∃t b,TyW K H x t/\PySem.W.kitOne K t (.ref c)=some b/\Q (.bl b) H
 | _=>False
def ZtQ:Zaj X (.builtin "isinstance") (Zts X.K):=by
 intro pins s σ H xs us Q I r h;have go:∀(x:V)(u t:Value)(c:Value)(b:Bool),Zau x u->TyW X.K H x t->PySem.W.kitOne X.K t c=some b->Q (.bl b) H->wpAny (model X.prog X.w) X.A (call (.builtin "isinstance") [u,c]) (EP X pins σ Q) X.xe s:=by
  intro x u t c b rx ty e q;cases ty with
  | of ty=>exact Ze3 I rx ty e fun tk=>⟨.bl b,H,I.tok _,rfl,q⟩
  | tup hq =>
   cases rx;obtain⟨its,rv,⟨o,h1,h2,h3⟩,hz⟩:=I.tuple hq;exact Y5 Yca I.kIn ⟨o,h1,h2⟩ e (fun z=>nomatch z) fun tk=>⟨.bl b,H,I.tok _,rfl,q⟩
 unfold Zts at h;split at h
 .obtain⟨t,b,ty,e,q⟩:=h;cases r with
  | cons r1 r2 =>
   cases r2 with
   | cons r2 r3 =>
    cases r3;cases r2;exact go _ _ _ _ _ r1 ty e q
 .obtain⟨t,b,ty,e,q⟩:=h;cases r with
  | cons r1 r2 =>
   cases r2 with
   | cons r2 r3 =>
    cases r3;cases r2;exact go _ _ _ _ _ r1 ty e q
 .exact h.elim
end
section
variable{K:YFr}
def Zvp(u:U)(n:String):Bool:=match u with
 | .non=>n == "NoneType"
 | .bl _=>n == "bool" || n == "int"
 | .int _=>n == "int"
 | .str _=>n == "str"
 | .tup _=>n == "tuple"
 | _=>false
def ZtE:List U->AHp->AVK->Prop:=fun us A Q=>match us with
 | [u,.ty n]=>(n="int"\/n="bool"\/n="str"\/n="tuple")/\(match u with|.rol _=>False|.ref _=>False|.ty _=>False|_=>True)/\Q (.bl (Zvp u n)) A
 | _=>False
def ZpT:AbL K (Zts K) ZtE:=fun xs us A H Q' Q r g h k=>by
 unfold ZtE at h
 split at h
 .rename_i u n
  obtain⟨hn,hu,h⟩:=h
  obtain⟨v,x,rfl,r1,r2⟩:=r.inv2
  cases r2
  cases r1 with
  | non=>rcases hn with rfl|rfl|rfl|rfl<;>exact⟨_,_,.of .non,rfl,k _ _ _ _ (.refl H) g (.bl _) h⟩
  | bl b=>rcases hn with rfl|rfl|rfl|rfl<;>exact⟨_,_,.of (.bl b),rfl,k _ _ _ _ (.refl H) g (.bl _) h⟩
  | int b=>rcases hn with rfl|rfl|rfl|rfl<;>exact⟨_,_,.of (.int b),rfl,k _ _ _ _ (.refl H) g (.bl _) h⟩
  | str b=>rcases hn with rfl|rfl|rfl|rfl<;>exact⟨_,_,.of (.str b),rfl,k _ _ _ _ (.refl H) g (.bl _) h⟩
  | tup h1 r1=>rcases hn with rfl|rfl|rfl|rfl<;>exact⟨_,_,.tup h1,rfl,k _ _ _ _ (.refl H) g (.bl _) h⟩
  | ty _=>exact hu.elim
  | ref _=>exact hu.elim
  | rol _ _=>exact hu.elim
 .exact h.elim
def ZtC:(ZtE [u,.ty n] A Q)=((n="int"\/n="bool"\/n="str"\/n="tuple")/\(match u with|.rol _=>False|.ref _=>False|.ty _=>False|_=>True)/\Q (.bl (Zvp u n)) A):=rfl
def ZuQ:U->List U->AHp->AVK->Prop:=fun u us A Q=>match us with
 | [.str z]=>∃(ss:List Str)(j:Nat),(u=.tup (ss.map U.str)\/∃a,u=.ref a/\A a=some (.lst (ss.map U.str)))/\ss[j]? = some z/\(∀m,m<j->ss[m]?≠some z)/\Q (.int j) A
 | _=>False
def ZnI:ZkP K (ZrV fun x ss H=>∃a,x=.ref a/\H a=some (.lst (ss.map V.str))) (fun u us A Q=>(∃a,u=.ref a)/\ZuQ u us A Q):=fun x u xs us A H Q' Q r rs g hq0 k=>by
 obtain⟨⟨a,ea⟩,h⟩:=hq0
 unfold ZuQ at h
 split at h
 .obtain⟨ss,j,hu,e1,e2,h⟩:=h
  obtain⟨v,rfl,rv⟩:=rs.inv1
  cases rv
  rcases hu with rfl|⟨b,rfl,hb⟩
  .cases ea
  .cases r
   obtain⟨vs,h1,r1⟩:=g.list hb
   exact⟨ss,_,j,⟨b,rfl,by rw[h1,r1.strs]⟩,rfl,e1,e2,k _ _ _ _ (.refl H) g (.int _) h⟩
 .exact h.elim
end
def Zky{x:U}:[x].length<=sizeLine:=by show 1<=sizeLine;decide
def Zcw{x y:U}:[x,y].length<=sizeLine:=by show 2<=sizeLine;decide
def Zem(h:n<=100000):n<=sizeLine:=YB h (by decide)
def Z2(h:n<=100000):n<sizeLine:=Nat.lt_of_le_of_lt h (by decide)
def fg(h:Q u A):Fg Q u A:=⟨A,Ext.refl A,h⟩
def fgx(e:Ext A A')(h:Q u A):Fg Q u A':=⟨A,e,h⟩
def ZhL{X Y:Prop}(h1:b=true->X)(h2:b=false->Y):if b=true then X else Y:=by
 cases b
 .exact ZhM (by decide) (h2 rfl)
 .exact Zfr rfl (h1 rfl)
def ZX{X Y:Prop}(hb:b=true)(h:X):if b=true then X else Y:=Zfr hb h
def ZA{X Y:Prop}(hb:b=false)(h:Y):if b=true then X else Y:=ZhM (by rw[hb];decide) h
def Zsb:((fun(u:U)(us:List U)(A:AHp)(Q:AVK)=>(∃a,u=.ref a)/\ZuQ u us A Q) (.ref p) [.str z] A Q)=(∃(ss:List Str)(j:Nat),A p=some (.lst (ss.map U.str))/\ss[j]? = some z/\(∀m,m<j->ss[m]?≠some z)/\Q (.int j) A):=by
 refine propext ⟨fun⟨_,ss,j,h,h1,h2,h3⟩=>?_,fun⟨ss,j,h,h1,h2,h3⟩=>⟨⟨p,rfl⟩,ss,j,.inr ⟨p,rfl,h⟩,h1,h2,h3⟩⟩;rcases h with h|⟨a,e,h⟩
 .cases h
 .cases e;exact⟨ss,j,h,h1,h2,h3⟩
def ZiI(h:a≠l):updA (updA A a x) l y=updA (updA A l y) a x:=by
 funext b;unfold updA;by_cases h1:b=l
 .rw[if_pos h1,if_neg (fun e=>h (e.symm.trans h1)),if_pos h1]
 .rw[if_neg h1];by_cases h2:b=a
  .rw[if_pos h2,if_pos h2]
  .rw[if_neg h2,if_neg h2,if_neg h1]
def ZeS{ns:List Int}{i:Int}(h0:0<=i)(h:i<ns.length):∃z,atI (ns.map U.int) i=some (.int z)/\ns[i.toNat]? = some z:=by
 obtain⟨v,h1,h2⟩:=Zmv (xs:=ns.map U.int) (i:=i) h0 (by rw[Yc];exact h);rw[Yi]at h2;obtain⟨z,hz,rfl⟩:=YK.mp h2;exact⟨z,h1,hz⟩
def Z7{α β:Type}{f:α->β}{xs:List α}{k:Nat}{u:β}(h:(xs.map f)[k]? = some u):∃x,xs[k]? = some x/\u=f x:=by
 rw[Yi]at h;obtain⟨x,hx,rfl⟩:=YK.mp h;exact⟨x,hx,rfl⟩
def Za7{K:YFr}{st:Stmt}(F:Fun K x qual st f fd)(S:Zao N ps (ZN st))(h:∀us A Q,¬asp us A Q):ZbB P w K mg base CX0 k f fd ps (Zar K asp) :=
 ⟨fun vs H Q E ⟨us,A,Q',_,_,q,_⟩=>(h us A Q' q).elim,fun A outer s H args us vs Q E _ _ _ _ ⟨ws,A',Q',_,_,q,_⟩=>(h ws A' Q' q).elim⟩
def ki(i j:Nat):(((i:Nat):Int)==((j:Nat):Int))=(i==j):=by
 by_cases h:i=j
 .subst h;simp
 .rw[Yv.mpr h,Yv.mpr (by lia)]
def Zqt(K:YFr):V->Hp->(It->Hp->Prop)->Prop:=fun x H R=>Zr0 K x H R\/Zqs K x H R
section
def Zab(hl:PE X a te):PI X tg a (jOf (Zqt X.K) te):=by
 intro pins s σ H R I h;refine thn (hl pins s σ H _ I h) fun v s1 h_q=>?_;obtain⟨x,H1,I1,r1,q1⟩:=h_q;have fp:∀b∈[s1.heap.objs.size],Zey X pins H1 b:=fun b hb=>by
  obtain rfl:b=s1.heap.objs.size:=by simpa using hb
  exact I1.fpOk (Yj _) (I1.hok.fresh (Yj _))
 have J1:∀o,Inv X pins σ H1 { s1 with heap:=s1.heap.push o }:=fun o=>I1.kept (t':=s1.toks) fun b u e=>Ye _ e;cases x with
 | ref l =>
  cases r1;rcases q1 with⟨⟨xs,hq⟩,q⟩|⟨⟨xs,hq⟩,q⟩
  .obtain⟨its,rv,pl,hz⟩:=I1.list hq;exact YaS pl.isList ⟨s1.heap.objs.size,[s1.heap.objs.size],_,_,H1,rfl,J1 _,Zj1 l _,⟨_,Yl _ rfl,rfl,rfl⟩,fp,q⟩
  .obtain⟨its,rv,pl,hz⟩:=I1.tuple hq;exact Ybw (show s1.heap.IsTuple l its.toArray from pl) ⟨s1.heap.objs.size,[s1.heap.objs.size],_,_,H1,rfl,J1 _,ZhJ l _,⟨_,Yl _ rfl,rfl,rfl⟩,fp,q⟩
 | _=>rcases q1 with q|q<;>exact q.elim
def ZlW(K:YFr):List V->Hp->(It->Hp->Prop)->Prop:=fun vs H R=>Zoz K vs H R\/Zit K vs H R
def Zkf(hg:Gl X "enumerate")(hm:X.mg "enumerate"=none)(ha:PA X [a] ta)(hs:starEach [a] X.env=[(false,eval a X.env)]:=by rfl):
  PI X (.Tuple elts k0 tp) (.Call (.Name "enumerate" p) [a] [] pos) (Zlv (ZlW X.K) ta):=by
 intro pins s σ H R I h;refine Call_ (ZcA I hg hm Zdt (YaL (thn (ha pos pins s σ H _ I h) fun us s1 ⟨vs,H1,I1,r1,q1⟩=>?_) hs rfl));have fp:∀b∈[s1.heap.objs.size+1,s1.heap.objs.size],Zey X pins H1 b:=fun b hb=>by
  have hb':s1.heap.objs.size<=b:=by
   simp only[Yn,YM,Yan]at hb;rcases hb with e|e<;>subst e<;>first|exact Yck _ _|exact Yj _
  exact I1.fpOk hb' (I1.hok.fresh hb')
 rcases q1 with q1|q1
 .unfold Zoz at q1;split at q1
  .obtain⟨⟨xs,hx⟩,q⟩:=q1;cases r1 with
   | cons r rr =>
    cases rr;cases r;obtain⟨its,rv,pl,_⟩:=I1.list hx;exact call_enumerate_list pl.isList fun h' a1 a2 a3 hk=>Ybj a1 ⟨s1.heap.objs.size+1,_,_,_,H1,rfl,I1.kept (t':=s1.toks) hk,Ziz (Nat.succ_ne_self _),⟨⟨_,a1⟩,a2⟩,fp,q⟩
  .exact q1.elim
 .unfold Zit at q1;split at q1
  .obtain⟨⟨xs,hx⟩,q⟩:=q1;cases r1 with
   | cons r rr =>
    cases rr;cases r;obtain⟨its,rv,pl,_⟩:=I1.tuple hx;exact Zeg pl fun h' a1 a2 hk=>Ybj a1 ⟨s1.heap.objs.size+1,_,_,_,H1,rfl,I1.kept (t':=s1.toks) hk,Zhq (Nat.succ_ne_self _),⟨⟨_,a1⟩,a2⟩,fp,q⟩
  .exact q1.elim
end
section
variable{K:YFr}
def Zsy:U->AHp->(AIt->AHp->Prop)->Prop:=fun u A R=>match u with
 | .ref a=>(∃us,A a=some (.lst us))/\R (Zoh a) A
 | .rol us=>R (Zcx us) A
 | .tup us=>R (Zcx us) A
 | _=>False
def ZR:Zok K (Zqt K) Zsy:=fun x v A H R' R r g w k=>by
 cases r with
 | ref a=>exact .inl (Zgl (.ref a) _ A H R' R (.ref a) g w k)
 | rol h1 r1=>exact .inl (Zgl _ _ A H R' R (.rol h1 r1) g w k)
 | tup h1 r1=>exact .inr (Zo3 _ _ A H R' R (.tup h1 r1) g w k)
 | _=>exact w.elim
def ZeW:List U->AHp->(AIt->AHp->Prop)->Prop:=fun us A R=>match us with
 | [.ref a]=>(∃us,A a=some (.lst us))/\R (Zkl a) A
 | [.rol us]=>R (Zcx (enU us)) A
 | [.tup us]=>R (Zcx (enU us)) A
 | _=>False
def Zh8:Zo6 K (ZlW K) ZeW:=fun x v A H R' R r g w k=>by
 unfold ZeW at w
 split at w
 .exact .inl (ZgW _ _ A H R' R r g w k)
 .exact .inl (ZgW _ _ A H R' R r g w k)
 .exact .inr (ZiV _ _ A H R' R r g w k)
 .exact w.elim
def Zt2:(Zsy (.ref p) A R)=((∃us,A p=some (.lst us))/\R (Zoh p) A):=rfl
def Ztl:(Zsy (.rol us) A R)=(R (Zcx us) A):=rfl
def Zs2:(Zsy (.tup us) A R)=(R (Zcx us) A):=rfl
def ZpJ:(ZeW [.ref p] A R)=((∃us,A p=some (.lst us))/\R (Zkl p) A):=rfl
def Zry:(ZeW [.rol us] A R)=(R (Zcx (enU us)) A):=rfl
def Zqa:(ZeW [.tup us] A R)=(R (Zcx (enU us)) A):=rfl
end
section
def Zpj(K:YFr):V->List V->Hp->VK->Prop:=fun x vs H Q=>ZfU x vs H Q\/ZnJ K x vs H Q
def Zh2:MtM X "list.extend" (Zpj X.K):=fun pins s σ H x vs v us Q I rx rv h=>by
 rcases h with h|h
 .exact Zja pins s σ H x vs v us Q I rx rv h
 .exact Znp pins s σ H x vs v us Q I rx rv h
variable{K:YFr}
def Zlt:U->List U->AHp->AVK->Prop:=fun u us A Q=>match u,us with
 | .ref a,[.tup ws]=>∃xs,A a=some (.lst xs)/\xs.length+ws.length<=sizeLine/\Q .non (updA A a (.lst (xs++ws)))
 | .ref a,[.ref b]=>∃xs ws,A a=some (.lst xs)/\A b=some (.lst ws)/\xs.length+ws.length<=sizeLine/\Q .non (updA A a (.lst (xs++ws)))
 | _,_=>False
def Zgo:ZkP K (Zpj K) Zlt:=fun x u xs us A H Q' Q r rs g h k=>by
 unfold Zlt at h
 split at h
 .exact .inr (Zlb _ _ _ _ A H Q' Q r rs g h k)
 .exact .inl (ZoH _ _ _ _ A H Q' Q r rs g h k)
 .exact h.elim
def ZqV:(Zlt (.ref p) [.tup us] A Q)=(∃xs,A p=some (.lst xs)/\xs.length+us.length<=sizeLine/\Q .non (updA A p (.lst (xs++us)))):=rfl
def Zr1:(Zlt (.ref p) [.ref q] A Q)=(∃xs ws,A p=some (.lst xs)/\A q=some (.lst ws)/\xs.length+ws.length<=sizeLine/\Q .non (updA A p (.lst (xs++ws)))):=rfl
end
def cutL{α:Type}(xs:List α)(lo hi:Option Int):List α:=(xs.drop (HT.sIx xs.length 0 lo)).take (HT.sIx xs.length xs.length hi-HT.sIx xs.length 0 lo)
def Zb8(f:α->U)(xs:List α)(lo hi:Option Int):ZhA (xs.map f) lo hi=(cutL xs lo hi).map f:=by
 unfold ZhA cutL;rw[Yc,Ya9,List.map_drop]
end L2
set_option maxHeartbeats 4000000
namespace SortA
open PySem PySem.W PyProof.Rows
section
def Le(lt:Nat->Nat->Bool)(p:Array Nat)(i j:Nat):Prop:=lt (p.getD j 0) (p.getD i 0)=false
def Dn(lt:Nat->Nat->Bool)(p:Array Nat)(m:Nat):Prop:=∀i j,i<j->j<m->Le lt p j i
end
end SortA
namespace N2
open PySem PyProof.Rows
section
variable{K:Type}[DecidableEq K](kk:KeyKind prog w K)
inductive Its (h:Heap):List (List K)->List Value->Prop
 | nil:Its h [] []
 | cons {k:List K} {a:Addr} {ks:List (List K)} {vs:List Value} (one:IsTupleKey kk h k a) (more:Its h ks vs):Its h (k::ks) (.ref a::vs)
def ZsE(h:Heap)(ks:List (List K))(a:Addr):Prop:=∃ob its n,(h.get? a=some ob/\ob.cls=.type "tuple")/\ob.data=.seq its n/\Its kk h ks its.toList
def ZsE.ty{s:Shared}(x:ZsE kk s.heap ks a):s.TypeIs (.ref a) "tuple":=by
 obtain⟨ob,_,_,⟨e,c⟩,_⟩:=x;exact⟨ob,e,c⟩
theorem Zt6 (hu:A.units < cLine) (hx:ZsE kk s.heap x a) (hy:ZsE kk s.heap y b) (h:P (.done (.ret (.bool (decide (x=y))))) s) :
  wpAny (model prog w) A (Builtin.«tuple.__eq__» ⟨[.ref a,.ref b],[]⟩) P E s:=by
 have tb:=hy.ty
 obtain ⟨oa,xs,na,⟨ea,_⟩,da,ia⟩:=hx
 obtain ⟨ob,ys,nb,⟨eb,_⟩,db,ib⟩:=hy
 show wpAny _ _ (isInstance (.ref b) (.type "tuple") >>= _) _ _ s
 refine Yb (YaY tb isSubtype_tuple_tuple ?_)
 simp only [Bool.not_true,Y1,Yal]
 refine Yb (wpAny_tupleItemsOf ea da ?_)
 refine Yb (wpAny_tupleItemsOf eb db ?_)
 refine Yb ?_
 refine wpAny_forIn_list _
  (fun rest r s'=>r.1=none/\s'=s/\∃ x1 y1 xs1 ys1,rest=List.zip xs1 ys1/\Its kk s.heap x1 xs1/\Its kk s.heap y1 ys1/\decide (x1=y1)=decide (x=y)/\(xs1.length == ys1.length)=(xs.size == ys.size))
  _ ?_ ?_ _ _ ⟨rfl,rfl,x,y,xs.toList,ys.toList,rfl,ia,ib,rfl,by simp⟩
 ·intro uv rest r s' hh
  obtain ⟨u,v⟩:=uv
  obtain ⟨hr,e0,x1,y1,xs1,ys1,hz,p,q,hdec,hlen⟩:=hh
  subst e0
  cases p with
  | nil=>simp at hz
  | @cons k1 a1 x2 xs2 one p2 =>
   cases q with
   | nil=>simp at hz
   | @cons k2 a2 y2 ys2 two q2 =>
    simp only [List.zip_cons_cons,Ybd,Prod.mk.injEq] at hz
    obtain ⟨⟨z1,z2⟩,z3⟩:=hz
    subst z1 z2 z3
    refine Yb (wpAny_eqBool_tuple hu one two ?_)
    by_cases c:k1=k2
    ·subst c
     rw [YC rfl]
     simp only [Bool.not_true,Y1,Yal]
     refine Yd ⟨rfl,rfl,x2,y2,xs2,ys2,rfl,p2,q2,?_,by simpa using hlen⟩
     rw [<- hdec]
     by_cases d:x2=y2
     ·simp [d]
     ·simp [d]
    ·rw [Yw c]
     simp only [Bool.not_false,if_true]
     have no:decide (x=y)=false:=by rw [<- hdec];simp [c]
     rw [no] at h
     exact Yb (Yd (Yd (Yd h)))
 ·intro rr s' hh
  obtain ⟨r1,r2⟩:=rr
  obtain ⟨hr,e0,x1,y1,xs1,ys1,hz,p,q,hdec,hlen⟩:=hh
  subst e0
  simp only at hr
  subst hr
  refine Yd ?_
  have fin:(xs.size == ys.size)=decide (x=y):=by
   rw [<- hdec,<- hlen]
   cases p with
   | nil =>
    cases q with
    | nil=>simp
    | cons _ _=>simp
   | cons _ _ =>
    cases q with
    | nil=>simp
    | cons _ _=>simp at hz
  show P (.done (.ret (.bool (xs.size == ys.size)))) s'
  rw [fin];exact h
end
end N2
namespace N2
open PySem PyProof.Rows PySem.F
end N2
namespace L2
open PySem PySem.Spec PyProof.Rows N2
def ZmA:∀ {xs:List V} {us:List Value} {i:Nat} {u:Value},Z6 xs us->us[i]? = some u->∃x,xs[i]? = some x/\Zau x u
 | _,_,_,_,.nil,e=>by simp at e
 | _,_,0,_,.cons h _,e=>by simp at e;subst e;exact⟨_,rfl,h⟩
 | _,_,i+1,_,.cons _ r,e=>by simp at e;simpa using ZmA r e
theorem ZeA.at{K:YFr}:∀ {ds:List PyData} {vs:List V} {i:Nat} {v:V},ZeA K H ds vs->vs[i]? = some v->∃d,ds[i]? = some d/\Rep K H d v
 | _,_,_,_,.nil,e=>by simp at e
 | _,_,0,_,.cons h _,e=>by simp at e;subst e;exact⟨_,rfl,h⟩
 | _,_,i+1,_,.cons _ r,e=>by simp at e;simpa using ZeA.at r e
def ZeA.len{K:YFr}:∀ {ds:List PyData} {vs:List V},ZeA K H ds vs->ds.length=vs.length
 | _,_,.nil=>rfl
 | _,_,.cons _ r=>by rw[List.length_cons,List.length_cons,r.len]
def Kp.ext{K:YFr}(h:H l=some (.ext φ)):Kp K H (upd H l o'):=⟨fun a xs q=>by
 rcases q with(q|⟨o,q⟩)|q
 .exact .inl (.inl (by rw[Zr (ZcE q h (by intro z;cases z))];exact q))
 .exact .inl (.inr ⟨o,by rw[Zr (ZcE q h (by intro z;cases z))];exact q⟩)
 .exact .inr q,fun a xs q=>by
 rcases q with⟨o,q⟩|q
 .exact .inl ⟨o,by rw[Zr (ZcE q h (by intro z;cases z))];exact q⟩
 .exact .inr q,fun a o u q=>by rw[Zr (ZcE q h (by intro z;cases z))];exact q⟩
def HR.putO{K:YFr}(h:HR K H A)(kp:Kp K H (upd H a ob))(new:RO K (upd H a ob) a o):HR K (upd H a ob) (updA A a o):=fun b u q=>by
 by_cases hb:b=a
 .subst hb
  rw[Zc]at q
  cases q
  exact new
 .rw[Zn hb]at q
  exact(h b u q).keep kp (Zr hb)
def big(I:Inv X pins σ H s):sysModules<s.heap.objs.size :=
 Nat.lt_trans (by decide) (show mainGlobals<s.heap.objs.size from(I.mod.glob.keeps I.bk).lt)
open PySem PySem.Spec PySem.W PyProof.Rows
open PySem PySem.Spec PyProof.Rows
section
variable{K:YFr}
def RFs.cons_inv(h:RFs K H (x::fs) gs):∃v gs',gs=(x.1,v)::gs'/\RU K H x.2 v/\RFs K H fs gs':=by
 obtain⟨h1,h2⟩:=h;cases gs with
 | nil=>simp at h1
 | cons y gs =>
  obtain⟨n,v⟩:=y;simp only[Yq,Ybd]at h1;cases h2 with
  | cons p q=>exact⟨v,gs,by rw[h1.1],p,h1.2,q⟩
def RFs.look:∀ {fs:List (Str×U)} {gs:List (Str×V)},RFs K H fs gs->fs.lookup f=some u->∃v,gs.lookup f=some v/\RU K H u v
 | [],_,_,e=>by simp at e
 | (n, w)::fs,gs,h,e=>by
  obtain⟨v,gs',rfl,r,t⟩:=h.cons_inv
  by_cases c:f==n
  .rw[List.lookup_cons,c]at e;cases e
   exact⟨v,by rw[List.lookup_cons,c],r⟩
  .have c':(f==n)=false:=by simpa using c
   rw[List.lookup_cons,c']at e
   obtain⟨v',h1,h2⟩:=RFs.look t e
   exact⟨v',by rw[List.lookup_cons,c'];exact h1,h2⟩
def RFs.miss:∀ {fs:List (Str×U)} {gs:List (Str×V)},RFs K H fs gs->fs.lookup f=none->gs.lookup f=none
 | [],_,⟨h1,_⟩,_=>by
  cases ‹List (Str×V)› with
  | nil=>rfl
  | cons y gs=>simp at h1
 | (n, w)::fs,gs,h,e=>by
  obtain⟨v,gs',rfl,r,t⟩:=h.cons_inv
  by_cases c:f==n
  .rw[List.lookup_cons,c]at e;cases e
  .have c':(f==n)=false:=by simpa using c
   rw[List.lookup_cons,c']at e ⊢
   exact RFs.miss t e
def RFs.len(h:RFs K H fs gs):fs.length=gs.length:=by
 have:=congrArg List.length h.1;simpa using this
def RFs.same(e:Kp K H H')(h:RFs K H fs gs):RFs K H' fs gs:=⟨h.1,h.2.same e⟩
def Zct(f:Str)(u:U):List (Str×U)->List (Str×U)
 | []=>[(f,u)]
 | (g,x)::r=>if g=f then(g,u)::r else(g,x)::Zct f u r
theorem RFs.put(hu:RU K H u v):∀ {fs:List (Str×U)} {gs:List (Str×V)},RFs K H fs gs->RFs K H (Zct f u fs) (Zcf f v gs)
 | [],gs,h=>by
  cases gs with
  | nil=>exact⟨rfl,.one hu⟩
  | cons y gs=>have:=h.1;simp at this
 | (n, w)::fs,gs,h=>by
  obtain⟨x,gs',rfl,r,t⟩:=h.cons_inv
  by_cases c:n=f
  .simp only[Zct,Zcf,if_pos c]
   exact⟨by simp[t.1],.cons hu t.2⟩
  .simp only[Zct,Zcf,if_neg c]
   have:=RFs.put (f:=f) hu t
   exact⟨by simp[this.1],.cons r this.2⟩
def HR.ins(g:HR K H A)(e:A a=some (.ins C dx fs)):∃gs,H a=some (.ins C dx gs)/\RFs K H fs gs:=g a _ e
def HR.setI(g:HR K H A)(e:H a=some (.ins C dx gs0))(r:RFs K H fs gs):HR K (upd H a (.ins C dx gs)) (updA A a (.ins C dx fs)) :=
 g.putO (Kp.ins e) ⟨gs,Zv,r.same (Kp.ins e)⟩
def ZvL(K:YFr)(aa:AE)(f:Str):AE:=fun ρ A Q=>aa ρ A fun x A1=>∃a C dx fs u,x=.ref a/\A1 a=some (.ins C dx fs)/\Cls K C/\ZaE K C f/\fs.lookup f=some u/\Q u A1
def Z5(h:AbE K ta aa):AbE K (Zvt K ta f) (ZvL K aa f):=fun ρ A σ H Q' Q hs g w k =>
 h ρ A σ H _ _ hs g w fun x A1 v H1 k1 g1 r1 hq0=>by
  obtain⟨a,C,dx,fs,u,e1,e2,c,n,l,q⟩:=hq0
  subst e1
  cases r1
  obtain⟨gs,h1,h2⟩:=g1.ins e2
  obtain⟨v,h3,h4⟩:=h2.look l
  exact⟨a,C,dx,gs,v,rfl,h1,c,n,h3,k _ _ _ _ k1 g1 h4 q⟩
def Zq6(K:YFr)(aa av:AE)(f:Str):AS:=fun D ρ A=>av ρ A fun y A1=>aa ρ A1 fun x A2=>∃a C dx fs,x=.ref a/\A2 a=some (.ins C dx fs)/\Cls K C/\ZaE K C f/\fs.length<1000/\D.nx ρ (updA A2 a (.ins C dx (Zct f y fs)))
def ZaF(ha:AbE K ta aa)(hv:AbE K tv av):AbS K (ZvB K ta tv f) (Zq6 K aa av f):=fun ρ A σ H D' D hs g w k =>
 hv ρ A σ H _ _ hs g w fun y A1 v1 H1 k1 g1 r1 q1=>ha ρ A1 σ H1 _ _ (hs.same k1) g1 q1 fun x A2 v2 H2 k2 g2 r2 hq0=>by
  obtain⟨a,C,dx,fs,e1,e2,c,n,l,q⟩:=hq0
  subst e1
  cases r2
  obtain⟨gs,h1,h2⟩:=g2.ins e2
  have kp:Kp K H2 (upd H2 a (.ins C dx (Zcf f v1 gs))):=Kp.ins h1
  exact⟨a,C,dx,gs,rfl,h1,c,n,by rw[<- h2.len];exact l,k.nx _ _ _ _ (k1.trans (k2.trans kp)) (g2.setI h1 (h2.put (r1.same k2))) (hs.same (k1.trans (k2.trans kp))) q⟩
def Zr5(C:Addr)(asp:ASp)(l:AA):AE:=fun ρ A Q=>l ρ A fun us A1=>∀x dx,A1 x=none->asp (.ref x::us) (updA A1 x (.ins C dx [])) (fun u A2=>u=.non/\Q (.ref x) A2)
def Zby(hl:AbA K t l):AbE K (Zm5 C (Zar K asp) [] E t) (Zr5 C asp l):=fun ρ A σ H Q' Q hs g w k =>
 hl ρ A σ H _ _ hs g w fun us A1 vs H1 k1 g1 r1 q1 x dx hx hdx hne=>by
  have s1:Zat H1 (upd H1 dx (.own x)):=Zat.upd_new hdx
  have hx':upd H1 dx (.own x) x=none:=by rw[Zr (Ne.symm hne)];exact hx
  have s2:Zat (upd H1 dx (.own x)) (upd (upd H1 dx (.own x)) x (.ins C dx [])):=Zat.upd_new hx'
  have g2:HR K (upd (upd H1 dx (.own x)) x (.ins C dx [])) (updA A1 x (.ins C dx [])):=(g1.grow s1).putO s2.kp ⟨[],Zv,rfl,.nil⟩
  refine⟨.ref x::us,_,_,.cons (.ref x) (by rw[YN];exact r1.same (s1.kp.trans s2.kp)),g2,q1 x dx (g1.none hx),fun u A3 v3 H3 k3 g3 r3 h_q=>?_⟩
  obtain⟨e,q3⟩:=h_q
  subst e
  cases r3
  exact⟨rfl,k _ _ _ _ (k1.trans ((s1.kp.trans s2.kp).trans k3)) g3 (.ref x) q3⟩
end
section
def Zcc:∀ {ts:List Str} {us:List Value},Z6 (ts.map V.str) us->∃l:List (Str×Tok),us=strValues l/\l.map (·.1)=ts
 | [],_,.nil=>⟨[],rfl,rfl⟩
 | z :: ts,_,.cons r h=>by
  obtain⟨t,rfl⟩:=r
  obtain⟨l,rfl,e⟩:=Zcc h
  exact⟨(z,t)::l,rfl,by rw[Yq,e]⟩
def Zp3(K:YFr):V->List V->Hp->VK->Prop:=fun x vs H Q=>∃z p ts,x=.str z/\vs=[.ref p]/\SqL K H p (ts.map V.str)/\JoinOk z ts=true/\Q (.str (Txt.join z ts)) H
def Zn2:MtR X "str.join" (Zp3 X.K):=by
 intro pins s σ H x vs v us Q I rx rv h;obtain⟨z,p,ts,rfl,rfl,hl,hok,q⟩:=h;obtain⟨t,rfl⟩:=rx;obtain⟨u,rfl,ru⟩:=rv.one;cases ru;obtain⟨its,rs,pl,hz⟩:=I.list hl;obtain⟨l,rfl,e⟩:=Zcc rs;exact SC.join pl.isList e hok fun t' k=>⟨.str _,H,I.tok k,⟨_,rfl⟩,q⟩
def tNo:TS:=fun _ _ _=>False
def Zq7{st:Stmt}:PS X st tNo:=fun _ _ _ _ _ _ h=>h.elim
end
section
variable{K:YFr}
def aNo:AS:=fun _ _ _=>False
def Zq2:AbS K tNo aNo:=fun _ _ _ _ _ _ _ _ h _=>h.elim
def ZjD:U->AHp->Prop:=fun u _=>match u with
 | .str _=>True
 | _=>False
def Zkq:AbY K "str" ZjD:=fun x u A H r g h=>by
 unfold ZjD at h
 split at h
 .cases r;exact(rfl:"str"="str")
 .exact h.elim
def Zoi:U->List U->AHp->AVK->Prop:=fun u us A Q=>match u,us with
 | .str z,[.ref p]=>∃ts,A p=some (.lst (ts.map U.str))/\JoinOk z ts=true/\Q (.str (Txt.join z ts)) A
 | _,_=>False
def Zkg:ZkP K (Zp3 K) Zoi:=fun x u xs us A H Q' Q r rs g h k=>by
 unfold Zoi at h
 split at h
 .cases r
  obtain⟨v,rfl,rv⟩:=rs.inv1
  cases rv
  obtain⟨ts,e,ok,h⟩:=h
  obtain⟨vs,h1,r1⟩:=g.list e
  have:=r1.strs
  subst this
  exact⟨_,_,ts,rfl,rfl,SqL.of h1,ok,k _ _ _ _ (.refl H) g (.str _) h⟩
 .exact h.elim
def DE(pr:Params)(K:YFr)(e:DictEntry)(x:Str×U):Prop:=(∃t,e.key=.str x.1 t)/\e.hash=PyData.keyHash pr x.1/\∃v,Zau v e.val/\∀H,RU K H x.2 v
end
section
variable{K:YFr}
def Zr7:Zoi (.str z) [.ref p] A Q=∃ts,A p=some (.lst (ts.map U.str))/\JoinOk z ts=true/\Q (.str (Txt.join z ts)) A:=rfl
def Znj:ZjD (.str z) A=True:=rfl
def Zv2:aNo D ρ A=False:=rfl
def Ztn:ZvL K aa f ρ A Q=aa ρ A fun x A1=>∃a C dx fs u,x=.ref a/\A1 a=some (.ins C dx fs)/\Cls K C/\ZaE K C f/\fs.lookup f=some u/\Q u A1:=rfl
def Zr3:Zq6 K aa av f D ρ A=av ρ A fun y A1=>aa ρ A1 fun x A2=>∃a C dx fs,x=.ref a/\A2 a=some (.ins C dx fs)/\Cls K C/\ZaE K C f/\fs.length<1000/\D.nx ρ (updA A2 a (.ins C dx (Zct f y fs))):=rfl
def Zsi:Zr5 C asp l ρ A Q=l ρ A fun us A1=>∀x dx,A1 x=none->asp (.ref x::us) (updA A1 x (.ins C dx [])) (fun u A2=>u=.non/\Q (.ref x) A2):=rfl
end
def Zmb(c:AT)(t e:AS):AS:=Ztw c t e
def ZT{K:YFr}(hc:AbT K tc c)(h1:AbS K t1 a1)(h2:AbS K t2 a2):AbS K (Zuy tc t1 t2) (Zmb c a1 a2):=Zas hc h1 h2
def Zcl(k:Bool)(h1:∀B:Bool->AHp->Prop,B k A->c ρ A B)(h2:if k=true then t D ρ A else e D ρ A):Zmb c t e D ρ A:=h1 _ h2
def Zbu(h1:∀B:Bool->AHp->Prop,B true A->c ρ A B)(h2:t D ρ A):Zmb c t e D ρ A:=h1 _ (Zfr rfl h2)
def Zbc(h1:∀B:Bool->AHp->Prop,B false A->c ρ A B)(h2:e D ρ A):Zmb c t e D ρ A:=h1 _ (ZhM Yu h2)
def Zl2(m:Str)(tbl:List (Addr×Sp))(E:XK)(ta:TE)(t:TA):TE:=fun σ H Q=>ta σ H fun x H1=>∃a dx fs C sp,x=.ref a/\H1 a=some (.ins C dx fs)/\(C,sp)∈tbl/\fs.lookup m=none/\t σ H1 fun vs H2=>sp (x::vs) H2 Q E
def MOk(P:Program)(w:World)(K:YFr)(mg:Str->Option Value)(base:Heap)(CX:CXT)(k:Nat)(m:Str)(tbl:List (Addr×Sp)):Prop:=∀C sp,(C,sp)∈tbl->∃f fd ps,Cls K C/\Zpb K C m f/\ZbB P w K mg base CX k f fd ps sp/\Zb7 K fd ps []
def MOk.mono{K:YFr}(h:MOk P w K mg base CX j m tbl)(l:j<=k):MOk P w K mg base CX k m tbl:=fun C sp hin=>by
 obtain⟨f,fd,ps,h1,h2,h3,h4⟩:=h C sp hin
 exact⟨f,fd,ps,h1,h2,h3.mono l,h4⟩
section
def ZaD(he:PE X o ta)(hT:MOk X.prog X.w X.K X.mg X.base CX k m tbl)(hr:Zbb k X.A)(hx:ZbX CX X E)(ht : eval (.Call (.Attribute o m apos) [] [] pos) X.env=(do
   let ov <- eval o X.env
   standAt apos.atName
   let(f,first) <- holding [ov] (getMethod ov m pl)
   callWith pos f first (backTo pos (starEach [] X.env)) (backToKw pos (keywordEach [] X.env))):=by rfl):
  PE X (.Call (.Attribute o m apos) [] [] pos) (Zl2 m tbl E ta ZkZ):=by
 intro pins s σ H Q I h;refine methodCall_KW (pl:=pl) (thn (he pins s σ H _ I h) fun u s1 ⟨x,H1,I1,rx,a,dx,fs,C,sp,ex,ea,hin,l,q⟩=>?_) ht;subst ex;obtain rfl:u=Value.ref a:=rx;obtain⟨f,fd,ps,c,hm,F,hb⟩:=hT C sp hin;exact Zch I1 ea c hm l (callWith_K0 (first:=[.ref a]) I1.kIn hm.kp (Zfk (us:=[.ref a]) (vs:=[.ref a]) (dvs:=[]) (ds:=[]) F hr hb .nil hx I1 (.cons rfl .nil) q))
end
section
variable{K:YFr}
def Zl8(m:Str)(tbl:List (Addr×ASp))(aa:AE)(l:AA):AE:=fun ρ A Q=>aa ρ A fun x A1=>∃a dx fs C asp,x=.ref a/\A1 a=some (.ins C dx fs)/\(C,asp)∈tbl/\fs.lookup m=none/\l ρ A1 fun us A2=>asp (x::us) A2 Q
def ZaU(ha:AbE K ta aa)(hl:AbA K t l):AbE K (Zl2 m (tbl.map fun p=>(p.1,Zar K p.2)) E ta t) (Zl8 m tbl aa l):=fun ρ A σ H Q' Q hs g w k =>
 ha ρ A σ H _ _ hs g w fun x A1 v1 H1 k1 g1 r1 hq0=>by
  obtain⟨a,dx,fs,C,asp,e1,e2,hin,e3,q⟩:=hq0
  subst e1
  cases r1
  obtain⟨gs,h1,h2⟩:=g1.ins e2
  refine⟨a,dx,gs,C,Zar K asp,rfl,h1,YQ.mpr ⟨(C,asp),hin,rfl⟩,h2.miss e3,hl ρ A1 σ H1 _ _ (hs.same k1) g1 q fun us A2 vs H2 k2 g2 r2 q2=>⟨.ref a::us,A2,Q',.cons (.ref a) r2,g2,q2,fun z A3 v3 H3 k3 h3 r3 q3=>k _ _ _ _ (k1.trans (k2.trans k3)) h3 r3 q3⟩⟩
def Zna:Zl8 m tbl aa l ρ A Q=aa ρ A fun x A1=>∃a dx fs C asp,x=.ref a/\A1 a=some (.ins C dx fs)/\(C,asp)∈tbl/\fs.lookup m=none/\l ρ A1 fun us A2=>asp (x::us) A2 Q:=rfl
end
def IsC(K:YFr)(C c:Addr)(b:Bool):Prop:=Cls K C/\PySem.W.findIn K (.ref C) "__class__"=some (some (.builtin "object.__class__"))/\specialIn K (.builtin "object.__class__") "__get__"=some (some (.builtin "getset_descriptor.__get__")) /\
 takesIn K (.builtin "object.__class__")=some true/\mroIn K C (.type "object")=some true/\PySem.W.kitOne K (.ref C) (.ref c)=some b
def ZvS(K:YFr):List V->Hp->VK->Prop:=fun xs H Q=>∃a C dx fs c b,xs=[.ref a,.ref c]/\H a=some (.ins C dx fs)/\IsC K C c b/\Q (.bl b) H
def ZjF:Zaj X (.builtin "isinstance") (ZvS X.K):=by
 intro pins s σ H xs us Q I r h;obtain⟨a,C,dx,fs,c,b,rfl,hH,⟨h1,h2,h3,h4,h5,h6⟩,q⟩:=h;obtain⟨u,v,rfl,ru,rv⟩:=r.two;cases rv;exact Ze3 I ru (.ins hH h1 h2 h3 h4 h5) h6 fun tk=>⟨.bl b,H,I.tok tk,rfl,q⟩
section
variable{K:YFr}
def Zvu(K:YFr):List U->AHp->AVK->Prop:=fun us A Q=>∃a C dx fs c b,us=[.ref a,.ref c]/\A a=some (.ins C dx fs)/\IsC K C c b/\Q (.bl b) A
def Zfn:AbL K (ZvS K) (Zvu K):=fun xs us A H Q' Q r g h k=>by
 obtain⟨a,C,dx,fs,c,b,rfl,e,hi,q⟩:=h
 cases r with
 | cons r1 r=>cases r with
  | cons r2 r =>
   cases r;cases r1;cases r2
   obtain⟨gs,h1,_⟩:=g.ins e
   exact⟨a,C,dx,gs,c,b,rfl,h1,hi,k _ _ _ _ (.refl H) g (.bl b) q⟩
def ZtJ:Zvu K us A Q=∃a C dx fs c b,us=[.ref a,.ref c]/\A a=some (.ins C dx fs)/\IsC K C c b/\Q (.bl b) A:=rfl
end
abbrev TJ:=Str->St->Hp->(Str->Hp->Prop)->Prop
def PJ(X:Cx)(es:List Expr)(t:TJ):Prop :=
 ∀(pins:List (Addr×Obj))(s:Shared)(σ:St)(H:Hp)(out:Str)(Q:Str->Hp->Prop),Inv X pins σ H s->t out σ H Q->wpAny (model X.prog X.w) X.A (joinParts out (evalEach es X.env)) (EP X pins σ fun v H'=>∃z,v=.str z/\Q z H') X.xe s
def ZnY:TJ:=fun out _ H Q=>out.length<=sizeLine/\Q out H
def ZdC(te:TE)(t:TJ):TJ:=fun out σ H Q=>te σ H fun v H1=>∃y,v=.str y/\(out++y).length<=sizeLine/\t (out++y) σ H1 Q
def ZtY(te:TE):TE:=fun σ H Q=>te σ H fun v H1=>∃y,v=.str y/\y.length<=sizeLine/\Q (.str y) H1
def tFs(t:TJ):TE:=fun σ H Q=>t Str.empty σ H fun z H'=>Q (.str z) H'
section
def Zml:PJ X [] ZnY:=fun pins s σ H out Q I ⟨hz,q⟩=>joinParts_nil (⟨.str out,H,I.tok _,⟨_,rfl⟩,out,rfl,q⟩) hz
def Zdb(he:PE X e te)(ht:PJ X es t):PJ X (e::es) (ZdC te t):=by
 intro pins s σ H out Q I h;refine joinParts_cons (thn (he pins s σ H _ I h) fun u s1 h_q=>?_);obtain⟨v,H1,I1,rv,y,ev,hz,q⟩:=h_q;subst ev;obtain⟨tk,rfl⟩:=rv;exact⟨hz,ht pins s1 σ H1 (out++y) Q I1 q⟩
def ZmE(he:PE X e te):PE X (.FormattedValue e (-1) none pos) (ZtY te):=by
 intro pins s σ H Q I h;refine FormattedValue_plain (thn (he pins s σ H _ I h) fun u s1 h_q=>?_);obtain⟨v,H1,I1,rv,y,ev,hz,q⟩:=h_q;subst ev;obtain⟨tk,rfl⟩:=rv;exact formatField_str (fun t' k=>⟨.str y,H1,I1.tok k,⟨_,rfl⟩,q⟩) hz
def ZjB(h:PJ X (v1::v2::es) t):PE X (.JoinedStr (v1::v2::es) pos) (tFs t):=by
 intro pins s σ H Q I hq;refine JoinedStr_many (thn (h pins s σ H Str.empty _ I hq) fun u s1 h_q=>?_);obtain⟨v,H1,I1,rv,z,ev,q⟩:=h_q;subst ev;exact⟨.str z,H1,I1,rv,q⟩
end
section
abbrev AJ:=Str->ASt->AHp->(Str->AHp->Prop)->Prop
end
structure Mk0 (K:YFr) (C:Addr):Prop where
 makes:PySem.W.makesIn K C=true
 init:PySem.W.findIn K (.ref C) "__init__"=some (some (.builtin "object.__init__"))
 kp:PySem.W.keepIn K (.ref C)=true
def Zmu(C:Addr):TE:=fun _ H Q=>∀x dx,H x=none->H dx=none->dx≠x->Q (.ref x) (upd (upd H dx (.own x)) x (.ins C dx []))
section
def ZhQ(M:Mk0 X.K C)(I:Inv X pins σ H s)(h:∀x dx,H x=none->H dx=none->dx≠x->Q (.ref x) (upd (upd H dx (.own x)) x (.ins C dx []))):
  wpAny (model X.prog X.w) X.A (call (.ref C) []) (EP X pins σ Q) X.xe s:=by
 have hq:=h (s.heap.objs.size+1) s.heap.objs.size (I.hok.fresh (Yaf _)) (I.hok.fresh (Yj _)) (Yo (Yaj _));have I2:=Inv.made (C:=C) I;have Y:=makes_of (M:=model X.prog X.w) I.kIn M.makes;have e2:((s.heap.push emptyDict).push (instObj C s.heap.objs.size)).get? (s.heap.objs.size+1)=some (instObj C s.heap.objs.size):=by
  have:=Yl (s.heap.push emptyDict) (o:=instObj C s.heap.objs.size) rfl;rwa [YJ]at this
 refine YaD (ZiG I.kIn M.makes M.init (fun self=>Looks.of_pure (PySem.W.oi_bind self)) ?_);have t1:PySem.W.Looks (model X.prog X.w) ((s.heap.push emptyDict).push (instObj C s.heap.objs.size)) (typeOf (.ref (s.heap.objs.size+1))) (.ref C):=(Looks.ld e2).andThen .now;have t2:PySem.W.Looks (model X.prog X.w) ((s.heap.push emptyDict).push (instObj C s.heap.objs.size)) (isInstance (.ref (s.heap.objs.size+1)) (.type "object")) true:=t1.andThen (Y.top.keeps fun b o e=>Ye _ (Ye _ e));refine codeAny_call_builtin PySem.W.oi_plain PySem.W.entry_oi (@PySem.W.check_slot (model X.prog X.w) _ _ _ "object.__init__" "object" "__init__" (.ref (s.heap.objs.size+1)) [] [] _ PySem.W.oi_kind PySem.W.oi_split t2 (PySem.W.oi_args (.ref (s.heap.objs.size+1))) ?_);rw[oi_run];exact Yd (And.intro rfl ⟨.ref (s.heap.objs.size+1),_,I2,rfl,hq⟩)
def ZqR(M:Mk0 X.K C)(hg:Gl X x)(hm:X.mg x=some (.ref C))(hdb:(x==("__debug__":Str))=false:=by decide):PE X (.Call (.Name x p) [] [] pos) (Zmu C):=by
 intro pins s σ H Q I h;exact Yah (Za0 I hg hm (callWith_K0 I.kIn M.kp (ZhQ M I h)) hdb)
end
section
variable{K:YFr}
def Zma(C:Addr):AE:=fun _ A Q=>∀x dx,A x=none->Q (.ref x) (updA A x (.ins C dx []))
def Zp4:AbE K (Zmu C) (Zma C):=fun ρ A σ H Q' Q hs g q k x dx hx hdx hne=>by
 have s1:Zat H (upd H dx (.own x)):=Zat.upd_new hdx
 have hx':upd H dx (.own x) x=none:=by rw[Zr (Ne.symm hne)];exact hx
 have s2:Zat (upd H dx (.own x)) (upd (upd H dx (.own x)) x (.ins C dx [])):=Zat.upd_new hx'
 have g2:HR K (upd (upd H dx (.own x)) x (.ins C dx [])) (updA A x (.ins C dx [])):=(g.grow s1).putO s2.kp ⟨[],Zv,rfl,.nil⟩
 exact k _ _ _ _ (s1.kp.trans s2.kp) g2 (.ref x) (q x dx (g.none hx))
def Zus:Zma C ρ A Q=∀x dx,A x=none->Q (.ref x) (updA A x (.ins C dx [])):=rfl
end
def Zsz(K:YFr)(C:Addr)(cs:List Addr)(b:Bool):Prop:=Cls K C/\PySem.W.findIn K (.ref C) "__class__"=some (some (.builtin "object.__class__"))/\specialIn K (.builtin "object.__class__") "__get__"=some (some (.builtin "getset_descriptor.__get__")) /\
 takesIn K (.builtin "object.__class__")=some true/\mroIn K C (.type "object")=some true/\kitAny K (.ref C) (cs.map Value.ref)=some b
def Zrn(K:YFr):List V->Hp->VK->Prop:=fun xs H Q=>∃a C dx fs p cs b,xs=[.ref a,.ref p]/\H a=some (.ins C dx fs)/\SqT K H p (cs.map V.ref)/\Zsz K C cs b/\Q (.bl b) H
def Zdk:∀ {cs:List Addr} {us:List Value},Z6 (cs.map V.ref) us->us=cs.map Value.ref
 | [],_,.nil=>rfl
 | c :: cs,_,.cons r h=>by
  cases(show _=Value.ref c from r)
  rw[Zdk h];rfl
def Zmw:Zaj X (.builtin "isinstance") (Zrn X.K):=by
 intro pins s σ H xs us Q I r h;obtain⟨a,C,dx,fs,p,cs,b,rfl,hH,ht,⟨h1,h2,h3,h4,h5,h6⟩,q⟩:=h;obtain⟨u,v,rfl,ru,rv⟩:=r.two;cases ru;cases rv;obtain⟨its,r',pl,_⟩:=I.tuple ht;have e:=Zdk r';subst e;obtain⟨mA,O,_⟩:=ZcR I.hok hH;obtain⟨od,J,_⟩:=O.look;have hp:∃dd n sl,s.heap.get? p=some ⟨.type "tuple",dd,.seq (cs.map Value.ref).toArray n,sl⟩:=by
  obtain⟨⟨oc,od',da,sl⟩,ho,hc,n,hd⟩:=(show IsTup s.heap p (cs.map Value.ref).toArray from by first|exact pl|exact pl.isTup|(obtain⟨o,n,e,c,_,d,_⟩:=pl;exact⟨o,e,c,n,d⟩));cases hc;cases hd;exact⟨_,n,_,ho⟩
 obtain⟨dd,n,sl,hp⟩:=hp;exact kia_tup (kitx_own (h1.get _) h1.hd h2 h3 h4 h5) I.kIn J hp h6 (fun z=>nomatch z) fun tk=>⟨.bl b,H,I.tok tk,rfl,q⟩
section
variable{K:YFr}
def RUs.refs:∀ {cs:List Addr} {vs:List V},RUs K H (cs.map U.ref) vs->vs=cs.map V.ref
 | [],_,.nil=>rfl
 | c::cs,_,.cons h r=>by cases h;rw[Yq,RUs.refs r]
def Zrr(K:YFr):List U->AHp->AVK->Prop:=fun us A Q=>∃a C dx fs cs b,us=[.ref a,.tup (cs.map U.ref)]/\A a=some (.ins C dx fs)/\Zsz K C cs b/\Q (.bl b) A
def Zjb:AbL K (Zrn K) (Zrr K):=fun xs us A H Q' Q r g h k=>by
 obtain⟨a,C,dx,fs,cs,b,rfl,e,hi,q⟩:=h
 cases r with
 | cons r1 r=>cases r with
  | cons r2 r =>
   cases r;cases r1
   cases r2 with
   | tup ht hs =>
    have:=hs.refs
    subst this
    obtain⟨gs,h1,_⟩:=g.ins e
    exact⟨a,C,dx,gs,_,cs,b,rfl,h1,ht,hi,k _ _ _ _ (.refl H) g (.bl b) q⟩
def Zpe:Zrr K us A Q=∃a C dx fs cs b,us=[.ref a,.tup (cs.map U.ref)]/\A a=some (.ins C dx fs)/\Zsz K C cs b/\Q (.bl b) A:=rfl
end
def Str.toL_inj{x y:Str}(h:x.cps.toList=y.cps.toList):x=y:=Str.ext' (YbF.mp h)
def Zeq:Str:="abcdefghijklmnopqrstuvwxyz"
def keptsL:List Str:=["nothing","bead","or","by","row","bag","choice","ring","of","left","right"]
def wdB(x:Str):Bool:=x.cps.toList.all (fun c=>decide (c∈Zeq.cps.toList))&&(decide (1<=x.length)&&decide (x.length<=8))&&!keptsL.contains x
def Zj2(h:wdB x=true):(∀c∈x.cps.toList,97<=c/\c<=122)/\1<=x.length/\x.length<=8/\x∉keptsL:=by
 unfold wdB at h;simp only[YU,YaW,Ya2,Bool.not_eq_true',List.contains_eq_mem,YaZ]at h;refine⟨fun c hc=>?_,h.1.2.1,h.1.2.2,h.2⟩;have:=h.1.1 c hc;have key:∀c∈Zeq.cps.toList,97<=c/\c<=122:=by decide +kernel
 exact key c this
def Zgg(h:wdB x=true):PyData.strOk x=true:=by
 unfold PyData.strOk;rw[<- Array.all_toList,YaW];intro c hc;have:=(Zj2 h).1 c hc;simp only[Ya2];lia
def opn:Nat->Str
 | 0=>"["
 | 1=>"{"
 | 2=>"<"
 | _=>"(("
def cls:Nat->Str
 | 0=>"]"
 | 1=>"}"
 | 2=>">"
 | _=>"))"
mutual
def Wr.wd:Wr->Bool
 | .nothing=>true
 | .bead c=>wdB c
 | .side _ f=>f.wd
 | .pair f g=>f.wd&&g.wd
 | .many k ps=>wdL ps
def wdL:List Wr->Bool
 | []=>true
 | w::ws=>w.wd&&wdL ws
end
mutual
def Wr.toks:Wr->List Str
 | .nothing=>["nothing"]
 | .bead c=>[c]
 | .side b f=>Znv b::f.toks
 | .pair f g=>"("::(f.toks++(g.toks++[(")":Str)]))
 | .many k ps=>opn k::(Zp2 ps++[cls k])
def Zp2:List Wr->List Str
 | []=>[]
 | w::ws=>w.toks++Zp2 ws
end
inductive Rl where
 | nothing|bead (c:Str)|named (c:Str)|or (x y:Rl)|by_ (x y:Rl)|hold (k:Nat) (x:Rl)
def Rl.toU:Rl->U
 | .nothing=>.tup [.str "nothing"]
 | .bead c=>.tup [.str "bead",.str c]
 | .named c=>.tup [.str "name",.str c]
 | .or x y=>.tup [.str "or",x.toU,y.toU]
 | .by_ x y=>.tup [.str "by",x.toU,y.toU]
 | .hold k x=>.tup [.str (ZaA k),x.toU]
def Rl.lvl:Rl->Nat
 | .or _ _=>0
 | .by_ _ _=>1
 | _=>2
def ZqX(n l:Nat)(ts:List Str):List Str:=if l<n then("(":Str)::(ts++[(")":Str)])else ts
def Rl.tk:Rl->List Str
 | .nothing=>["nothing"]
 | .bead c=>["bead",c]
 | .named c=>[c]
 | .or x y=>ZqX 0 x.lvl x.tk++(("or":Str)::ZqX 1 y.lvl y.tk)
 | .by_ x y=>ZqX 1 x.lvl x.tk++(("by":Str)::ZqX 2 y.lvl y.tk)
 | .hold k x=>ZaA k::"of"::ZqX 2 x.lvl x.tk
def Rl.dep:Rl->Nat
 | .nothing=>1
 | .bead _=>1
 | .named _=>1
 | .or x y=>1+max x.dep y.dep
 | .by_ x y=>1+max x.dep y.dep
 | .hold _ x=>1+x.dep
def RlO(cs:Nat->Addr)(A:AHp):Addr->Rl->Prop
 | a,.nothing=>∃dx,A a=some (.ins (cs 0) dx [])
 | a,.bead c=>∃dx,A a=some (.ins (cs 1) dx [("colour",.str c)])
 | a,.named c=>∃dx,A a=some (.ins (cs 2) dx [("name",.str c)])
 | a,.or x y=>∃dx p q,A a=some (.ins (cs 3) dx [("one",.ref p),("other",.ref q)])/\RlO cs A p x/\RlO cs A q y
 | a,.by_ x y=>∃dx p q,A a=some (.ins (cs 4) dx [("one",.ref p),("other",.ref q)])/\RlO cs A p x/\RlO cs A q y
 | a,.hold k x=>∃dx p,A a=some (.ins (cs (5+min k 3)) dx [("part",.ref p)])/\RlO cs A p x
def RlO.ext(e:Ext A A'):∀ {a:Addr} {r:Rl},RlO cs A a r->RlO cs A' a r
 | _,.nothing,⟨dx,h⟩=>⟨dx,e _ _ h⟩
 | _,.bead _,⟨dx,h⟩=>⟨dx,e _ _ h⟩
 | _,.named _,⟨dx,h⟩=>⟨dx,e _ _ h⟩
 | _,.or x y,⟨dx,p,q,h,h1,h2⟩=>⟨dx,p,q,e _ _ h,h1.ext e,h2.ext e⟩
 | _,.by_ x y,⟨dx,p,q,h,h1,h2⟩=>⟨dx,p,q,e _ _ h,h1.ext e,h2.ext e⟩
 | _,.hold k x,⟨dx,p,h,h1⟩=>⟨dx,p,e _ _ h,h1.ext e⟩
def Rl.wd:Rl->Bool
 | .nothing=>true
 | .bead c=>wdB c
 | .named c=>wdB c
 | .or x y=>x.wd&&y.wd
 | .by_ x y=>x.wd&&y.wd
 | .hold _ x=>x.wd
def Rl.size:Rl->Nat
 | .nothing=>1
 | .bead _=>1
 | .named _=>1
 | .or x y=>x.size+y.size+1
 | .by_ x y=>x.size+y.size+1
 | .hold _ x=>x.size+1
def Rl.sz_pos(r:Rl):1<=r.size:=by cases r<;>simp[Rl.size]
def Rl.ci:Rl->Nat
 | .nothing=>0
 | .bead _=>1
 | .named _=>2
 | .or _ _=>3
 | .by_ _ _=>4
 | .hold k _=>5+min k 3
def Rl.ci_lt(r:Rl):r.ci<9:=by cases r<;>simp only[Rl.ci]<;>lia
def RlO.cls(h:RlO cs A a r)(hm:m∉(["colour","name","one","other","part"]:List Str)):∃dx fs,A a=some (.ins (cs r.ci) dx fs)/\fs.lookup m=none:=by
 simp only[Yn,YM,Yan,not_or]at hm;obtain⟨h1,h2,h3,h4,h5⟩:=hm;cases r with
 | nothing=>obtain⟨dx,h⟩:=h;exact⟨dx,_,h,rfl⟩
 | bead c=>obtain⟨dx,h⟩:=h;exact⟨dx,_,h,by simp[List.lookup,Yv.mpr h1]⟩
 | named c=>obtain⟨dx,h⟩:=h;exact⟨dx,_,h,by simp[List.lookup,Yv.mpr h2]⟩
 | or x y=>obtain⟨dx,p,q,h,_⟩:=h;exact⟨dx,_,h,by simp[List.lookup,Yv.mpr h3,Yv.mpr h4]⟩
 | by_ x y=>obtain⟨dx,p,q,h,_⟩:=h;exact⟨dx,_,h,by simp[List.lookup,Yv.mpr h3,Yv.mpr h4]⟩
 | hold k x=>obtain⟨dx,p,h,_⟩:=h;exact⟨dx,_,h,by simp[List.lookup,Yv.mpr h5]⟩
def csL(l:List Addr)(i:Nat):Addr:=l.getD i 0
structure Zcj (K:YFr) (l:List Addr) (rt:Addr):Prop where
 sp:PySem.W.specialIn K (.builtin "object.__class__") "__get__"=some (some (.builtin "getset_descriptor.__get__"))
 tk:PySem.W.takesIn K (.builtin "object.__class__")=some true
 fi:l.map (fun c=>PySem.W.findIn K (.ref c) "__class__")=l.map fun _=>some (some (.builtin "object.__class__"))
 mr:l.map (fun c=>mroIn K c (.type "object"))=l.map fun _=>some true
 ki:l.map (fun c=>l.map fun d=>PySem.W.kitOne K (.ref c) (.ref d))=(List.range l.length).map fun i=>(List.range l.length).map fun j=>some (i==j)
 kr:l.map (fun c=>PySem.W.kitOne K (.ref c) (.ref rt))=l.map fun _=>some true
def ZgU{α β:Type}{f g:α->β}{l:List α}(h:l.map f=l.map g){x:α}(hx:x∈l):f x=g x:=List.map_inj_left.mp h x hx
def ZbT(h:i<l.length):csL l i∈l:=by
 unfold csL;rw[YX,Yg h];exact YaX h
variable{K:YFr}{l:List Addr}{rt:Addr}
def Zcj.kit(h:Zcj K l rt)(hi:i<l.length)(hj:j<l.length):PySem.W.kitOne K (.ref (csL l i)) (.ref (csL l j))=some (i==j):=by
 have e:=congrArg (fun z=>(z.getD i []).getD j none) h.ki;simpa[csL,YX,hi,hj]using e
def Zcj.isC(h:Zcj K l rt)(hL:∀c∈l,Cls K c)(hi:i<9)(hj:j<9)(hn:l.length=9:=by rfl):IsC K (csL l i) (csL l j) (i==j):=by
 rw[<- hn]at hi hj;exact⟨hL _ (ZbT hi),ZgU h.fi (ZbT hi),h.sp,h.tk,ZgU h.mr (ZbT hi),h.kit hi hj⟩
def Rl.ci3{r:Rl}(h:r.ci=3):∃x y,r=.or x y:=by cases r<;>simp only[Rl.ci]at h<;>first|exact⟨_,_,rfl⟩|lia
def Rl.ci4{r:Rl}(h:r.ci=4):∃x y,r=.by_ x y:=by cases r<;>simp only[Rl.ci]at h<;>first|exact⟨_,_,rfl⟩|lia
def Rl.ci1{r:Rl}(h:r.ci=1):∃c,r=.bead c:=by cases r<;>simp only[Rl.ci]at h<;>first|exact⟨_,rfl⟩|lia
def Rl.ci2{r:Rl}(h:r.ci=2):∃c,r=.named c:=by cases r<;>simp only[Rl.ci]at h<;>first|exact⟨_,rfl⟩|lia
def Rl.ci5{r:Rl}(hj:j<=3)(h:r.ci=5+j):∃k x,r=.hold k x/\min k 3=j:=by cases r<;>simp only[Rl.ci]at h<;>first|exact⟨_,_,rfl,by lia⟩|lia
def Ziq(k:Nat):ZaA (min k 3)=ZaA k:=by
 match k with
 | 0=>rfl
 | 1=>rfl
 | 2=>rfl
 | k+3=>rw[Nat.min_eq_right (by lia)];rfl
def Rl.dep_pos(r:Rl):1<=r.dep:=by cases r<;>simp only[Rl.dep]<;>lia
inductive Kd where
 | whole|side (b:Bool)|pair|many (k:Nat)
def Kd.name:Kd->Str
 | .whole=>"whole"
 | .side b=>Znv b
 | .pair=>"pair"
 | .many k=>ZaA k
def Kd.made:Kd->List Wr->Wr
 | .whole,[x]=>x
 | .side b,[x]=>.side b x
 | .pair,[x,y]=>.pair x y
 | .many k,ps=>.many k ps
 | _,_=>.nothing
structure Fr where
 kd:Kd
 dn:List Wr
 td:List Wr
def ZvK(x:Wr):List Fr->Wr
 | []=>x
 | f::fs=>ZvK (f.kd.made (f.dn++x::f.td)) fs
def fin:List Fr->Wr
 | []=>.nothing
 | f::fs=>ZvK (f.kd.made (f.dn++f.td)) fs
variable{C dx p wa:Addr}{B:AHp}{ts:List Str}{n:Nat}
def Zgc(h:∀us A Q,asp' us A Q->asp us A Q):∀vs H Q E,Zar K asp' vs H Q E->Zar K asp vs H Q E:=fun vs H Q E ⟨us,A,Q',r,g,a,k⟩=>⟨us,A,Q',r,g,h _ _ _ a,k⟩
def ZlO(k:Nat):inU (.str (ZaA k)) [.str "row",.str "bag",.str "choice",.str "ring"]=true:=by
 match k with
 | 0=>decide +kernel
 | 1=>decide +kernel
 | 2=>decide +kernel
 | k+3=>exact(by decide +kernel:inU (.str (ZaA 3)) [.str "row",.str "bag",.str "choice",.str "ring"]=true)
open PySem
open PySem PySem.W
def ZsJ{α:Type}{P:List α->Prop}(h:P []):∀us:List α,us.length=0->P us:=fun us e=>by
 cases us with
 | nil=>exact h
 | cons a us=>simp at e
def Zub{α:Type}{P:List α->Prop}(h:∀a,P [a]):∀us:List α,us.length=1->P us:=fun us e=>by
 cases us with
 | nil=>simp at e
 | cons a us=>exact ZsJ (P:=fun us=>P (a::us)) (h a) us (by simpa using e)
def ZsS{α:Type}{P:List α->Prop}(h:∀a b,P [a,b]):∀us:List α,us.length=2->P us:=fun us e=>by
 cases us with
 | nil=>simp at e
 | cons a us=>exact Zub (P:=fun us=>P (a::us)) (h a) us (by simpa using e)
def Zt3{α:Type}{P:List α->Prop}(h:∀a b c,P [a,b,c]):∀us:List α,us.length=3->P us:=fun us e=>by
 cases us with
 | nil=>simp at e
 | cons a us=>exact ZsS (P:=fun us=>P (a::us)) (h a) us (by simpa using e)
def ZsV{α:Type}{P:List α->Prop}(h:∀a b c d,P [a,b,c,d]):∀us:List α,us.length=4->P us:=fun us e=>by
 cases us with
 | nil=>simp at e
 | cons a us=>exact Zt3 (P:=fun us=>P (a::us)) (h a) us (by simpa using e)
def Zlm(k:Nat)(hz:z∈(["nothing","bead","name","or","by"]:List Str)):ZaA k≠z:=by
 have key:∀t∈(["row","bag","choice","ring"]:List Str),∀z∈(["nothing","bead","name","or","by"]:List Str),t≠z:=by decide +kernel
 refine key _ ?_ _ hz;match k with
 | 0=>decide +kernel
 | 1=>decide +kernel
 | 2=>decide +kernel
 | k+3=>exact(by decide +kernel:ZaA 3∈(["row","bag","choice","ring"]:List Str))
def Zd8(cs:Nat->Addr)(n:Nat):ASp:=fun us A Q=>∃r:Rl,us=[r.toU]/\r.dep<=n/\∀B b,Ext A B->RlO cs B b r->Q (.ref b) B
def ZtP:∀us A Q,¬Zd8 cs 0 us A Q:=fun us A Q hq0=>by obtain⟨r,_,h,_⟩:=hq0;have:=r.dep_pos;lia
def ZsW{j:Nat}(hj:j<=3):atI [U.str "row",U.str "bag",U.str "choice",U.str "ring"] (j:Int)=some (.str (ZaA j)):=by
 rcases j with _|_|_|_|j<;>first|rfl|lia
def Zrq{α:Type}{ws:List α}(h:1<ws.length):∃ws0 x y,ws=ws0++[x]++[y]:=by
 rcases Ya6 ws with rfl|⟨a,b,rfl⟩
 .exact absurd h (by simp)
 .rcases Ya6 a with rfl|⟨c,d,rfl⟩
  .exact absurd h (by simp)
  .exact⟨c,d,b,by simp⟩
def ZuM{α:Type}{ws:List α}(h:0<ws.length):∃ws0 x,ws=ws0++[x]:=by
 rcases Ya6 ws with rfl|⟨a,b,rfl⟩
 .exact absurd h (by simp)
 .exact⟨a,b,by simp⟩
def ZqL(h0:0<=k)(h3:k<4):∃j:Nat,atI [U.str "row",U.str "bag",U.str "choice",U.str "ring"] k=some (.str (ZaA j)):=by
 obtain⟨j,rfl⟩:∃j:Nat,k=j:=⟨k.toNat,by lia⟩;exact⟨j,ZsW (by lia)⟩
def KV.look(r:KV kvs vs)(k:Str):Zfs (kvs.lookup k) (valueAt vs k):=by
 unfold KV at r;induction r with
 | nil=>exact True.intro
 | @cons p q ps qs h t ih =>
  obtain⟨h1,h2⟩:=h;obtain⟨p1,p2⟩:=p;obtain⟨q1,q2⟩:=q;simp only at h1 h2;subst h1;unfold valueAt;rw[List.lookup_cons,List.find?_cons];by_cases e:p1=k
  .subst e;simp only[Ycm,decide_true];exact h2
  .have e':(k==p1)=false:=Yv.mpr fun z=>e z.symm;rw[e',Yw e];exact ih
def KV.put(r:KV kvs vs)(nd:(vs.map (·.1)).Nodup)(k:Str)(ry:Zau y u):KV (Zcf k y kvs) (stored vs k u):=by
 unfold KV at r;induction r with
 | nil=>exact .cons ⟨rfl,ry⟩ .nil
 | @cons p q ps qs h t ih =>
  obtain⟨p1,p2⟩:=p;obtain⟨q1,q2⟩:=q;obtain⟨h1,h2⟩:=h;simp only at h1 h2;subst h1;rw[Yq,Yae]at nd;have ih:=ih nd.2;unfold Zcf;by_cases e:p1=k
  .subst e;rw[if_pos rfl];have s:stored ((p1,q2)::qs) p1 u=(p1,u)::qs:=by
    unfold stored;rw[if_pos (by simp),Yq,if_pos rfl,map_store_of_not_mem qs p1 u nd.1]
   rw[s];exact .cons ⟨rfl,ry⟩ t
  .rw[if_neg e];have s:stored ((p1,q2)::qs) k u=(p1,q2)::stored qs k u:=by
    unfold stored;rw[List.any_cons,Yw e,Bool.false_or,Yq,if_neg e];split<;>rfl
   rw[s];exact .cons ⟨rfl,h2⟩ ih
theorem Zel(k:Str)(y:V):∀kvs:List (Str×V),(Zcf k y kvs).length<=kvs.length+1
 | []=>Yj _
 | (g, x)::r=>by
  unfold Zcf
  split
  .simp
  .have:=Zel k y r
   simp only[List.length_cons];lia
def DQp(P:Program)(w:World)(d:Addr)(ep:Nat)(kvs:List (Str×V))(h:Heap):Prop:=((d==sysModules)=false/\kvs.length<=sizeLine)/\∃vs,KV kvs vs/\h.DictAt (strKind P w) d vs ep
def DQ(P:Program)(w:World)(d:Addr)(ep:Nat)(kvs:List (Str×V)):HO:=.ext (DQp P w d ep kvs)
def DQp.ok(e:DQp P w d ep kvs h):ZaO P w H h d (DQ P w d ep kvs):=by
 obtain⟨h0,vs,r,o,es,h1,h2⟩:=e;refine⟨⟨h0,vs,r,o,es,h1,h2⟩,⟨o,h1⟩,fun g1 g2 q kp=>?_⟩;obtain⟨h0,vs,r,o,es,h1,h2⟩:=q;exact⟨h0,vs,r,o,es,kp o h1,h2⟩
def dS(P:Program)(w:World)(ep:Nat)(kus:List (Str×U)):AO:=.oth fun K H a=>∃kvs,H a=some (DQ P w a ep kvs)/\RFs K H kus kvs
section
def Ziy(h1:H a=some (DQ P w a ep kvs))(h2:RFs K H kus kvs):RO K H a (dS P w ep kus) :=
 ⟨⟨_,h1⟩,⟨kvs,h1,h2⟩,fun H1 H2 ⟨ys,q1,q2⟩ kp e=>⟨ys,by rw[e];exact q1,q2.same kp⟩⟩
def Zbn(g:HR K H A)(e:A a=some (dS P w ep kus)):∃kvs,H a=some (DQ P w a ep kvs)/\RFs K H kus kvs:=(g a _ e).2.1
end
def ZlY(P:Program)(w:World):TE:=fun _ H Q=>∀p,H p=none->Q (.ref p) (upd H p (DQ P w p 0 []))
def Zmr(P:Program)(w:World):AE:=fun _ A Q=>∀p,A p=none->Q (.ref p) (updA A p (dS P w 0 []))
def ZbE:AbE K (ZlY P w) (Zmr P w):=fun ρ A σ H Q' Q hs g h k p hp =>
 k _ _ _ _ (Zat.upd_new hp).kp (g.putO (Zat.upd_new hp).kp (Ziy Zv ⟨rfl,.nil⟩)) (.ref p) (h p (g.none hp))
section
def ZmD(h:Heap)(hb:sysModules<h.objs.size):DQp P w h.objs.size 0 [] (h.push { cls:=.type "dict",data:=.dict #[] }) :=
 ⟨⟨Yv.mpr (Ne.symm (Yo hb)),Y2 _⟩,[],.nil,_,#[],Yl _ rfl,⟨rfl,rfl,rfl⟩,rfl,by intro e he;simp at he,.nil,List.nodup_nil⟩
def ZbG:PE X (.Dict [] [] pos) (ZlY X.prog X.w):=fun pins s σ H Q I h =>
 wpAny_Dict_empty ⟨.ref s.heap.objs.size,_,I.laid (a:=s.heap.objs.size) (t':=s.toks) (fun _ _ q=>Ye _ q) (Yj _) (DQp.ok (ZmD s.heap (big I))),rfl,h _ (I.hok.fresh (Yj _))⟩
def ZaT(I:Inv X pins σ H s)(h:H d=some (DQ X.prog X.w d ep kvs)):
  (d==sysModules)=false/\kvs.length<=sizeLine/\∃vs,KV kvs vs/\s.heap.DictAt (strKind X.prog X.w) d vs ep :=
 let⟨⟨⟨h0,hz⟩,r⟩,_⟩:=I.hok d _ h
 ⟨h0,hz,r⟩
def ZoT(P:Program)(w:World):V->V->Hp->VK->Prop:=fun x y H Q=>∃z a ep kvs,x=.str z/\y=.ref a/\H a=some (DQ P w a ep kvs)/\Q (.bl (kvs.lookup z).isSome) H
def Zij(P:Program)(w:World):V->V->Hp->VK->Prop:=fun x y H Q=>∃z a ep kvs,x=.str z/\y=.ref a/\H a=some (DQ P w a ep kvs)/\Q (.bl (!(kvs.lookup z).isSome)) H
def ZmX(P:Program)(w:World):V->V->Hp->VK->Prop:=fun x y H Q=>∃z a ep kvs v,x=.ref a/\y=.str z/\H a=some (DQ P w a ep kvs)/\kvs.lookup z=some v/\Q v H
def ZjQ(r:Zfs o u):o.isSome=u.isSome:=by
 cases o<;>cases u<;>first|rfl|exact(show False from r).elim
def Zjs:OpR X (compareOp .In) (ZoT X.prog X.w):=by
 intro pins s σ H x y v u Q I rx ry h;obtain⟨z,a,ep,kvs,rfl,rfl,e,q⟩:=h;obtain⟨t,rfl⟩:=rx;cases ry;obtain⟨h0,hz,vs,r,dd⟩:=ZaT I e;refine wpAny_in_of (strKind_is X.prog X.w z t) h0 dd.dictOf.mapOf ⟨.bl _,H,I.tok _,?_,q⟩;rw[ZjQ (r.look z)];rfl
def ZdU:OpR X (compareOp .NotIn) (Zij X.prog X.w):=by
 intro pins s σ H x y v u Q I rx ry h;obtain⟨z,a,ep,kvs,rfl,rfl,e,q⟩:=h;obtain⟨t,rfl⟩:=rx;cases ry;obtain⟨h0,hz,vs,r,dd⟩:=ZaT I e;refine wpAny_notIn_of (strKind_is X.prog X.w z t) h0 dd.dictOf.mapOf ⟨.bl _,H,I.tok _,?_,q⟩;rw[ZjQ (r.look z)];rfl
def ZbN:IxR X (ZmX X.prog X.w):=by
 intro value slice pins s σ H x y v u Q I rx ry h hs;obtain⟨z,a,ep,kvs,v',rfl,rfl,e,el,q⟩:=h;obtain⟨t,rfl⟩:=ry;cases rx;obtain⟨h0,hz,vs,r,dd⟩:=ZaT I e;have:=r.look z;rw[el]at this;obtain⟨w',hw,rw'⟩:∃w',valueAt vs z=some w'/\Zau v' w':=by
  cases hv:valueAt vs z with
  | none=>rw[hv]at this;exact(show False from this).elim
  | some w'=>rw[hv]at this;exact⟨w',rfl,this⟩
 exact tail_any dd.dictOf.typeIs slot_dict_getitem.lookup (wpAny_getItem_of (strKind_is X.prog X.w z t) dd.dictOf.mapOf hw ⟨v',H,I.tok _,rw',q⟩) hs
def ZmB(P:Program)(w:World):V->V->V->Hp->(Hp->Prop)->Prop:=fun o i v H Q=>∃d z ep kvs,o=.ref d/\i=.str z/\H d=some (DQ P w d ep kvs)/\kvs.length<sizeLine/\∀ep',Q (upd H d (DQ P w d ep' (Zcf z v kvs)))
def ZdK:Zvo X (ZmB X.prog X.w):=by
 intro pins s σ H o i v ov iv u Q I ro ri rv h;obtain⟨d,z,ep,kvs,rfl,rfl,e,hl,q⟩:=h;cases ro;obtain⟨t,rfl⟩:=ri;obtain⟨h0,hz,vs,r,dd⟩:=ZaT I e;have hz':vs.length<=sizeLine:=by rw[<- Paired.length r];exact hz
 refine wpAny_setItem_pairs (hsz:=hz') (strKind_is X.prog X.w z t) dd.dictOf fun h' dd' hs=>?_;obtain⟨ep',dd'⟩:=dd'.dictAt;have e1:∃o,h'.get? d=some o:=let⟨o,_,e,_⟩:=dd';⟨o,e⟩;refine⟨_,I.write (x:=d) (e:=d) (by rw[e];trivial) (.inl rfl) (fun c u hc z=>(hs.2 c hc).trans z) e1 (DQp.ok ⟨⟨h0,by have:=Zel z v kvs;lia⟩,_,r.put dd.nodup z rv,dd'⟩),q ep'⟩
def ZmC(P:Program)(w:World):List V->Hp->VK->Prop:=fun vs H Q=>∃d ep kvs,vs=[.ref d]/\H d=some (DQ P w d ep kvs)/\Q (.int kvs.length) H
def ZfS:Zaj X (.builtin "len") (ZmC X.prog X.w):=by
 intro pins s σ H vs us Q I r h;obtain⟨d,ep,kvs,rfl,e,q⟩:=h;obtain⟨u,rfl,ru⟩:=r.one;cases ru;obtain⟨h0,hz,vs,r,dd⟩:=ZaT I e;have hl:=Paired.length r;refine call_len_dict h0 dd.dictOf (by rw[<- hl];rw[Y8]at hz;lia) ⟨.int _,H,I.tok _,⟨_,rfl⟩,?_⟩;rw[<- hl];exact q
end
section
def Zra(P:Program)(w:World):AR2:=fun x y A Q=>∃z a ep kus,x=.str z/\y=.ref a/\A a=some (dS P w ep kus)/\Q (.bl (kus.lookup z).isSome) A
def Zmk(P:Program)(w:World):AR2:=fun x y A Q=>∃z a ep kus,x=.str z/\y=.ref a/\A a=some (dS P w ep kus)/\Q (.bl (!(kus.lookup z).isSome)) A
def ZqE(P:Program)(w:World):AR2:=fun x y A Q=>∃z a ep kus u,x=.ref a/\y=.str z/\A a=some (dS P w ep kus)/\kus.lookup z=some u/\Q u A
def RFs.isSm(r:RFs K H kus kvs)(z:Str):(kvs.lookup z).isSome=(kus.lookup z).isSome:=by
 cases e:kus.lookup z with
 | none=>rw[r.miss e];rfl
 | some u=>obtain⟨v,h,_⟩:=r.look e;rw[h];rfl
def ZfW:AbR K (ZoT P w) (Zra P w):=fun x y u v A H Q' Q hu hw g h k=>by
 obtain⟨z,a,ep,kus,rfl,rfl,e,q⟩:=h
 cases hu;cases hw
 obtain⟨kvs,h1,r⟩:=Zbn g e
 exact⟨z,a,ep,kvs,rfl,rfl,h1,k _ _ _ _ (.refl H) g (.bl _) (by rw[r.isSm];exact q)⟩
def ZcQ:AbR K (Zij P w) (Zmk P w):=fun x y u v A H Q' Q hu hw g h k=>by
 obtain⟨z,a,ep,kus,rfl,rfl,e,q⟩:=h
 cases hu;cases hw
 obtain⟨kvs,h1,r⟩:=Zbn g e
 exact⟨z,a,ep,kvs,rfl,rfl,h1,k _ _ _ _ (.refl H) g (.bl _) (by rw[r.isSm];exact q)⟩
def ZaZ:AbR K (ZmX P w) (ZqE P w):=fun x y u v A H Q' Q hu hw g h k=>by
 obtain⟨z,a,ep,kus,u',rfl,rfl,e,el,q⟩:=h
 cases hu;cases hw
 obtain⟨kvs,h1,r⟩:=Zbn g e
 obtain⟨v',h2,r2⟩:=r.look el
 exact⟨z,a,ep,kvs,v',rfl,rfl,h1,h2,k _ _ _ _ (.refl H) g r2 q⟩
def ZmF(P:Program)(w:World)(o i:AE):AG:=fun u ρ A Q=>o ρ A fun x A1=>i ρ A1 fun y A2=>∃a z ep kus,x=.ref a/\y=.str z/\A2 a=some (dS P w ep kus)/\kus.length<sizeLine/\∀ep',Q ρ (updA A2 a (dS P w ep' (Zct z u kus)))
def ZbH(ho:AbE K to ao)(hi:AbE K ti ai):AbG K (Zvb to ti (ZmB P w)) (ZmF P w ao ai):=fun u v ρ A σ H Q' Q r hs g wh k =>
 ho ρ A σ H _ _ hs g wh fun x A1 v1 H1 k1 g1 r1 q1=>hi ρ A1 σ H1 _ _ (hs.same k1) g1 q1 fun y A2 v2 H2 k2 g2 r2 hq0=>by
  obtain⟨a,z,ep,kus,e1,e2,eA,hz,q⟩:=hq0
  subst e1 e2
  cases r1;cases r2
  obtain⟨kvs,h1,rr⟩:=Zbn g2 eA
  have rv:=r.same (k1.trans k2)
  refine⟨a,z,ep,kvs,rfl,rfl,h1,by rw[<- rr.len];exact hz,fun ep'=>?_⟩
  have kp:Kp K H2 (upd H2 a (DQ P w a ep' (Zcf z v kvs))):=Kp.ext h1
  exact k _ _ _ _ (k1.trans (k2.trans kp)) (g2.putO kp (Ziy Zv ((rr.put rv).same kp))) (hs.same (k1.trans (k2.trans kp))) (q ep')
def ZlZ(P:Program)(w:World):List U->AHp->AVK->Prop:=fun us A Q=>∃p ep kus,us=[.ref p]/\A p=some (dS P w ep kus)/\Q (.int kus.length) A
def Zej:AbL K (ZmC P w) (ZlZ P w):=fun vs us A H Q' Q r g h k=>by
 obtain⟨p,ep,kus,rfl,e,q⟩:=h
 obtain⟨v,rfl,r'⟩:=r.inv1
 cases r'
 obtain⟨kvs,h1,rr⟩:=Zbn g e
 exact⟨p,ep,kvs,rfl,h1,k _ _ _ _ (.refl H) g (.int _) (by rw[<- rr.len];exact q)⟩
def Zot:(Zmr P w ρ A Q)=(∀p,A p=none->Q (.ref p) (updA A p (dS P w 0 []))):=rfl
def ZnP:(ZmF P w o i u ρ A N)=(o ρ A fun x A1=>i ρ A1 fun y A2=>∃a z ep kus,x=.ref a/\y=.str z/\A2 a=some (dS P w ep kus)/\kus.length<sizeLine/\∀ep',N ρ (updA A2 a (dS P w ep' (Zct z u kus)))):=rfl
def ZmZ:(ZlZ P w [.ref p] A Q)=(∃ep kus,A p=some (dS P w ep kus)/\Q (.int kus.length) A):=propext ⟨fun hq0=>by obtain⟨_,ep,kus,e,h⟩:=hq0;cases e;exact⟨ep,kus,h⟩,fun⟨ep,kus,h⟩=>⟨p,ep,kus,rfl,h⟩⟩
def Zrx:Zra P w (.str z) (.ref p) A Q=∃ep kus,A p=some (dS P w ep kus)/\Q (.bl (kus.lookup z).isSome) A:=propext ⟨fun hq0=>by obtain⟨_,_,ep,kus,e,e',h⟩:=hq0;cases e;cases e';exact⟨ep,kus,h⟩,fun⟨ep,kus,h⟩=>⟨_,_,ep,kus,rfl,rfl,h⟩⟩
def Zoe:Zmk P w (.str z) (.ref p) A Q=∃ep kus,A p=some (dS P w ep kus)/\Q (.bl (!(kus.lookup z).isSome)) A:=propext ⟨fun hq0=>by obtain⟨_,_,ep,kus,e,e',h⟩:=hq0;cases e;cases e';exact⟨ep,kus,h⟩,fun⟨ep,kus,h⟩=>⟨_,_,ep,kus,rfl,rfl,h⟩⟩
def Zsp:ZqE P w (.ref p) (.str z) A Q=∃ep kus u,A p=some (dS P w ep kus)/\kus.lookup z=some u/\Q u A:=propext ⟨fun hq0=>by obtain⟨_,_,ep,kus,u,e,e',h⟩:=hq0;cases e;cases e';exact⟨ep,kus,u,h⟩,fun⟨ep,kus,u,h⟩=>⟨_,_,ep,kus,u,rfl,rfl,h⟩⟩
end
def Zj5:∀ {es:List DictEntry} {vs us:List (Str×Value)},Pairs (strKind P w) es vs->Pairs (strKind P w) es us->vs=us:=by
 intro es vs us h;induction h generalizing us with
 | nil=>intro k;cases k;rfl
 | @cons e kv es vs h1 h2 h3 ih =>
  intro k;cases k with
  | @cons _ ku _ us k1 k2 k3 =>
   rw[ih k3];obtain⟨a,b⟩:=kv;obtain⟨c,d⟩:=ku;have e1:a=c:=(strKind P w).inj _ _ _ h1 k1;have e2:b=d:=h2.symm.trans k2;rw[e1,e2]
def ZqS:∀ {kvs kus:List (Str×V)},KV kvs vs->KV kus vs->kvs=kus:=by
 intro kvs kus h;unfold KV at h;induction h generalizing kus with
 | nil=>intro k;cases k;rfl
 | @cons p q ps qs h1 h2 ih =>
  intro k;cases k with
  | @cons p' _ ps' _ k1 k2 =>
   rw[ih k2];obtain⟨a,b⟩:=p;obtain⟨c,d⟩:=p';have e1:a=c:=h1.1.trans k1.1.symm;have e2:b=d:=h1.2.inj k1.2;rw[e1,e2]
section
def ZjY(I:Inv X pins σ H s)(h:H d=some (DQ X.prog X.w d ep kvs))(h':H d=some (DQ X.prog X.w d ep' kus)):kvs=kus:=by
 obtain⟨_,_,vs,r,o,es,e1,_,e2,_,p,_⟩:=ZaT I h;obtain⟨_,_,us,r',o',es',e1',_,e2',_,p',_⟩:=ZaT I h';rw[e1]at e1';cases e1';rw[e2]at e2';injection e2' with e3 _;subst e3;rw[Zj5 p p']at r;exact ZqS r r'
def Zgf(r:KV kvs vs){i:Nat}{p:Str×V}(h:kvs[i]? = some p):∃u,vs[i]? = some (p.1,u)/\Zau p.2 u:=by
 unfold KV at r;induction r generalizing i with
 | nil=>simp at h
 | @cons q q' ps qs h1 h2 ih =>
  cases i with
  | zero =>
   simp only[List.getElem?_cons_zero,Option.some.injEq]at h ⊢;subst h;obtain⟨a,b⟩:=q';obtain⟨e,r⟩:=h1;simp only at e r;subst e;exact⟨b,rfl,r⟩
  | succ i=>simpa using ih (by simpa using h)
def ZmR(P:Program)(w:World)(to:TE)(t:TA):TE:=fun σ H Q=>to σ H fun x H1=>∃a ep kvs,x=.ref a/\H1 a=some (DQ P w a ep kvs)/\t σ H1 fun vs H2=>∃z d ep' kvs',(vs=[.str z]/\d=.non\/vs=[.str z,d])/\H2 a=some (DQ P w a ep' kvs')/\Q ((kvs'.lookup z).getD d) H2
def ZjL(r:Zfs o u)(rd:Zau d d'):Zau (o.getD d) (u.getD d'):=by
 cases o<;>cases u<;>first|exact rd|exact(show False from r).elim|exact r
def Zex(ho:PE X o to)(ha:PA X (e::es) t)(h1:attributeBase o "get" X.env (eval o X.env)=eval o X.env:=by rfl)(h2:((backTo cpos (starEach (e::es) X.env)).all (fun x=>!x.1)&&(backToKw cpos (keywordEach [] X.env)).all (fun x=>x.1.isSome)&&decide ((e::es).length+([]:List Keyword).length+(if([]:List Keyword).isEmpty then 0 else 1)<30))=true:=by rfl)(h3:(apos.endLine==cpos.line)=true:=by rfl)(h4:starEach (e::es) X.env=(false,eval e X.env)::starEach es X.env:=by rfl)(h5:(backTo cpos (starEach es X.env)).any (·.1)=false:=by rfl):
  PE X (.Call (.Attribute o "get" apos) (e::es) [] cpos) (ZmR X.prog X.w to t):=by
 intro pins s σ H Q I h;refine wpAny_Call_method_late h1 h2 h3 rfl (thn (ho pins s σ H _ I h) fun v s1 h_q=>?_);obtain⟨x,H1,I1,r1,a,ep,kvs,ex,ha1,q1⟩:=h_q;subst ex;cases r1;obtain⟨_,_,vs1,_,dd⟩:=ZaT I1 ha1;refine⟨"dict","dict.get",F.plainAttrs_dict,F.slot_dict_get,F.type_dict_get,dd.dictOf.typeIs,dd.dictOf.mapOf.noDict,?_⟩;have hA:=ha cpos pins s1 σ H1 _ I1 q1;rw[h4]at hA ⊢;refine Yap (by show(false||(backTo cpos (starEach es X.env)).any (·.1))=false;rw[h5]<;>rfl) (Calls.evalArgs_plain (thn hA fun us s2 h_q=>?_));obtain⟨vs,H2,I2,r2,z,d,ep',kvs',ev,ha2,q2⟩:=h_q;obtain⟨h0,_,vs2,r,dd2⟩:=ZaT I2 ha2;rcases ev with⟨rfl,rfl⟩|rfl
 .obtain⟨u,rfl,ru⟩:=r2.one;obtain⟨tk,rfl⟩:=ru;exact call_meetsIn F.slot_dict_get dd2.dictOf.typeIs F.entry_dict_get (F.args_dict_get_2 _ _) (meets_dict_get (strKind X.prog X.w) a (strKind_is X.prog X.w z tk) h0) ⟨_,dd2.dictOf.mapOf,_,H2,I2.tok _,ZjL (d:=.non) (r.look z) rfl,q2⟩
 .obtain⟨u,u',rfl,ru,ru'⟩:=r2.two;obtain⟨tk,rfl⟩:=ru;exact call_meetsIn F.slot_dict_get dd2.dictOf.typeIs F.entry_dict_get (F.args_dict_get_3 _ _ _) (meets_dict_get_default (strKind X.prog X.w) a (strKind_is X.prog X.w z tk) h0 u') ⟨_,dd2.dictOf.mapOf,_,H2,I2.tok _,ZjL (r.look z) ru',q2⟩
end
def Zqx:entryFor table "dict_itemiterator.__iter__"=some Builtin.«dict_keyiterator.__iter__»:=entryFor_alias (id':="dict_keyiterator.__iter__") (by kernel_rfl) rfl (by decide +kernel) (by kernel_rfl)
def Zu0(P:Program)(w:World)(d:Addr)(ep n:Nat):It :=
 ⟨fun i H=>i<n/\∃kvs,H d=some (DQ P w d ep kvs)/\kvs.length=n,fun i H x H'=>H'=H/\∀kvs,H d=some (DQ P w d ep kvs)->∃p,kvs[i]? = some p/\x=.str p.1,fun i H=>n<=i/\∃kvs,H d=some (DQ P w d ep kvs)/\kvs.length=n⟩
def Zvi(P:Program)(w:World)(d:Addr)(ep n:Nat):It :=
 ⟨fun i H=>i<n/\∃kvs,H d=some (DQ P w d ep kvs)/\kvs.length=n,fun i H x H'=>H'=H/\∀kvs,H d=some (DQ P w d ep kvs)->∃p,kvs[i]? = some p/\x=p.2,fun i H=>n<=i/\∃kvs,H d=some (DQ P w d ep kvs)/\kvs.length=n⟩
def Zvd(P:Program)(w:World)(d:Addr)(ep n:Nat):It :=
 ⟨fun i H=>i<n/\∃kvs,H d=some (DQ P w d ep kvs)/\kvs.length=n,fun i H x H'=>∃T p,x=.ref T/\H T=none/\H'=upd H T (.tup [.str p.1,p.2])/\∀kvs,H d=some (DQ P w d ep kvs)->kvs[i]? = some p,fun i H=>n<=i/\∃kvs,H d=some (DQ P w d ep kvs)/\kvs.length=n⟩
section
def ZnE(d it:Addr)(ep n:Nat):Zkc P w K tg (Zu0 P w d ep n) [it] it (fun i h=>h.IsKeyIter it d i n ep):=by
 refine⟨by simp,fun i h st b hb=>?_,fun i h h' st k=>st.at fun o e=>k it (by simp) o e,?_,?_,fun _ _ _ _ _ st h=>wpAny_pyIter_keyiter st h⟩
 .obtain rfl:b=it:=by simpa using hb
  obtain⟨o,e1,_,d⟩:=st;exact⟨o,e1,fun v z=>by rw[d]at z;cases z⟩
 .intro X e1 e2 e3 hc i pins s σ H E I hf st ⟨hi,kvs,hq,hn⟩;subst e1 e2 e3;obtain⟨h0,hz,vs,r,dd⟩:=ZaT I hq;have hl:vs.length=n:=by rw[<- Paired.length r];exact hn
  subst hn;obtain⟨p,hp⟩:∃p,kvs[i]? = some p:=⟨_,Yg hi⟩;obtain⟨u,hu,ru⟩:=Zgf r hp;obtain⟨f0,f1,_,f3,f4,f5⟩:=hf it (by simp);rw[<- hl]at st ⊢;refine wpAny_pyNext_dict_item st dd hu fun key h' hk st' sb=>?_;obtain⟨tk,rfl⟩:=Value.isStrOf_shape hk;have J1:Inv X pins σ H { s with heap:=h' }:=I.turned (t':=s.toks) (fun b o hb z=>(sb.2 b hb).trans z) f0 f1 f3 f4 f5;obtain⟨o,z1,z2,z3⟩:=id st';refine⟨_,rfl,Zhu (s:={ s with heap:=h' }) z1 z2 z3 (by decide) ⟨.str p.1,H,J1,⟨_,rfl⟩,⟨rfl,fun ys hy=>?_⟩,st',fun b hb=>(hf b hb).1⟩⟩;rw[ZjY I hy hq];exact⟨p,hp,rfl⟩
 .intro X e1 e2 e3 hc i pins s σ H E I hf st ⟨hi,kvs,hq,hn⟩;subst e1 e2 e3;obtain⟨h0,hz,vs,r,dd⟩:=ZaT I hq;have hl:vs.length=n:=by rw[<- Paired.length r];exact hn
  obtain⟨f0,f1,_,f3,f4,f5⟩:=hf it (by simp);rw[<- hl]at st;exact wpAny_pyNext_dict_end (I.ok.hd hc) st dd (YH.mpr (by rw[hl];exact hi)) fun h' eb=>⟨rfl,I.turned (t':=s.toks) (fun b o hb z=>eb b o hb z) f0 f1 f3 f4 f5⟩
def ZnX(d it:Addr)(ep n:Nat):Zkc P w K tg (Zvi P w d ep n) [it] it (fun i h=>h.IsValIter it d i n ep):=by
 refine⟨by simp,fun i h st b hb=>?_,fun i h h' st k=>st.at fun o e=>k it (by simp) o e,?_,?_,fun _ _ _ _ _ st h=>wpAny_pyIter_valiter st h⟩
 .obtain rfl:b=it:=by simpa using hb
  obtain⟨o,e1,_,d⟩:=st;exact⟨o,e1,fun v z=>by rw[d]at z;cases z⟩
 .intro X e1 e2 e3 hc i pins s σ H E I hf st ⟨hi,kvs,hq,hn⟩;subst e1 e2 e3;obtain⟨h0,hz,vs,r,dd⟩:=ZaT I hq;have hl:vs.length=n:=by rw[<- Paired.length r];exact hn
  subst hn;obtain⟨p,hp⟩:∃p,kvs[i]? = some p:=⟨_,Yg hi⟩;obtain⟨u,hu,ru⟩:=Zgf r hp;obtain⟨f0,f1,_,f3,f4,f5⟩:=hf it (by simp);rw[<- hl]at st ⊢;refine wpAny_pyNext_values_item st dd hu fun h' st' sb=>?_;have J1:Inv X pins σ H { s with heap:=h' }:=I.turned (t':=s.toks) (fun b o hb z=>(sb.2 b hb).trans z) f0 f1 f3 f4 f5;obtain⟨o,z1,z2,z3⟩:=id st';refine⟨_,rfl,Zhu (s:={ s with heap:=h' }) z1 z2 z3 (by decide) ⟨p.2,H,J1,ru,⟨rfl,fun ys hy=>?_⟩,st',fun b hb=>(hf b hb).1⟩⟩;rw[ZjY I hy hq];exact⟨p,hp,rfl⟩
 .intro X e1 e2 e3 hc i pins s σ H E I hf st ⟨hi,kvs,hq,hn⟩;subst e1 e2 e3;obtain⟨h0,hz,vs,r,dd⟩:=ZaT I hq;have hl:vs.length=n:=by rw[<- Paired.length r];exact hn
  obtain⟨f0,f1,_,f3,f4,f5⟩:=hf it (by simp);rw[<- hl]at st;exact wpAny_pyNext_values_end (I.ok.hd hc) st dd (YH.mpr (by rw[hl];exact hi)) fun h' eb=>⟨rfl,I.turned (t':=s.toks) (fun b o hb z=>eb b o hb z) f0 f1 f3 f4 f5⟩
def Zm6(d it:Addr)(ep n:Nat):Zkc P w K (.Tuple elts k0 pos) (Zvd P w d ep n) [it] it (fun i h=>∃ok ov,IsItemIter h it d i n ep ok ov):=by
 refine⟨by simp,fun i h ⟨ok,ov,st⟩ b hb=>?_,fun i h h' ⟨ok,ov,st⟩ k=>⟨ok,ov,k it (by simp) _ st⟩,?_,?_,fun _ _ _ _ _ ⟨ok,ov,st⟩ h=>?_⟩
 .obtain rfl:b=it:=by simpa using hb
  exact⟨_,st,fun v z=>nomatch z⟩
 .rintro X e1 e2 e3 hc i pins s σ H E I hf ⟨ok,ov,st⟩ ⟨hi,kvs,hq,hn⟩;subst e1 e2 e3;obtain⟨h0,hz,vs,r,dd⟩:=ZaT I hq;have hl:vs.length=n:=by rw[<- Paired.length r];exact hn
  subst hn;obtain⟨p,hp⟩:∃p,kvs[i]? = some p:=⟨_,Yg hi⟩;obtain⟨u,hu,ru⟩:=Zgf r hp;rw[<- hl]at st ⊢;refine wpAny_pyNext_items_item st dd hu fun key h' hk a1 a2 a3 hkp=>?_;obtain⟨tk,rfl⟩:=Value.isStrOf_shape hk;refine⟨_,rfl,wpAny_letOwnedTupleGo_items a1 fun h'' he' sb=>?_⟩;have nz:s.heap.objs.size≠it:=Yay (Ym st);have hT':IsTup h'' s.heap.objs.size [Value.str p.1 tk,u].toArray:=⟨_,sb.extBut _ _ nz a2,rfl,_,rfl⟩;have I':Inv X pins σ (upd H s.heap.objs.size (.tup [.str p.1,p.2])) { s with heap:=h'' }:=I.turnedL (t':=s.toks) (ch:=[it]) hf (fun b o hb q=>by
   have hb:b≠it:=by simpa using hb
   exact sb.extBut _ _ hb (hkp b o hb q)) (Yj _) ⟨by show 2<=sizeLine;decide,[Value.str p.1 tk,u],.cons ⟨_,rfl⟩ (.cons ru .nil),hT'⟩
  have hn:H s.heap.objs.size=none:=I.hok.fresh (Yj _);refine⟨.ref s.heap.objs.size,_,I',rfl,⟨_,p,rfl,hn,rfl,fun zs hzs=>by rw[ZjY I hzs hq];exact hp⟩,⟨_,_,he'⟩,fun b hb=>?_⟩;have hfb:=(hf b hb).1;have:b≠s.heap.objs.size:=by
   obtain rfl:b=it:=by simpa using hb
   exact Ne.symm nz
  rw[Zr this];exact hfb
 .rintro X e1 e2 e3 hc i pins s σ H E I hf ⟨ok,ov,st⟩ ⟨hi,kvs,hq,hn⟩;subst e1 e2 e3;obtain⟨h0,hz,vs,r,dd⟩:=ZaT I hq;have hl:vs.length=n:=by rw[<- Paired.length r];exact hn
  rw[<- hl]at st;exact wpAny_pyNext_items_end (I.ok.hd hc) st dd (YH.mpr (by rw[hl];exact hi)) fun h' eb=>⟨rfl,I.turnedM (t':=s.toks) (ch:=[it]) hf (fun b o hb q=>eb b o (by simpa using hb) q)⟩
 .refine wpAny_pyIter_slot (T:="dict_itemiterator") ⟨_,st,rfl⟩ F.slot_dict_itemiterator_iter (YY F.slot_dict_itemiterator_iter ⟨_,st,rfl⟩ Zqx ?_ (F.args_dict_itemiterator_iter_1 _));show wpAny _ _ (ret (.ref it)) _ _ _;exact Yd ⟨_,rfl,"dict_itemiterator",_,⟨_,st,rfl⟩,F.slot_dict_itemiterator_next.lookup,h⟩
end
def uDk(P:Program)(w:World):V->Hp->(It->Hp->Prop)->Prop:=fun v H R=>∃d ep kvs,v=.ref d/\H d=some (DQ P w d ep kvs)/\R (Zu0 P w d ep kvs.length) H
def uDv(P:Program)(w:World):V->Hp->(It->Hp->Prop)->Prop:=fun v H R=>∃d ep kvs,v=.ref d/\H d=some (DQ P w d ep kvs)/\R (Zvi P w d ep kvs.length) H
def uDi(P:Program)(w:World):V->Hp->(It->Hp->Prop)->Prop:=fun v H R=>∃d ep kvs,v=.ref d/\H d=some (DQ P w d ep kvs)/\R (Zvd P w d ep kvs.length) H
section
def ZnR(hl:PE X a te):PI X tg a (jOf (uDk X.prog X.w) te):=by
 intro pins s σ H R I h;refine thn (hl pins s σ H _ I h) fun v s1 h_q=>?_;obtain⟨x,H1,I1,r1,q1⟩:=h_q;obtain⟨d,ep,kvs,rfl,hq,q⟩:=q1;cases r1;obtain⟨h0,hz,vs,r,dd⟩:=ZaT I1 hq;have hl:kvs.length=vs.length:=Paired.length r;refine wpAny_pyIter_dict h0 dd ?_;refine⟨s1.heap.objs.size,[s1.heap.objs.size],_,_,H1,rfl,I1.kept (t':=s1.toks) fun b o e=>Ye _ e,ZnE d _ ep kvs.length,⟨_,Yl _ rfl,rfl,by rw[hl];rfl⟩,fun b hb=>?_,q⟩;obtain rfl:b=s1.heap.objs.size:=by simpa using hb
 exact I1.fpOk (Yj _) I1.fresh
def Zdp{h:Heap}(dd:h.DictAt (strKind P w) d vs ep):(h.push ob).DictAt (strKind P w) d vs ep:=dd.push ob
def ZrJ(ho:PE X o te)(hbase:attributeBase o "values" X.env (eval o X.env)=eval o X.env:=by rfl)(hline:(apos.endLine==cpos.line)=true:=by rfl):PI X tg (.Call (.Attribute o "values" apos) [] [] cpos) (jOf (uDv X.prog X.w) te):=by
 intro pins s σ H R I h;refine wpAny_Call_method0_late hbase hline (thn (ho pins s σ H _ I h) fun v s1 h_q=>?_);obtain⟨x,H1,I1,r1,q1⟩:=h_q;obtain⟨d,ep,kvs,rfl,hq,q⟩:=q1;cases r1;obtain⟨h0,hz,vs,r,dd⟩:=ZaT I1 hq;have hl:kvs.length=vs.length:=Paired.length r;refine⟨"dict","dict.values",F.plainAttrs_dict,F.slot_dict_values,F.type_dict_values,dd.dictOf.typeIs,dd.dictOf.mapOf.noDict,Yap rfl (PySem.evalArgs_none (call_meetsIn F.slot_dict_values dd.dictOf.typeIs F.entry_dict_values (F.args_dict_values_1 _) (meets_dict_values (strKind X.prog X.w) d h0) ⟨⟨vs,dd.dictOf⟩,?_⟩))⟩;refine wpAny_pyIter_values (s:={ s1 with heap:=s1.heap.push _ }) (v:=s1.heap.objs.size) ⟨_,Yl _ rfl,rfl,rfl⟩ (Zdp dd) ?_;have hsz:(s1.heap.push { cls:=.type "dict_values",data:=.fields #[.ref d] }).objs.size=s1.heap.objs.size+1:=by simp[Heap.push]
 refine⟨_,[_],_,_,H1,rfl,I1.kept (t':=s1.toks) fun b o e=>Ye _ (Ye _ e),ZnX d _ ep kvs.length,⟨_,Yl _ rfl,rfl,by rw[hl];rfl⟩,fun b hb=>?_,q⟩;obtain rfl:=Yp.mp hb;have hle:s1.heap.objs.size<=(s1.heap.push { cls:=.type "dict_values",data:=.fields #[.ref d] }).objs.size:=by rw[hsz];exact Yaf _
 exact I1.fpOk hle (I1.hok.fresh hle)
def Zhn(ho:PE X o te)(hbase:attributeBase o "items" X.env (eval o X.env)=eval o X.env:=by rfl)(hline:(apos.endLine==cpos.line)=true:=by rfl):PI X (.Tuple elts k0 tp) (.Call (.Attribute o "items" apos) [] [] cpos) (jOf (uDi X.prog X.w) te):=by
 intro pins s σ H R I h;refine wpAny_Call_method0_late hbase hline (thn (ho pins s σ H _ I h) fun v s1 h_q=>?_);obtain⟨x,H1,I1,r1,q1⟩:=h_q;obtain⟨d,ep,kvs,rfl,hq,q⟩:=q1;cases r1;obtain⟨h0,hz,vs,r,dd⟩:=ZaT I1 hq;have hl:kvs.length=vs.length:=Paired.length r;refine⟨"dict","dict.items",F.plainAttrs_dict,F.slot_dict_items,F.type_dict_items,dd.dictOf.typeIs,dd.dictOf.mapOf.noDict,Yap rfl (PySem.evalArgs_none (call_meetsIn F.slot_dict_items dd.dictOf.typeIs F.entry_dict_items (F.args_dict_items_1 _) (meets_dict_items (strKind X.prog X.w) d h0) ⟨⟨vs,dd.dictOf⟩,?_⟩))⟩;refine wpAny_pyIter_items (s:={ s1 with heap:=s1.heap.push _ }) (v:=s1.heap.objs.size) ⟨_,Yl _ rfl,rfl,rfl⟩ (Zdp dd) ?_;have hsz:(s1.heap.push { cls:=.type "dict_items",data:=.fields #[.ref d] }).objs.size=s1.heap.objs.size+1:=by simp[Heap.push]
 refine⟨_,[_],_,_,H1,rfl,I1.kept (t':=s1.toks) fun b o e=>Ye _ (Ye _ e),Zm6 d _ ep kvs.length,⟨.none,.none,by rw[hl];exact Yl _ rfl⟩,fun b hb=>?_,q⟩;obtain rfl:=Yp.mp hb;have hle:s1.heap.objs.size<=(s1.heap.push { cls:=.type "dict_items",data:=.fields #[.ref d] }).objs.size:=by rw[hsz];exact Yaf _
 exact I1.fpOk hle (I1.hok.fresh hle)
end
def fK(p:Str×U):U:=.str p.1
def fI(p:Str×U):U:=.tup [.str p.1,p.2]
def jDs(P:Program)(w:World)(f:Str×U->U)(a:Addr)(ep n:Nat):AIt:=fun i A r=>∃kus,A a=some (dS P w ep kus)/\kus.length=n/\r=(kus.map f)[i]?
def yDs(P:Program)(w:World)(f:Str×U->U):U->AHp->(AIt->AHp->Prop)->Prop:=fun u A R=>∃a ep kus,u=.ref a/\A a=some (dS P w ep kus)/\R (jDs P w f a ep kus.length) A
section
def RFs.get(r:RFs K H kus kvs){i:Nat}{p:Str×U}(h:kus[i]? = some p):∃v,kvs[i]? = some (p.1,v)/\RU K H p.2 v:=by
 obtain⟨e,r⟩:=r;have h1:(kus.map (·.1))[i]? = some p.1:=by rw[Yi,h];rfl
 have h2:(kus.map (·.2))[i]? = some p.2:=by rw[Yi,h];rfl
 rw[e,Yi]at h1;obtain⟨q,hq,e1⟩:=YK.mp h1;obtain⟨v,hv,rv⟩:=r.get' h2;rw[Yi,hq]at hv;have e2:q.2=v:=YE hv;exact⟨v,by rw[hq,<- e1,<- e2],rv⟩
def Zi9:Zok K (uDk P w) (yDs P w fK):=fun x v A H R' R r g wh k=>by
 obtain⟨a,ep,kus,rfl,e,wh⟩:=wh
 cases r
 obtain⟨kvs,h1,rr⟩:=Zbn g e
 refine⟨a,ep,kvs,rfl,h1,k _ _ _ _ (.refl H) g (fun i A2 H2 r k2 g2 ⟨kus2,e2,hn,hr⟩=>?_) wh⟩
 obtain⟨kvs2,h2,rr2⟩:=Zbn g2 e2
 have hn2:kvs2.length=kvs.length:=by rw[<- rr2.len,<- rr.len];exact hn
 subst hr
 cases hp:kus2[i]? with
 | none =>
  rw[Yi,hp]
  exact⟨by rw[<- rr.len,<- hn];exact YH.mp hp,kvs2,h2,hn2⟩
 | some p =>
  rw[Yi,hp]
  obtain⟨v,hv,rv⟩:=rr2.get hp
  have hi:=(Yh.mp hp).1
  refine⟨⟨by rw[<- rr.len,<- hn];exact hi,kvs2,h2,hn2⟩,?_⟩
  rintro x H' ⟨rfl,hx⟩
  obtain⟨q,hq,rfl⟩:=hx kvs2 h2
  rw[hv]at hq
  cases hq
  exact⟨.refl _,g2,.str _⟩
def ZlV:Zok K (uDv P w) (yDs P w (·.2)):=fun x v A H R' R r g wh k=>by
 obtain⟨a,ep,kus,rfl,e,wh⟩:=wh
 cases r
 obtain⟨kvs,h1,rr⟩:=Zbn g e
 refine⟨a,ep,kvs,rfl,h1,k _ _ _ _ (.refl H) g (fun i A2 H2 r k2 g2 ⟨kus2,e2,hn,hr⟩=>?_) wh⟩
 obtain⟨kvs2,h2,rr2⟩:=Zbn g2 e2
 have hn2:kvs2.length=kvs.length:=by rw[<- rr2.len,<- rr.len];exact hn
 subst hr
 cases hp:kus2[i]? with
 | none =>
  rw[Yi,hp]
  exact⟨by rw[<- rr.len,<- hn];exact YH.mp hp,kvs2,h2,hn2⟩
 | some p =>
  rw[Yi,hp]
  obtain⟨v,hv,rv⟩:=rr2.get hp
  have hi:=(Yh.mp hp).1
  refine⟨⟨by rw[<- rr.len,<- hn];exact hi,kvs2,h2,hn2⟩,?_⟩
  rintro x H' ⟨rfl,hx⟩
  obtain⟨q,hq,rfl⟩:=hx kvs2 h2
  rw[hv]at hq
  cases hq
  exact⟨.refl _,g2,rv⟩
def Zdv:Zok K (uDi P w) (yDs P w fI):=fun x v A H R' R r g wh k=>by
 obtain⟨a,ep,kus,rfl,e,wh⟩:=wh
 cases r
 obtain⟨kvs,h1,rr⟩:=Zbn g e
 refine⟨a,ep,kvs,rfl,h1,k _ _ _ _ (.refl H) g (fun i A2 H2 r k2 g2 ⟨kus2,e2,hn,hr⟩=>?_) wh⟩
 obtain⟨kvs2,h2,rr2⟩:=Zbn g2 e2
 have hn2:kvs2.length=kvs.length:=by rw[<- rr2.len,<- rr.len];exact hn
 subst hr
 cases hp:kus2[i]? with
 | none =>
  rw[Yi,hp]
  exact⟨by rw[<- rr.len,<- hn];exact YH.mp hp,kvs2,h2,hn2⟩
 | some p =>
  rw[Yi,hp]
  obtain⟨v,hv,rv⟩:=rr2.get hp
  have hi:=(Yh.mp hp).1
  refine⟨⟨by rw[<- rr.len,<- hn];exact hi,kvs2,h2,hn2⟩,?_⟩
  rintro x H' ⟨T,q,rfl,hT,rfl,hx⟩
  have hq:=hx kvs2 h2
  rw[hv]at hq
  cases hq
  have s:=Zat.upd_new (o:=.tup [.str p.1,v]) hT
  exact⟨s.kp,g2.grow s,.tup (SqT.of Zv) (.cons (.str _) (.one (rv.same s.kp)))⟩
def ZuV:yDs P w f (.ref a) A R=∃ep kus,A a=some (dS P w ep kus)/\R (jDs P w f a ep kus.length) A:=propext ⟨fun hq0=>by obtain⟨_,ep,kus,e,h⟩:=hq0;cases e;exact⟨ep,kus,h⟩,fun⟨ep,kus,h⟩=>⟨a,ep,kus,rfl,h⟩⟩
def Zdc(kus:List (Str×U))(Pv:Nat->ASt->AHp->Prop)(h0:Pv 0 ρ A)(hl:∀k ρ A,k<=kus.length->Pv k ρ A->A a=some (dS P w ep kus))(hs:∀k p ρ A,kus[k]? = some p->Pv k ρ A->g (f p) ρ A fun ρ2 A2=>b { D with nx:=Pv (k+1),ct:=Pv (k+1),bk:=D.nx } ρ2 A2)(hd:∀ρ A,Pv kus.length ρ A->D.nx ρ A):ZfN (jDs P w f a ep kus.length) g b D ρ A :=
 Zla (kus.map f) Pv h0 (fun k ρ A hk p=>⟨kus,hl k ρ A (by simpa using hk) p,rfl,rfl⟩) (fun k u ρ A hu p=>by
  rw[Yi]at hu
  obtain⟨q,hq,rfl⟩:=YK.mp hu
  exact hs k q ρ A hq p) (by rw[Yc];exact hd)
end
section
def ZfP(hh:A.handled=none)(hd:(d==sysModules)=false)(hSd:S≠d)(dd:s.heap.DictAt (strKind prog w) d vs ep)(hn:vs.length<=sizeLine)(hS:s.heap.get? S=some { cls:=.type "list",data:=.seq #[] c })(hR:∀s' acc c',Moved [S,s.heap.objs.size] (fun a b=>b=a) s s'->s'.heap.get? S=some { cls:=.type "list",dict:=none,data:=.seq acc c',slots:=#[] }->ItemsOf (fun i v=>∃k x,vs[i]? = some (k,x)/\(strKind prog w).is k v=true) acc vs.length->R (.ok (.ret .none)) s'):
  wpAny (model prog w) A.in1 (Builtin.List.listExtendWith (.ref S) (.ref d) .none)
   (fun fin s'=>match fin with|.done f=>R (.ok f) s'|.again c'=>c'.quiet=true/\codeAny (model prog w) A c' R s') (fun e s'=>R (.error e) s') s:=by
 have lS:S<s.heap.objs.size:=Ym hS;have ld:d<s.heap.objs.size:=dd.lt_size;have W:=(Walks.dictKeys (prog:=prog) (w:=w) (A:=A.in1) (knd:=strKind prog w) hh s.heap.objs.size d (Yo ld) vs ep).toS;have nf:S∉[s.heap.objs.size,d]:=fun z=>by
  simp only[Yn,YM,Yan]at z;exact z.elim (Yo lS) hSd
 have apart:Builtin.List.listSameRef (.ref S) (.ref d)=false:=by simp[Builtin.List.listSameRef,hSd]
 have ty:s.TypeIs (.ref d) "dict":=dd.dictOf.typeIs;unfold Builtin.List.listExtendWith;refine Yb (Ya3 ty ?_);rw[if_neg (by rw[apart];decide)];refine Yb (wpAny_pyIter_dict hd dd (Yb (YT ?_)));unfold Builtin.List.listLengthHint;have ty1:Shared.TypeIs { s with heap:=s.heap.push { cls:=.type "dict_keyiterator",data:=.fields #[.ref d,.int 0 0,.int vs.length 0,.int ep 0] } } (.ref d) "dict":=(Zdp dd).dictOf.typeIs;refine Yb (wpAny_specialOf ty1 F.slot_dict_len.lookup ?_);generalize hid:("dict.__len__":String)=id0;(fail_if_success (clear hid id0));wp_delta;rw[show splitId id0=some ("dict","__len__")from by subst hid;decide +kernel];subst hid;refine Yb (YaY (b:=true) ty1 (by rw[isSubtype_type];kernel_rfl) ?_);rw[if_neg (by decide)];refine(show wpAny _ _ (if _=true then _ else _) _ _ _ from ?_);rw[if_pos (by decide +kernel)];refine Yb (Ya3 ty1 (Yd (show wpAny _ _ (if _=true then _ else _) _ _ _ from ?_)));rw[if_pos (by decide +kernel)];refine Yb (Ya7 ?_);unfold Builtin.List.listTouch;have hS1:=Ye { cls:=.type "dict_keyiterator",data:=.fields #[.ref d,.int 0 0,.int vs.length 0,.int ep 0] } hS;have hS2:=YD (Obj.mapSeq (fun x:Array Value=>x.push .none)) hS1 rfl;have hS3:=YD (Obj.mapSeq (fun x:Array Value=>x.pop)) hS2 rfl;refine Yb (Yb (show wpAny _ _ (updateSeq S (fun x=>x.push .none)) _ _ _ from Yaw hS1 rfl (show wpAny _ _ (updateSeq S (fun x=>x.pop)) _ _ _ from Yaw hS2 rfl ?_)));generalize hob:({ cls:=.type "dict_keyiterator",data:=.fields #[.ref d,.int 0 0,.int vs.length 0,.int ep 0] }:Obj)=ob at *;have kp:∀b o,b≠S->(s.heap.push ob).get? b=some o->(((s.heap.push ob).update S (Obj.mapSeq fun x=>x.push .none)).update S (Obj.mapSeq fun x=>x.pop)).get? b=some o:=fun b o hb e =>
  (YF _ _ (Ne.symm hb)).trans ((YF _ _ (Ne.symm hb)).trans e)
 have st0:Heap.IsKeyIter (((s.heap.push ob).update S (Obj.mapSeq fun x=>x.push .none)).update S (Obj.mapSeq fun x=>x.pop)) s.heap.objs.size d 0 vs.length ep/\Heap.DictAt (strKind prog w) (((s.heap.push ob).update S (Obj.mapSeq fun x=>x.push .none)).update S (Obj.mapSeq fun x=>x.pop)) d vs ep:=by
  refine⟨⟨ob,kp _ _ (Ne.symm (Yo lS)) (Yl _ (by subst hob;rfl)),by subst hob;rfl,by subst hob;rfl⟩,?_⟩;exact(Zdp dd).at' fun o e=>kp _ _ (Ne.symm hSd) e
 refine(show wpAny _ _ (again _) _ _ _ from Yd ⟨YaG Yb4 _,YbZ W hn _ nf _ vs.length 0 _ _ _ rfl (Y2 _) st0 hS3 (ItemsOf.nil _) fun s' acc c' mv here got=>hR s' acc c' ?_ here got⟩);have m0:Moved [S,s.heap.objs.size] (fun a b:Array GenState=>b=a) s { s with heap:=((s.heap.push ob).update S (Obj.mapSeq fun x=>x.push .none)).update S (Obj.mapSeq fun x=>x.pop) }:=by
  refine Moved.then_heap (wr:=[S,s.heap.objs.size]) (G:=fun a b=>b=a) (s:=s) (s':=s) (Moved.refl (G:=fun a b=>b=a) (fun _=>rfl)) (Yj _) fun b o hb e=>kp b o (fun h=>hb (by rw[h];exact Yab)) (Ye _ e)
 exact Moved.trans (fun _ _ _ h1 h2=>h2.trans h1) m0 mv
def Zhr(hh:A.handled=none)(hd:(d == sysModules)=false)(dd:s.heap.DictAt (strKind prog w) d vs ep)(hn:vs.length<=sizeLine)(hQ : ∀ s' acc c',Moved [s.heap.objs.size,s.heap.objs.size + 1] (fun a b=>b=a) { s with heap:=s.heap.push { cls:=.type "list",data:=.seq #[] } } s'->s'.heap.get? s.heap.objs.size=some { cls:=.type "list",dict:=none,data:=.seq acc c',slots:=#[] } ->
   ItemsOf (fun i v=>∃k x,vs[i]? = some (k,x)/\(strKind prog w).is k v=true) acc vs.length->Q (.ref s.heap.objs.size) s'):
  wpAny (model prog w) A (call (.type "list") [.ref d]) Q E s:=by
 have ld:d<s.heap.objs.size:=dd.lt_size;refine callType_codes (Q₁:=fun obj s₁=>obj=.ref s.heap.objs.size/\s₁={ s with heap:=s.heap.push { cls:=.type "list",data:=.seq #[] } }) F.called_list (F.typeCall_list_1 _) F.entry_list_init
  (code_list_new _ ⟨rfl,rfl⟩) fun obj s₁ h₁=>?_
 obtain⟨rfl,rfl⟩:=h₁;have hS:(s.heap.push { cls:=.type "list",data:=.seq #[] }).get? s.heap.objs.size=some { cls:=.type "list",data:=.seq #[] }:=Yl _ rfl;refine⟨⟨_,hS,rfl⟩,F.args_list_init_2 _ _,?_⟩;show wpAny _ A.in1.in1 (do let old <- Builtin.List.listItems (.ref s.heap.objs.size);Builtin.List.listUpdate (.ref s.heap.objs.size) (fun _=>#[]);letGo old.toList.reverse;Builtin.List.listExtendWith (.ref s.heap.objs.size) (.ref d) .none) _ _ _;refine Yb ?_;unfold Builtin.List.listItems;refine Yb (Ya4 hS rfl (Yd ?_));show wpAny _ A.in1.in1 (updateSeq s.heap.objs.size (fun _=>#[])>>=fun _=>letGo (#[]:Array Value).toList.reverse>>=fun _=>Builtin.List.listExtendWith (.ref s.heap.objs.size) (.ref d) .none) _ _ _;refine Yb (Yaw hS rfl ?_);have hS₂:=YD (Obj.mapSeq (fun _=>(#[]:Array Value))) hS rfl;have oth:∀b o,b≠s.heap.objs.size->(s.heap.push { cls:=.type "list",data:=.seq #[] }).get? b=some o->((s.heap.push { cls:=.type "list",data:=.seq #[] }).update s.heap.objs.size (Obj.mapSeq (fun _=>(#[]:Array Value)))).get? b=some o :=
  fun b o hb e=>(YF _ _ (Ne.symm hb)).trans e
 have sz:((s.heap.push { cls:=.type "list",data:=.seq #[] }).update s.heap.objs.size (Obj.mapSeq (fun _=>(#[]:Array Value)))).objs.size=s.heap.objs.size+1:=by simp[Heap.update,Heap.push]
 refine Yb (Yba ?_);refine ZfP (A:=A.in1) (s:={ s with heap:=(s.heap.push { cls:=.type "list",data:=.seq #[] }).update s.heap.objs.size (Obj.mapSeq (fun _=>(#[]:Array Value))) }) (c:=_) hh hd (Yay ld) ((Zdp dd).at' fun o e=>oth _ _ (Yo ld) e) hn hS₂ fun s' acc c' mv here got=>?_;have m0:Moved [s.heap.objs.size,s.heap.objs.size+1] (fun a b:Array GenState=>b=a) { s with heap:=s.heap.push { cls:=.type "list",data:=.seq #[] } } { s with heap:=(s.heap.push { cls:=.type "list",data:=.seq #[] }).update s.heap.objs.size (Obj.mapSeq (fun _=>(#[]:Array Value))) } :=
  Moved.then_heap (wr:=[s.heap.objs.size,s.heap.objs.size+1]) (G:=fun a b=>b=a) (s:={ s with heap:=s.heap.push { cls:=.type "list",data:=.seq #[] } }) (s':={ s with heap:=s.heap.push { cls:=.type "list",data:=.seq #[] } }) (Moved.refl (G:=fun a b=>b=a) (fun _=>rfl)) (Yj _) fun b o hb e=>oth b o (fun h=>hb (by rw[h];exact Yab)) e
 have mv':Moved [s.heap.objs.size,s.heap.objs.size+1] (fun a b:Array GenState=>b=a) { s with heap:=(s.heap.push { cls:=.type "list",data:=.seq #[] }).update s.heap.objs.size (Obj.mapSeq (fun _=>(#[]:Array Value))) } s':=by
  rw[<- sz];exact mv
 exact⟨rfl,hQ s' acc c' (Moved.trans (fun _ _ _ h1 h2=>h2.trans h1) m0 mv') here got⟩
end
def Zmc:∀ {xs:List V} {us:List Value},xs.length=us.length->(∀(i:Nat) x u,xs[i]? = some x->us[i]? = some u->Zau x u)->Z6 xs us
 | [],[],_,_=>.nil
 | x::xs,u::us,hl,h=>.cons (h 0 x u rfl rfl) (Zmc (by simpa using hl) fun i a b ha hb=>h (i+1) a b (by simpa using ha) (by simpa using hb))
section
def ZjA(P:Program)(w:World):List V->Hp->VK->Prop:=fun vs H Q=>∃d ep kvs,vs=[.ref d]/\H d=some (DQ P w d ep kvs)/\∀l,H l=none->Q (.ref l) (upd H l (.lst (kvs.map fun p=>.str p.1)))
def ZcG(hc:X.calm=true):Zaj X (.type "list") (ZjA X.prog X.w):=by
 intro pins s σ H xs us Q I r h;obtain⟨d,ep,kvs,rfl,hq,q⟩:=h;obtain⟨u,rfl,ru⟩:=r.one;cases ru;obtain⟨h0,hz,vs,r,dd⟩:=ZaT I hq;have hl:kvs.length=vs.length:=Paired.length r;refine Zhr (I.ok.hd hc) h0 dd (by rw[<- hl];exact hz) fun s' acc c' mv here got=>?_;have e':=ZeU mv;have sz:(s.heap.push { cls:=.type "list",data:=.seq #[] }).objs.size=s.heap.objs.size+1:=Array.size_push ..;have kp:∀b o,s.heap.get? b=some o->s'.heap.get? b=some o:=fun b o z=>mv.heap b o (by
  have:=Ym z;simp only[Yn,YM,Yan,not_or];exact⟨Yo this,Yo (Y0 this)⟩) (Ye _ z)
 have rv:Z6 (kvs.map fun p=>V.str p.1) acc.toList:=by
  refine Zmc (by rw[Yc,hl];exact got.1.symm) fun i x u hx hu=>?_;rw[Yi]at hx;obtain⟨p,hp,rfl⟩:=YK.mp hx;rw[Yas]at hu;obtain⟨k,y,h1,h2⟩:=got.2 i u hu;obtain⟨u',h3,_⟩:=Zgf r hp;rw[h1]at h3;cases h3;obtain⟨t,rfl⟩:=Value.isStrOf_shape h2;exact⟨t,rfl⟩
 have I3:Inv X pins σ (upd H s.heap.objs.size (.lst (kvs.map fun p=>.str p.1))) { s with heap:=s'.heap,toks:=s'.toks } :=
  I.laid (t':=s'.toks) kp (Yj _) (show ZaO X.prog X.w _ s'.heap _ (.lst (kvs.map fun p=>.str p.1))from⟨by rw[Yc];exact hz,acc.toList,c',rv,here⟩)
 rw[show s'={ s with heap:=s'.heap,toks:=s'.toks }from e'];exact⟨.ref s.heap.objs.size,_,I3,rfl,q _ I.fresh⟩
end
section
def Zi2(P:Program)(w:World):List U->AHp->AVK->Prop:=fun us A Q=>∃p ep kus,us=[.ref p]/\A p=some (dS P w ep kus)/\∀l,A l=none->Q (.ref l) (updA A l (.lst (kus.map fK)))
def Zb4:AbL K (ZjA P w) (Zi2 P w):=fun vs us A H Q' Q r g h k=>by
 obtain⟨p,ep,kus,rfl,e,q⟩:=h
 obtain⟨v,rfl,r'⟩:=r.inv1
 cases r'
 obtain⟨kvs,h1,rr⟩:=Zbn g e
 refine⟨p,ep,kvs,rfl,h1,fun l hl=>k _ _ _ _ (Zat.upd_new hl).kp (g.newL hl ?_) (.ref l) (q l (g.none hl))⟩
 have:kus.map fK=(kus.map (·.1)).map U.str:=by rw[Yai];rfl
 have h2:(kvs.map fun p=>V.str p.1)=(kvs.map (·.1)).map V.str:=by rw[Yai];rfl
 rw[this,h2,rr.1]
 exact RUs.of_strs
def Zlx:Zi2 P w [.ref p] A Q=∃ep kus,A p=some (dS P w ep kus)/\∀l,A l=none->Q (.ref l) (updA A l (.lst (kus.map fK))):=propext ⟨fun hq0=>by obtain⟨_,ep,kus,e,h⟩:=hq0;cases e;exact⟨ep,kus,h⟩,fun⟨ep,kus,h⟩=>⟨p,ep,kus,rfl,h⟩⟩
def ZuD:List U->Option (Str×U)
 | [.str z]=>some (z,.non)
 | [.str z,d]=>some (z,d)
 | _=>none
def Zmi(P:Program)(w:World)(ao:AE)(l:AA):AE:=fun ρ A Q=>ao ρ A fun x A1=>∃a ep kus,x=.ref a/\A1 a=some (dS P w ep kus)/\l ρ A1 fun us A2=>∃z d ep' kus',ZuD us=some (z,d)/\A2 a=some (dS P w ep' kus')/\Q ((kus'.lookup z).getD d) A2
def Zd4{l:AA}(ho:AbE K to ao)(hl:AbA K t l):AbE K (ZmR P w to t) (Zmi P w ao l):=fun ρ A σ H Q' Q hs g wh k =>
 ho ρ A σ H _ _ hs g wh fun x A1 v1 H1 k1 g1 r1 hq0=>by
  obtain⟨a,ep,kus,e1,e2,q⟩:=hq0
  subst e1
  cases r1
  obtain⟨kvs,h1,rr⟩:=Zbn g1 e2
  refine⟨a,ep,kvs,rfl,h1,hl ρ A1 σ H1 _ _ (hs.same k1) g1 q fun us A2 vs H2 k2 g2 r2 h_q=>?_⟩
  obtain⟨z,d,ep',kus',e3,e4,q2⟩:=h_q
  obtain⟨kvs',h2,rr'⟩:=Zbn g2 e4
  have fin:∀dv,RU K H2 d dv->Q ((kvs'.lookup z).getD dv) H2:=fun dv rd=>by
   refine k _ _ _ _ (k1.trans k2) g2 ?_ q2
   cases e:kus'.lookup z with
   | none=>rw[rr'.miss e];exact rd
   | some u=>obtain⟨v,hv,rv⟩:=rr'.look e;rw[hv];exact rv
  unfold ZuD at e3
  split at e3
  .cases e3
   obtain⟨v,rfl,rv⟩:=r2.inv1
   cases rv
   exact⟨z,.non,ep',kvs',.inl ⟨rfl,rfl⟩,h2,fin _ .non⟩
  .cases e3
   cases r2 with
   | cons rv r2 =>
    cases rv
    obtain⟨v,rfl,rv⟩:=r2.inv1
    exact⟨z,v,ep',kvs',.inr rfl,h2,fin _ rv⟩
  .cases e3
def Zo4{l:AA}:Zmi P w ao l ρ A Q=ao ρ A fun x A1=>∃a ep kus,x=.ref a/\A1 a=some (dS P w ep kus)/\l ρ A1 fun us A2=>∃z d ep' kus',ZuD us=some (z,d)/\A2 a=some (dS P w ep' kus')/\Q ((kus'.lookup z).getD d) A2:=rfl
end
def ZgT(P:Program)(w:World)(nt:Nat)(frs:List (Str×Nat))(wi:TI)(g:TG)(tt:TT)(tk tv:TE):TE:=fun σ H Q=>wi σ H fun J H1=>∀l,H1 l=none->∃W:Nat->Nat->St->Hp->Prop,(∃m,W 0 m (Zam nt frs σ) (upd H1 l (DQ P w l 0 []))) /\
 ∀i m τ H,W i m τ H->(J.stop i H/\Q (.ref l) H)\/(J.go i H/\∀x H',J.yld i H x H'->g x τ H' fun τ2 H2=>tt τ2 H2 fun ok H3 =>
  if ok=true then tk τ2 H3 fun k H4=>tv τ2 H4 fun v H5=>∃z ep kvs,k=.str z/\H5 l=some (DQ P w l ep kvs)/\kvs.length<sizeLine/\∀ep',∃m',m'<m/\W (i+1) m' τ2 (upd H5 l (DQ P w l ep' (Zcf z v kvs)))else ∃m',m'<m/\W (i+1) m' τ2 H3)
def Zeh(I:Nat->Shared->Prop)(turn : ∀ n s,I n s->wpAny (model prog w) A (pyNext it) (fun r s₁=>match r with
   | none=>R (.ok .next) s₁
   | some v => wpAny (model prog w) A (letOwnedTupleGo target it v) (fun _ s₁'=>wpAny (model prog w) A (assign target env v) (fun _ s₂ =>
     wpAny (model prog w) A (forIn ifs true fun c r=>if r=true then do let ok <- isTrue c env (eval c env);pure (ForInStep.yield ok)else pure (ForInStep.yield r)) (fun ok s₃ =>
      if ok=true then wpAny (model prog w) A (eval kx env) (fun kv s₄=>wpAny (model prog w) A (eval vx env) (fun vv s₅ =>
       wpAny (model prog w) A (dictSet D kv vv) (fun _ s₆=>∃m,m<n/\I m s₆) (fun _ _=>False) s₅) (fun _ _=>False) s₄) (fun _ _=>False) s₃
      else ∃m,m<n/\I m s₃) (fun _ _=>False) s₂) (fun _ _=>False) s₁') (fun _ _=>False) s₁) (fun _ _=>False) s)(n:Nat)(h:I n s):
  codeAny (model prog w) A (.compLoop (.DictComp kx vx [⟨target,iter,ifs,0⟩] scope pos) 0 it (.ref D) env) R s:=by
 refine codeAny_loop rfl I (fun n s hI=>?_) n h;show wpAny _ A ((compTurn (.DictComp kx vx [⟨target,iter,ifs,0⟩] scope pos) 0 it (.ref D) env).onRaise (fun x=>do noteFrame x env;theTreesLotGoes x)) _ _ s;refine wpAny_noted ?_;rw[compTurn_dict];refine Yb (YaF (Yb (YG (turn n s hI) (fun r s₁ h₁=>?_) fun _ _ h'=>h'.elim)));cases r with
 | none=>exact Yd h₁
 | some v =>
  refine Yb (YG h₁ (fun _ s₁' h₁'=>Yb (YG h₁' (fun _ s₂ h₂=>Yb (YG h₂ (fun ok s₃ h₃=>?_) fun _ _ h'=>h'.elim)) fun _ _ h'=>h'.elim)) fun _ _ h'=>h'.elim);cases ok with
  | false=>exact Yd ⟨rfl,h₃⟩
  | true =>
   exact Yb (Yb (YG h₃ (fun kv s₄ h₄=>Yb (YT (YG h₄ (fun vv s₅ h₅=>Yb (YaF (YT (YG h₅ (fun _ s₆ h₆=>Yd ⟨rfl,h₆⟩) fun _ _ h'=>h'.elim)))) fun _ _ h'=>h'.elim))) fun _ _ h'=>h'.elim))
def Zgi(hc:X.calm=true)(S:Z9 X scope cl ts frs')(hi:PI X tg iter wi)(hg:∀ pins s H fp,PG (X.comp scope cl (ts++frs'.map (·.1)) pins s H fp) tg g)(ht:∀ pins s H fp,ZlQ (X.comp scope cl (ts++frs'.map (·.1)) pins s H fp) ifs tt)(hk:∀ pins s H fp,PE (X.comp scope cl (ts++frs'.map (·.1)) pins s H fp) kx tk)(hv:∀ pins s H fp,PE (X.comp scope cl (ts++frs'.map (·.1)) pins s H fp) vx tv)(hs:∀ x,foldedSetIterable iter X.env x=pure x)(I:Inv X pins σ H s)(h:ZgT X.prog X.w ts.length frs' wi g tt tk tv σ H Q)(hfin:∀ (C D:Addr) (H5:Hp) (s6:Shared) (m6:Str->Option Value),Inv X pins σ H5 s6->s6.heap.Ns C m6->Zey X pins H5 C->(∀ h',Heap.SameBut C s6.heap h'->Inv X pins σ H5 { s6 with heap:=h' })->Q (.ref D) H5 ->
   compPost (model X.prog X.w) X.A X.xe use Qv (.ref D) C (.ok .next) s6):
  wpAny (model X.prog X.w) X.A (comprehension (.DictComp kx vx [⟨tg,iter,ifs,0⟩] scope pos) scope X.env pos0 newDict false (eval iter X.env) use) Qv X.xe s:=by
 refine wpAny_comprehension_free (use:=use) (cl:=cl) rfl hs S.clos S.kind S.names (thn (hi pins s σ H _ I h) fun v s1 h1=>thn h1 fun itv s2 h2=>?_);obtain⟨it,fp,tn,J,H2,e,I2,T,st2,f2,q2⟩:=h2;subst e;have fr2:H2 s2.heap.objs.size=none:=I2.hok.fresh (Yj _);obtain⟨W,⟨m0,w0⟩,turn⟩:=q2 _ fr2;refine YO ?_;have hlt2:∀b∈fp,b<s2.heap.objs.size:=fun b hb=>by
  obtain⟨o,e,_⟩:=T.obj _ _ st2 b hb;exact Ym e
 have I3:Inv X pins σ (upd H2 s2.heap.objs.size (DQ X.prog X.w s2.heap.objs.size 0 [])) { s2 with heap:=s2.heap.push { cls:=.type "dict",data:=.dict #[] } } :=
  I2.laid (t':=s2.toks) (fun b u e=>Ye _ e) (Yj _) (DQp.ok (ZmD s2.heap (big I2)))
 have f3:∀b∈fp,Zey X pins (upd H2 s2.heap.objs.size (DQ X.prog X.w s2.heap.objs.size 0 [])) b:=fun b hb=>⟨by rw[Zr (Yo (hlt2 b hb))];exact(f2 b hb).1,(f2 b hb).2⟩;have hk3:∀b o,s2.heap.get? b=some o->(s2.heap.push { cls:=.type "dict",data:=.dict #[] }).get? b=some o:=fun b o e=>Ye _ e;have hsz3:(s2.heap.push { cls:=.type "dict",data:=.dict #[] }).objs.size=s2.heap.objs.size+1:=YJ ..;refine wpAny_newFunctionEnv S.nocell (by intro y hy;simp at hy) (fun h₁ hns₁ hsb₁=>?_) S.kind;dsimp only at hns₁ hsb₁ ⊢;generalize hs3:({ s2 with heap:=s2.heap.push { cls:=.type "dict",data:=.dict #[] } }:Shared)=s3 at I3 hns₁ hsb₁ ⊢;have es3:s3.heap=s2.heap.push { cls:=.type "dict",data:=.dict #[] }:=by rw[<- hs3]
 have hk4:∀b o,s3.heap.get? b=some o->h₁.get? b=some o:=fun b o e=>by
  have:=hsb₁.2 b (by rw[<- es3];exact Yo (Ym e));rw[<- es3]at this;exact this.trans (Ye _ e)
 have hlt3:∀b∈fp,b<s3.heap.objs.size:=fun b hb=>by
  rw[es3,hsz3];exact Y0 (hlt2 b hb)
 rw[<- es3]at hns₁;have I4:=S.inv I3 f3 hlt3 (tk:=s2.toks+([]:List (Str×Value)).length) hns₁ hk4;have st4:tn 0 h₁:=T.keep _ _ _ st2 fun b hb o e=>hk4 b o (by rw[es3];exact hk3 b o e);have estart:({ s2 with heap:=h₁,toks:=s2.toks+([]:List (Str×Value)).length }:Shared)={ s3 with heap:=h₁,toks:=s2.toks+([]:List (Str×Value)).length }:=by rw[<- hs3]
 rw[estart];have stat:∀ {H':Hp},(∀b∈fp,H' b=none)->∀b∈fp,Zey (X.comp scope cl (ts++frs'.map (·.1)) pins s3 (upd H2 s2.heap.objs.size (DQ X.prog X.w s2.heap.objs.size 0 [])) fp) [] H' b:=fun hn b hb=>by
  obtain⟨h1,h2,h3,h4,h5,h6⟩:=f3 b hb;refine⟨hn b hb,Yo (hlt3 b hb),fun z=>?_,.inl hb,fun x c e=>h5 x c (S.subL e),fun p hp=>h6 p (by
   have:p∈(X.pn++pins)++[]:=hp;rwa [YN]at this)⟩
  rcases Yn.mp (I3.stkSub _ z)with e'|e'
  .exact h2 e'
  .exact h3 e'
 have loop : codeAny (model X.prog X.w) X.A (.compLoop (.DictComp kx vx [⟨tg,iter,ifs,0⟩] scope pos) 0 (.ref it) (.ref s2.heap.objs.size) (compEnvC scope cl s3.heap.objs.size X.env))
   (compPost (model X.prog X.w) X.A X.xe use Qv (.ref s2.heap.objs.size) s3.heap.objs.size) { s3 with heap:=h₁,toks:=s2.toks+([]:List (Str×Value)).length }:=by
  refine Zeh (fun n s'=>∃i τ H',Inv (X.comp scope cl (ts++frs'.map (·.1)) pins s3 (upd H2 s2.heap.objs.size (DQ X.prog X.w s2.heap.objs.size 0 [])) fp) [] τ H' s'/\tn i s'.heap/\(∀b∈fp,H' b=none)/\W i n τ H') ?_ m0
   ⟨0,_,_,I4,st4,fun b hb=>(f3 b hb).1,w0⟩
  rintro n s5 ⟨i,τ,H5,I5,st5,fr5,w5⟩;rcases turn i n τ H5 w5 with⟨stop,qn⟩|⟨go,step⟩
  .refine YG (T.done (X.comp scope cl (ts++frs'.map (·.1)) pins s3 (upd H2 s2.heap.objs.size (DQ X.prog X.w s2.heap.objs.size 0 [])) fp) rfl rfl rfl hc i [] s5 τ H5 (fun _ _=>False) I5 (stat fr5) st5 stop) (fun r s6 ⟨hr,I6⟩=>?_) fun _ _ z=>z;subst hr;obtain⟨m6,hn6,_⟩:=id I6.loc;have hA:∀h',Heap.SameBut s3.heap.objs.size s6.heap h'->Inv X pins σ H5 { s6 with heap:=h' }:=fun h' hs'=>Z9.after I3 f3 I6 hs';have hC0:=I3.fpOk (b:=s3.heap.objs.size) (Yj _) (I3.hok.fresh (Yj _));exact hfin _ _ H5 s6 m6 (hA s6.heap ⟨rfl,fun _ _=>rfl⟩) hn6 ⟨I6.free,hC0.2⟩ hA qn
  .refine YG (T.item (X.comp scope cl (ts++frs'.map (·.1)) pins s3 (upd H2 s2.heap.objs.size (DQ X.prog X.w s2.heap.objs.size 0 [])) fp) rfl rfl rfl hc i [] s5 τ H5 (fun _ _=>False) I5 (stat fr5) st5 go) (fun r s6 ⟨u,hr,h6⟩=>?_) fun _ _ z=>z;subst hr;refine thn h6 fun _ s7 h_q=>?_;obtain⟨x,H7,I7,r7,y7,st7,fr7⟩:=h_q;have I7':=I7.pinned (stat fr7) (T.obj _ _ st7);refine thn (hg _ _ _ _ _ s7 τ H7 x u _ I7' r7 (step x H7 y7)) fun _ s8 h_q=>?_;obtain⟨τ8,H8,I8,q8⟩:=h_q;refine thn (ht _ _ _ _ _ s8 τ8 H8 _ I8 q8) fun ok s9 h_q=>?_;obtain⟨H9,I9,q9⟩:=h_q;have again:∀ {m':Nat} {H':Hp} {s':Shared},Inv (X.comp scope cl (ts++frs'.map (·.1)) pins s3 (upd H2 s2.heap.objs.size (DQ X.prog X.w s2.heap.objs.size 0 [])) fp) ([]++ZdI fp s7.heap) τ8 H' s'->m'<n->W (i+1) m' τ8 H' ->
     ∃m,m<n/\∃i τ H',Inv (X.comp scope cl (ts++frs'.map (·.1)) pins s3 (upd H2 s2.heap.objs.size (DQ X.prog X.w s2.heap.objs.size 0 [])) fp) [] τ H' s'/\tn i s'.heap/\(∀b∈fp,H' b=none)/\W i m τ H':=fun {m' H' s'} I' hm w'=>by
    refine⟨m',hm,i+1,τ8,H',I'.unpinned,T.keep _ _ _ st7 fun b hb o e=>(I'.pin (b,o) (Yx _ (Yx _ (ZaX hb e)))).1,fun b hb=>?_,w'⟩;obtain⟨o,e,d⟩:=T.obj _ _ st7 b hb;exact(I'.pin (b,o) (Yx _ (Yx _ (ZaX hb e)))).2.1
   cases ok with
   | false =>
    rw[if_neg Yu];rw[if_neg Yu]at q9;obtain⟨m',hm,w'⟩:=q9;exact again I9 hm w'
   | true =>
    rw[if_pos rfl];rw[if_pos rfl]at q9;refine thn (hk _ _ _ _ _ s9 τ8 H9 _ I9 q9) fun kv s10 h_q=>?_;obtain⟨y,H10,I10,r10,q10⟩:=h_q;refine thn (hv _ _ _ _ _ s10 τ8 H10 _ I10 q10) fun vv s11 h_q=>?_;obtain⟨y2,H11,I11,r11,z,ep,kvs,ey,hl,hz,w'⟩:=h_q;subst ey;obtain⟨tk0,rfl⟩:=r10;obtain⟨h0,hz1,vs,rr,dd⟩:=ZaT I11 hl;have hz':vs.length<=sizeLine:=by rw[<- Paired.length rr];exact hz1
    refine wpAny_dictSet_pairs (hsz:=hz') (strKind_is X.prog X.w z tk0) dd.dictOf fun h' dd' hs=>?_;obtain⟨ep',dd'⟩:=dd'.dictAt;have e1:∃o,h'.get? s2.heap.objs.size=some o:=let⟨o,_,e,_⟩:=dd';⟨o,e⟩;obtain⟨m',hm,w'⟩:=w' ep';exact again (I11.write (x:=s2.heap.objs.size) (e:=s2.heap.objs.size) (by rw[hl];trivial) (.inl rfl) (fun c u hc z=>(hs.2 c hc).trans z) e1 (DQp.ok ⟨⟨h0,by have:=Zel z y2 kvs;lia⟩,_,rr.put dd.nodup z r11,dd'⟩)) hm w'
 have es:(s2.heap.push { cls:=.type "dict",data:=.dict #[] }).objs.size=s3.heap.objs.size:=by rw[es3]
 rw[es];exact codeAny_compStart_dict loop (T.self _ 0 _ _ _ st4 loop)
def ZcP(hc:X.calm=true)(S:Z9 X scope cl ts frs')(hi:PI X tg iter wi)(hg:∀pins s H fp,PG (X.comp scope cl (ts++frs'.map (·.1)) pins s H fp) tg g)(ht:∀pins s H fp,ZlQ (X.comp scope cl (ts++frs'.map (·.1)) pins s H fp) ifs tt)(hk:∀pins s H fp,PE (X.comp scope cl (ts++frs'.map (·.1)) pins s H fp) kx tk)(hv:∀pins s H fp,PE (X.comp scope cl (ts++frs'.map (·.1)) pins s H fp) vx tv)(hs:∀x,foldedSetIterable iter X.env x=pure x:=by intro _;rfl):
  PE X (.DictComp kx vx [⟨tg,iter,ifs,0⟩] scope pos) (ZgT X.prog X.w ts.length frs' wi g tt tk tv):=by
 intro pins s σ H Q I h;rw[arm_eval_DictComp];exact Zgi hc S hi hg ht hk hv hs (use:=none) (Qv:=EP X pins σ Q) I h fun C D H5 s6 m6 I6 hn fpc hA q=>⟨m6,hn,fun h' hs'=>⟨.ref D,H5,hA h' hs',rfl,q⟩⟩
def Zlp(hN:X.N.Nodup)(hi':X.N[i]? = some y)(hy:Loc X.env.scope y)(hsw:swapsWith (.DictComp kx vx [⟨tg,iter,ifs,0⟩] scope pos) (some (.Name y py)) spos.line X.env=pure true)(hc:X.calm=true)(S:Z9 X scope cl ts frs')(hi:PI X tg iter wi)(hg:∀pins s H fp,PG (X.comp scope cl (ts++frs'.map (·.1)) pins s H fp) tg g)(ht:∀pins s H fp,ZlQ (X.comp scope cl (ts++frs'.map (·.1)) pins s H fp) ifs tt)(hk:∀pins s H fp,PE (X.comp scope cl (ts++frs'.map (·.1)) pins s H fp) kx tk)(hv:∀pins s H fp,PE (X.comp scope cl (ts++frs'.map (·.1)) pins s H fp) vx tv)(hs:∀x,foldedSetIterable iter X.env x=pure x:=by intro _;rfl)(hf:X.fn y=true\/X.env.scope.names.lookup y=some .local:=by first|exact .inl rfl|exact .inr rfl|assumption):
  PS X (.Assign [.Name y py] (.DictComp kx vx [⟨tg,iter,ifs,0⟩] scope pos) spos) (Zqm (ZgT X.prog X.w ts.length frs' wi g tt tk tv) (ZfG i)):=by
 intro pins s σ H D I h;rw[exec_Assign_Name_used _ _ _ _ hsw];refine Yb (YaF (Yb ?_));show wpAny _ X.A (do let _ <- comprehension (.DictComp kx vx [⟨tg,iter,ifs,0⟩] scope pos) scope X.env _ newDict false (eval iter X.env) (some (assign (.Name y py) X.env))) _ _ s;refine Yb (YG (Zgi hc S hi hg ht hk hv hs (Qv:=fun _ s'=>SP X pins D .next s') (use:=some (assign (.Name y py) X.env)) I h ?_) (fun _ s' hq=>Yd (Yd hq)) fun _ _ e=>e);intro C Da H5 s6 m6 I6 hn6 fpC hA qn;show wpAny _ X.A (assign (.Name y py) X.env (.ref Da)) _ _ _;refine Ybz (Zdo I6 hN hi' hy (v:=.ref Da) rfl (fun s7 I7 ⟨a,sb,ha⟩=>?_) hf);have hCa:C≠a:=by
  obtain⟨_,h2,_,_,h5,_⟩:=fpC;rcases ha with rfl|ha
  .exact h2
  .exact fun e=>h5 _ _ ha e.symm
 refine⟨m6,hn6.sameBut sb hCa,fun h' hs'=>?_⟩;obtain⟨f0,f1,f2,f3,f4,f5⟩:=fpC;exact⟨_,H5,I7.turned (h':=h') (t':=s7.toks) (fun b o hb e=>(hs'.2 b hb).trans e) f0 f1 f3 f4 f5,qn⟩
def Zsu(P:Program)(w:World)(J:AIt)(g:AG)(tt:AT)(tk tv:AE)(l:Addr)(Q:AVK)(τ:ASt)(A:AHp):Prop:=∃W:Nat->Nat->ASt->AHp->Prop,(∃m,W 0 m τ A) /\
 ∀i m τ A,W i m τ A->(J i A none/\Q (.ref l) A)\/∃u,J i A (some u)/\g u τ A fun τ2 A2=>tt τ2 A2 fun ok A3 =>
  if ok=true then tk τ2 A3 fun k A4=>tv τ2 A4 fun v A5=>∃z ep kus,k=.str z/\A5 l=some (dS P w ep kus)/\kus.length<sizeLine/\∀ep',∃m',m'<m/\W (i+1) m' τ2 (updA A5 l (dS P w ep' (Zct z v kus)))else ∃m',m'<m/\W (i+1) m' τ2 A3
def ZlX(P:Program)(w:World)(nt:Nat)(frs:List (Str×Nat))(wi:AI)(g:AG)(tt:AT)(tk tv:AE):AE:=fun ρ A Q=>wi ρ A fun J A1=>∀l,A1 l=none->Zsu P w J g tt tk tv l Q (aCompStart nt frs ρ) (updA A1 l (dS P w 0 []))
section
def Zb1{frs:List (Str×Nat)}(hi:AbI K wi ai)(hg:AbG K g ag)(ht:AbT K tt at')(hk:AbE K tk ak)(hv:AbE K tv av):AbE K (ZgT P w nt frs wi g tt tk tv) (ZlX P w nt frs ai ag at' ak av):=fun ρ A σ H Q' Q hs g0 wh k=>by
 refine hi ρ A σ H _ _ hs g0 wh fun aj A1 J H1 k1 g1 hj q=>?_
 intro l hl
 obtain⟨W,⟨m0,w0⟩,turn⟩:=q l (g1.none hl)
 have kl:Kp K H1 (upd H1 l (DQ P w l 0 [])):=(Zat.upd_new hl).kp
 refine⟨fun i m τ H2=>∃τ' A2,Kp K H1 H2/\HR K H2 A2/\RSt K H2 τ' τ/\W i m τ' A2,⟨m0,_,_,kl,g1.putO kl (Ziy Zv ⟨rfl,.nil⟩),(hs.same (k1.trans kl)).comp nt frs,w0⟩,?_⟩
 rintro i m τ H2 ⟨τ',A2,k2,g2,s2,w2⟩
 have k12:=k1.trans k2
 rcases turn i m τ' A2 w2 with⟨hstop,q⟩|⟨u,hgo,q⟩
 .exact .inl ⟨hj i A2 H2 _ k2 g2 hstop,k _ _ _ _ k12 g2 (.ref l) q⟩
 .obtain⟨j1,j2⟩:=hj i A2 H2 _ k2 g2 hgo
  refine .inr ⟨j1,fun x H3 hy=>?_⟩
  obtain⟨k3,g3,r3⟩:=j2 x H3 hy
  refine hg _ _ _ _ _ _ _ _ r3 (s2.same k3) g3 q fun ρ4 A4 σ4 H4 k4 g4 s4 q4=>ht ρ4 A4 σ4 H4 _ _ s4 g4 q4 fun b A5 H5 k5 g5 q5=>?_
  have k25:=k2.trans (k3.trans (k4.trans k5))
  cases b
  .refine ZhM (by decide) ?_
   obtain⟨m',hm,w'⟩:=(by simpa using q5:∃m',m'<m/\W (i+1) m' ρ4 A5)
   exact⟨m',hm,_,_,k25,g5,s4.same k5,w'⟩
  .refine Zfr rfl (hk ρ4 A5 σ4 H5 _ _ (s4.same k5) g5 (by simpa using q5) fun y A6 v6 H6 k6 g6 r6 q6=>hv ρ4 A6 σ4 H6 _ _ (s4.same (k5.trans k6)) g6 q6 fun y2 A7 v7 H7 k7 g7 r7 q7=>?_)
   obtain⟨z,rfl,ep,kus,hA,hz,q7⟩:=q7
   cases r6
   obtain⟨kvs,h7,rr⟩:=Zbn g7 hA
   refine⟨z,ep,kvs,rfl,h7,by rw[<- rr.len];exact hz,fun ep'=>?_⟩
   obtain⟨m',hm,w'⟩:=q7 ep'
   have kp:Kp K H7 (upd H7 l (DQ P w l ep' (Zcf z v7 kvs))):=Kp.ext h7
   exact⟨m',hm,_,_,k25.trans (k6.trans (k7.trans kp)),g7.putO kp (Ziy Zv ((rr.put r7).same kp)),s4.same (k5.trans (k6.trans (k7.trans kp))),w'⟩
def Zp8{l:Addr}(items:List U)(T:ASt->Prop)(hT:T τ)(Pv:Nat->AHp->Prop)(h0:Pv 0 A)(hJ:∀k A2,k<=items.length->Pv k A2->J k A2 items[k]?)(hs:∀k u τ A2,items[k]? = some u->T τ->Pv k A2->∀Cy:ASt->U->U->AHp->Prop,(∀τ2 z v A5 ep kus,T τ2->A5 l=some (dS P w ep kus)->kus.length<sizeLine->(∀ep',Pv (k+1) (updA A5 l (dS P w ep' (Zct z v kus))))->Cy τ2 (.str z) v A5)->g u τ A2 fun τ2 A3=>tk τ2 A3 fun y A4=>tv τ2 A4 (Cy τ2 y))(hd:∀A2,Pv items.length A2->Q (.ref l) A2):Zsu P w J g ZfK tk tv l Q τ A:=by
 refine⟨fun i m τ A2=>m=items.length-i/\i<=items.length/\T τ/\Pv i A2,⟨_,rfl,Y2 _,hT,h0⟩,?_⟩;rintro i m τ A2 ⟨rfl,hi,ht,hp⟩;have j:=hJ i A2 hi hp;by_cases hlt:i<items.length
 .have hu:items[i]? = some items[i]:=Yg hlt;rw[hu]at j;refine .inr ⟨_,j,hs i _ τ A2 hu ht hp (fun τ2 y v A5=>∃z ep kus,y=.str z/\A5 l=some (dS P w ep kus)/\kus.length<sizeLine/\∀ep',∃m',m'<items.length-i/\(m'=items.length-(i+1)/\i+1<=items.length/\T τ2/\Pv (i+1) (updA A5 l (dS P w ep' (Zct z v kus))))) ?_⟩;intro τ2 z v A5 ep kus ht2 hA hz q;exact⟨z,ep,kus,rfl,hA,hz,fun ep'=>⟨items.length-(i+1),by lia,rfl,hlt,ht2,q ep'⟩⟩
 .obtain rfl:i=items.length:=by lia
  rw[YH.mpr (Yj _)]at j;exact .inl ⟨j,hd _ hp⟩
end
def flV(v:V):Prop:=v=.non\/∃i,v=.int i
def flU(u:U):Prop:=u=.non\/∃i,u=.int i
def Zrk:PyData.eqv .none .none=true:=by decide +kernel
def Zsm(i:Int):PyData.eqv .none (.int i)=false:=rfl
def ZpN(i:Int):PyData.eqv (.int i) .none=false:=rfl
def ZrL(i j:Int):PyData.eqv (.int i) (.int j)=decide (i=j):=rfl
def Zn0(hx:flV x)(hy:flV y)(rx:Zau x u)(ry:Zau y v):∃b:Bool,SeqAt.EqAt A s u v b/\(b=true↔x=y):=by
 rcases hx with rfl|⟨i,rfl⟩
 .cases(show u=.none from rx);rcases hy with rfl|⟨j,rfl⟩
  .cases(show v=.none from ry);exact⟨_,keq_flat PyProof.V.Flat.none PyProof.V.Flat.none,by rw[Zrk];simp⟩
  .obtain⟨t,rfl⟩:=ry;exact⟨_,keq_flat PyProof.V.Flat.none (PyProof.V.Flat.int j t),by rw[Zsm];simp⟩
 .obtain⟨t,rfl⟩:=rx;rcases hy with rfl|⟨j,rfl⟩
  .cases(show v=.none from ry);exact⟨_,keq_flat (PyProof.V.Flat.int i t) PyProof.V.Flat.none,by rw[ZpN];simp⟩
  .obtain⟨t',rfl⟩:=ry;exact⟨_,keq_flat (PyProof.V.Flat.int i t) (PyProof.V.Flat.int j t'),by rw[ZrL];simp⟩
def Zou:∀ {kvs kus:List (Str×V)} {vs us:List (Str×Value)},KV kvs vs->KV kus us->kvs.map (·.1)=kus.map (·.1)->(∀p∈us,valueAt kb p.1=some p.2)->(∀p∈kvs,flV p.2)->(∀p∈kus,flV p.2) ->
  ∃r,PySem.W.KeqHits A s kb vs r/\(r=true↔kvs=kus):=by
 intro kvs kus vs us h;unfold KV at h;induction h generalizing kus us with
 | nil =>
  intro k e _ _ _;cases kus with
  | nil=>exact⟨true,.nil,by simp⟩
  | cons=>simp at e
 | @cons p q ps qs h1 h2 ih =>
  intro k e hb f1 f2;cases k with
  | nil=>simp at e
  | @cons p' q' ps' qs' k1 k2 =>
   rw[Yq,Yq]at e;obtain⟨e1,e2⟩:=List.cons.inj e;obtain⟨r,hr,er⟩:=ih k2 e2 (fun p hp=>hb p (.tail _ hp)) (fun p hp=>f1 p (.tail _ hp)) (fun p hp=>f2 p (.tail _ hp));obtain⟨a,b⟩:=p;obtain⟨a',b'⟩:=p';obtain⟨c,d⟩:=q;obtain⟨c',d'⟩:=q';obtain⟨e3,r3⟩:=h1;obtain⟨e4,r4⟩:=k1;simp only at e1 e3 r3 e4 r4;subst e1 e3 e4;obtain⟨b0,hE,hb0⟩:=Zn0 (A:=A) (s:=s) (f1 _ (.head _)) (f2 _ (.head _)) r3 r4;refine⟨b0&&r,.hit (hb _ (.head _)) hE hr,?_⟩;rw[YU,hb0,er];simp
def Zsk(P:Program)(w:World):R2:=fun x y H Q=>∃a b ep ep' kvs kus,x=.ref a/\y=.ref b/\H a=some (DQ P w a ep kvs)/\H b=some (DQ P w b ep' kus)/\kvs.map (·.1)=kus.map (·.1)/\(∀p∈kvs,flV p.2)/\(∀p∈kus,flV p.2)/\∀r:Bool,(r=true↔kvs=kus)->Q (.bl r) H
def Zss(hr:Zbb k X.A):OpR X (compareOp .Eq) (Zsk X.prog X.w):=by
 intro pins s σ H x y v u Q I rx ry h;obtain⟨a,b,ep,ep',kvs,kus,rfl,rfl,h1,h2,ek,f1,f2,q⟩:=h;cases rx;cases ry;obtain⟨a0,_,vs,r1,d1⟩:=ZaT I h1;obtain⟨b0,_,us,r2,d2⟩:=ZaT I h2;have hb:∀p∈us,valueAt us p.1=some p.2:=fun p hp=>by
  obtain⟨i,hi⟩:=List.getElem?_of_mem hp;exact valueAt_of_get d2.nodup hi
 obtain⟨r,hh,er⟩:=Zou (A:=X.A.in1) (s:=s) r1 r2 ek hb f1 f2;have hlen:vs.length=us.length:=by rw[<- Paired.length r1,<- Paired.length r2];simpa using congrArg List.length ek
 refine keq_eq a0 b0 d1.dictOf d2.dictOf hr.units0 (fun _=>hh) ⟨.bl r,H,I,?_,q r er⟩;rw[hlen];simp;rfl
section
def Zkw(r:RU K H u v)(f:flU u):flV v/\∀ {u':U} {v':V},RU K H u' v'->flU u'->(v=v'↔u=u'):=by
 rcases f with rfl|⟨i,rfl⟩
 .cases r;refine⟨.inl rfl,fun r' f'=>?_⟩;rcases f' with rfl|⟨j,rfl⟩
  .cases r';simp
  .cases r';simp
 .cases r;refine⟨.inr ⟨i,rfl⟩,fun r' f'=>?_⟩;rcases f' with rfl|⟨j,rfl⟩
  .cases r';simp
  .cases r';simp
def Ze6:∀ {us us':List U} {vs vs':List V},RUs K H us vs->RUs K H us' vs'->(∀u∈us,flU u)->(∀u∈us',flU u)->(∀v∈vs,flV v)/\(vs=vs'↔us=us'):=by
 intro us;induction us with
 | nil =>
  intro us' vs vs' h k _ _;cases h;cases k with
  | nil=>simp
  | cons=>simp
 | cons u us ih =>
  intro us' vs vs' h k f1 f2;cases h with
  | cons h1 h2 =>
  have g:=Zkw h1 (f1 _ (.head _));cases k with
  | nil =>
   refine⟨fun v hv=>?_,by simp⟩;rcases Yn.mp hv with rfl|hv
   .exact g.1
   .exact(ih h2 .nil (fun u hu=>f1 u (.tail _ hu)) (by simp)).1 v hv
  | cons k1 k2 =>
   have:=ih h2 k2 (fun u hu=>f1 u (.tail _ hu)) (fun u hu=>f2 u (.tail _ hu));refine⟨fun v hv=>?_,by simp only[Ybd];rw[g.2 k1 (f2 _ (.head _)),this.2]⟩;rcases Yn.mp hv with rfl|hv
   .exact g.1
   .exact this.1 v hv
theorem ZdZ{α β:Type}:∀ {xs ys:List (α×β)},(xs=ys↔xs.map (·.1)=ys.map (·.1)/\xs.map (·.2)=ys.map (·.2))
 | [],[]=>by simp
 | [],_::_=>by simp
 | _::_,[]=>by simp
 | (a,b)::xs,(c,d)::ys=>by
  have:=ZdZ (xs:=xs) (ys:=ys)
  simp only[Ybd,Prod.mk.injEq,Yq,this]
  constructor
  .rintro⟨⟨rfl,rfl⟩,h1,h2⟩;exact⟨⟨rfl,h1⟩,rfl,h2⟩
  .rintro⟨⟨rfl,h1⟩,rfl,h2⟩;exact⟨⟨rfl,rfl⟩,h1,h2⟩
def Zr4(P:Program)(w:World):AR2:=fun x y A Q=>∃a b ep ep' kus kvs,x=.ref a/\y=.ref b/\A a=some (dS P w ep kus)/\A b=some (dS P w ep' kvs)/\kus.map (·.1)=kvs.map (·.1)/\(∀p∈kus,flU p.2)/\(∀p∈kvs,flU p.2)/\∀r:Bool,(r=true↔kus=kvs)->Q (.bl r) A
def Zn1:AbR K (Zsk P w) (Zr4 P w):=fun x y u v A H Q' Q hu hw g h k=>by
 obtain⟨a,b,ep,ep',kus,kvs,rfl,rfl,e1,e2,ek,f1,f2,q⟩:=h
 cases hu;cases hw
 obtain⟨kv,h1,r1⟩:=Zbn g e1
 obtain⟨kw,h2,r2⟩:=Zbn g e2
 have g1:∀u∈kus.map (·.2),flU u:=fun u hu=>by obtain⟨p,hp,rfl⟩:=YQ.mp hu;exact f1 p hp
 have g2:∀u∈kvs.map (·.2),flU u:=fun u hu=>by obtain⟨p,hp,rfl⟩:=YQ.mp hu;exact f2 p hp
 have t1:=Ze6 r1.2 r2.2 g1 g2
 have t2:=Ze6 r2.2 r1.2 g2 g1
 refine⟨a,b,ep,ep',kv,kw,rfl,rfl,h1,h2,by rw[<- r1.1,<- r2.1];exact ek,fun p hp=>t1.1 _ (List.mem_map_of_mem hp),fun p hp=>t2.1 _ (List.mem_map_of_mem hp),fun r hr=>k _ _ _ _ (.refl H) g (.bl _) (q r ?_)⟩
 rw[hr,ZdZ,ZdZ,t1.2,<- r1.1,<- r2.1]
def Zrf:Zr4 P w (.ref a) (.ref b) A Q=∃ep ep' kus kvs,A a=some (dS P w ep kus)/\A b=some (dS P w ep' kvs)/\kus.map (·.1)=kvs.map (·.1)/\(∀p∈kus,flU p.2)/\(∀p∈kvs,flU p.2)/\∀r:Bool,(r=true↔kus=kvs)->Q (.bl r) A :=
 propext ⟨fun hq0=>by obtain⟨_,_,ep,ep',kus,kvs,x,y,h⟩:=hq0;cases x;cases y;exact⟨ep,ep',kus,kvs,h⟩,fun⟨ep,ep',kus,kvs,h⟩=>⟨a,b,ep,ep',kus,kvs,rfl,rfl,h⟩⟩
end
def ZfY(K:YFr)(C:Addr):Bool:=match K.lookup C with
 | some ⟨_,_,.cls cd,sl⟩=>!cd.hasDel&&(sl.toList[4]?).join==some (.builtin "ValueError.__new__")&&!cd.mro.isEmpty&&cd.mro.contains (.ref C)&&cd.mro.contains (.type "ValueError")&&!cd.mro.contains (.type "AttributeError")&&!cd.mro.contains (.type "NameError") &&
   specialIn K (.ref C) "__call__" == some (some (.builtin "type.__call__"))&&instIn K (.ref C) (.type "type")==some true
 | _=>false
structure MkX (M:Model) (h:Heap) (C:Addr):Prop where
 obj:∃oc od cd sl,h.get? C=some ⟨oc,od,.cls cd,sl⟩/\cd.hasDel=false/\cd.mro.isEmpty=false
 made:PySem.W.Looks M h (Bind.madeBy (.ref C)) (some "ValueError.__new__")
 base:PySem.W.Looks M h (Bind.staticBase (.ref C)) (.ref C)
 self:PySem.W.Looks M h (isSubtype (.ref C) (.ref C)) true
 up:PySem.W.Looks M h (isSubtype (.ref C) (.type "ValueError")) true
 na:PySem.W.Looks M h (isSubtype (.ref C) (.type "AttributeError")) false
 nn:PySem.W.Looks M h (isSubtype (.ref C) (.type "NameError")) false
 call:PySem.W.Looks M h (specialOf (.ref C) "__call__") (some (.builtin "type.__call__"))
 typ:PySem.W.Looks M h (isInstance (.ref C) (.type "type")) true
def ZpK(X:K.In h)(e:ZfY K C=true):MkX M h C:=by
 unfold ZfY at e;split at e
 .rename_i oc od cd sl ho;simp only[YU,Bool.not_eq_true',beq_iff_eq]at e;obtain⟨⟨⟨⟨⟨⟨⟨⟨e2,e3⟩,e4⟩,e5⟩,e6⟩,e7⟩,e8⟩,e9⟩,e10⟩:=e;have hc:PySem.W.clsIn K C=some cd:=by unfold clsIn;rw[ho]
  have hm:PySem.W.Looks M h (mroOf (.ref C)) cd.mro:=(looks_clsIn X hc).andThen .now;obtain⟨c,l,hl⟩:∃c l,cd.mro=c::l:=by
   cases q:cd.mro with
   | nil=>rw[q]at e4;cases e4
   | cons c l=>exact⟨c,l,rfl⟩
  have made:PySem.W.Looks M h (Bind.madeBy (.ref C)) (some "ValueError.__new__"):=by
   intro A Q E s k q;unfold Bind.madeBy;refine Yb (hm A _ E s k ?_);rw[hl,Ybo];refine Yb (Yb (Yb (Yb (wpAny_loadPart (k _ _ (X _ _ ho)) (Yd ?_)))));dsimp only;rw[<- Yas,e3];exact Yd (Yd (Yd q))
  have mr:∀ {v:Value} {b:Bool},cd.mro.contains v=b->Looks M h (isSubtype (.ref C) v) b:=fun {v b} eb=>looks_mroIn X (by unfold mroIn;rw[hc,Option.bind_some,if_neg (by rw[e4];decide),eb]);refine⟨⟨oc,od,cd,sl,X _ _ ho,e2,e4⟩,made,?_,mr e5,mr e6,mr e7,mr e8,PySem.W.looks_specialIn X e9,looks_instIn X e10⟩;intro A Q E s k q;unfold Bind.staticBase;refine Yb (hm A _ E s k ?_);rw[hl,Ybo];exact Yb (Yb (Yb (made A _ E s k (Yd (Yd (Yd q))))))
 .cases e
def Zph:builtinKind "ValueError.__new__"=some .builtinFn:=by kernel_rfl
def Zm2:splitId "ValueError.__new__"=some ("ValueError","__new__"):=by kernel_rfl
abbrev ZhN(C t:Addr):Obj:={ cls:=.ref C,data:=.fields #[.ref t,.none,.none,.none,.bool false,.none] }
abbrev ZfC(vs:List Value):Obj:={ cls:=.type "tuple",data:=.seq vs.toArray }
section
variable{os:OsState}
def newX(Y:MkX (model P w) h C)(hr:r.length<=1000)(hq:R (.ok (.ret (.ref (h.objs.size+1)))) ⟨(h.push (ZfC r)).push (ZhN C h.objs.size),g,d,t,os⟩):
  codeAny (model P w) A (.call (.builtin "ValueError.__new__") ⟨.ref C::r,[]⟩) R ⟨h,g,d,t,os⟩:=by
 obtain⟨⟨oc,od,cd,sl,hC,e2,e4⟩,made,base,self,up,na,nn,call,typ⟩:=Y;have X:=excClass_ValueError;refine codeAny_call_builtin_code (Code.quiet_builtin _ (by decide +kernel)) ?_;simp only[checkBuiltinCall,Zph,Zm2];have here:PySem.W.Looks (model P w) h (Bind.madeHere "BaseException.__new__" (.ref C)) ():=base.andThen (made.andThen (Looks.of_pure (by kernel_rfl)));repeat (first|simp only[bne_self_eq_false,Ycm,if_true,Bool.not_true,Y1,Yal]|lk)
 refine codeAny_builtin_at X.newEntry ?_;unfold Builtin.«BaseException.__new__»;refine PyProof.Rows.wpAt_bind (PyProof.Rows.wpAt_owner rfl X.newEnds (PyProof.Rows.wpAt_of_any ?_));dsimp only;rw[show("ValueError.__new__".dropRight 8)="ValueError" from by decide +kernel];repeat (first|simp only[Bool.not_true,Y1,Yal]|lk)
 rw[if_neg (by rw[Yr];exact Nat.not_lt.mpr (YB hr (by decide)))];refine wpAny_newObjAsIs_type (Yb ?_);unfold newObj;dsimp only;rw[if_neg (by show ¬(6>sizeLine+2);decide)];unfold newObjAsIs classHasDel;have hC2:((h.push (ZfC r)).push (ZhN C h.objs.size)).get? C=some ⟨oc,od,.cls cd,sl⟩:=Ye _ (Ye _ hC);refine Yb (wpAny_alloc (Yb (Yb (wpAny_load hC2 (Yd ?_)))));rw[e2];refine Yd (Yd ?_);have hz:(h.push (ZfC r)).objs.size=h.objs.size+1:=YJ ..;rw[<- hz]at hq;exact hq
def Zko(X:K.In h)(hm:ZfY K C=true)(hi:PySem.W.findIn K (.ref C) "__init__"=some (some (.ref f)))(hf:PySem.W.typeIn K (.ref f)=some (.type "function"))(hr:r.length<=1000)(hq:codeAny (model P w) (A.under (.builtin "type.__call__" ⟨.ref C::r,[]⟩)) (.call (.ref f) ⟨.ref (h.objs.size+1)::r,[]⟩) (InitBack (h.objs.size+1) R) ⟨(h.push (ZfC r)).push (ZhN C h.objs.size),g,d,t,os⟩):
  codeAny (model P w) A (.call (.ref C) ⟨r,[]⟩) R ⟨h,g,d,t,os⟩:=by
 have Y:MkX (model P w) h C:=ZpK X hm;have hi':=looks_findIn (M:=model P w) X hi;have hb:=fun self=>bind_fn (M:=model P w) X self hf;have Y':=Y;obtain⟨⟨oc,od,cd,sl,hC,e2,e4⟩,made,base,self,up,na,nn,call,typ⟩:=Y;refine codeAny_of_tree ?_;show wpAny _ _ (callAny (.ref C) _) _ _ _;refine PySem.W.nd_load hC ?_;show wpAny _ _ (callAny.viaDunder (.ref C) _) _ _ _;unfold callAny.viaDunder;refine Yb (call.at ?_);dsimp only;rw[PySem.tc_bind];refine Yb (Yd (Yb (Yd ?_)));refine Yd (a:=Fin.again (.call (.builtin "type.__call__") ⟨.ref C::r,[]⟩)) (And.intro rfl ?_);refine codeAny_call_builtin_at (Code.quiet_builtin _ (by decide +kernel)) PySem.entry_typeCall (PySem.W.check_slot PySem.tc_kind PySem.tc_split typ (PySem.W.tc_args _ _ _) ?_);unfold Builtin.«type.__call__»;have hmr:PySem.W.Looks (model P w) h (mroOf (.ref C)) cd.mro:=((Looks.ld (part:=none) hC).andThen .now).andThen .now;repeat (first|simp only[e4,Y1,Yal]|with_reducible refine YaD ?_|lk)
 refine newX Y' hr ?_;have kp:∀b o,h.get? b=some o->((h.push (ZfC r)).push (ZhN C h.objs.size)).get? b=some o:=fun b o e=>Ye _ (Ye _ e);have hx:((h.push (ZfC r)).push (ZhN C h.objs.size)).get? (h.objs.size+1)=some (ZhN C h.objs.size):=by
  have:=Yl (h.push (ZfC r)) (o:=ZhN C h.objs.size) rfl;rwa [YJ]at this
 have t1:PySem.W.Looks (model P w) ((h.push (ZfC r)).push (ZhN C h.objs.size)) (typeOf (.ref (h.objs.size+1))) (.ref C):=(Looks.ld hx).andThen .now;have s1:=self.keeps kp;have i1:=hi'.keeps kp;have b1:=(hb (.ref (h.objs.size+1))).keeps kp;unfold isInstance callSpecial? specialOf;repeat (first|with_reducible refine YaD ?_|lk)
 refine Yat hq fun r s' z=>?_;rcases r with e|(v|_|_|_)<;>first|exact z|exact z.elim|skip
 obtain⟨rfl,z⟩:=z;exact Yd (Yd z)
end
end L2
set_option maxHeartbeats 4000000
namespace L2
open PySem PySem.Spec PyProof.Rows
section
def Zki(hC:s.heap.get? C=some ⟨oc,od,.cls cd,sl⟩)(up:PySem.W.Looks (model P w) s.heap (isSubtype (.ref C) (.type "ValueError")) true)(he:s.heap.get? e=some ob)(hc:ob.cls=.ref C)(hd:ob.data=.fields vs)(h0:vs[0]? = some (.ref t0))(k:Q .none { s with heap:=(s.heap.push (ZfC [v])).update e (Obj.mapFields (·.setIfInBounds 0 (.ref s.heap.objs.size))) }):wpAny (model P w) A (call (.builtin "ValueError.__init__") [.ref e,v]) Q E s:=by
 have X:=excClass_ValueError;have t1:PySem.W.Looks (model P w) s.heap (typeOf (.ref e)) (.ref C):=by
  have:=(Looks.ld (M:=model P w) (part:=none) he);exact this.andThen (by rw[hc];exact .now)
 have t2:PySem.W.Looks (model P w) s.heap (isInstance (.ref e) (.type "ValueError")) true:=t1.andThen up;refine YaD (codeAny_call_builtin X.init.plain X.initEntry ?_);simp only[checkBuiltinCall,X.initKind,X.initSplit,X.initSig];refine Yb (t2.here ?_);simp only[Bool.not_true,Y1,Yal];unfold Bind.checkArgs;dsimp only;unfold Bind.printed Bind.receiverType;rw[if_neg (by decide)];have tn:PySem.W.Looks (model P w) s.heap (typeNameWhole (.ref C)) cd.name.toString:=((Looks.ld (part:=none) hC).andThen .now).andThen .now;refine Yb ?_;show wpAny _ _ (typeOf (.ref e)>>=fun x=>typeNameWhole x>>=fun tp=>pure tp) _ _ _;refine Yb (t1.here (Yb (tn.here (Yd ?_))));rw[if_pos (by decide)];refine Yb (Yd ?_);show wpAny _ _ (Sem.onRaise (Bind.check _ _ _ _ []) _) _ _ _;rw[check_varPos];refine Yd ?_;unfold Builtin.«BaseException.__init__»;dsimp only;rw[if_neg (by simp)];unfold newTuple Builtin.BaseException.bexcPut;have hz:0<vs.size:=(Array.getElem?_eq_some_iff.mp h0).1;have he1:=Ye (h:=s.heap) (ZfC [v]) he;refine Yb (YO (Yb (Yb (Y9 he1 hd h0 (Yb (wpAny_setField he1 hd hz ?_))))) (by show 1<=sizeLine;decide));exact Yba (Yd k)
end
section
def Zuk(M:Model)(E:Value->Shared->Prop)(v:Value)(s1:Shared):Prop :=
 ∃(a C:Addr)(ob:Obj)(vs:Array Value),v=.ref a/\s1.heap.get? a=some ob/\ob.cls=.ref C/\ob.data=.fields vs/\vs[1]? = some .none/\Looks M s1.heap (isSubtype (.ref C) (.type "BaseException")) true/\Looks M s1.heap (typeOf (.ref C)) (.type "type")/\E (.ref a) s1
def Zj4(hh:A.handled=none)(h:wpAny M A (eval e env) (Zuk M E) E s):wpAny M A (exec (.Raise (some e) none pos) env) Q E s:=by
 show wpAny M A (do
           standAt pos;raiseStmt env (some (do let v <- eval e env;standAt pos;pure v)) none) Q E s
 refine Yb (YaF ?_);unfold raiseStmt;dsimp only;refine Yb (Yb (YG h (fun v s1 q=>Yb (YaF (Yd ?_))) fun _ _ z=>z));obtain⟨a,C,ob,vs,rfl,ha,hc,hd,h1,up,ty,hE⟩:=q;have t1:PySem.W.Looks M s1.heap (typeOf (.ref a)) (.ref C):=by
  have:=Looks.ld (M:=M) (part:=none) ha;exact this.andThen (by rw[hc];exact .now)
 have t2:PySem.W.Looks M s1.heap (isInstance (.ref a) (.type "BaseException")) true:=t1.andThen up;have nt:∀ {Q':Bool->Shared->Prop},Q' false s1->wpAny M A (isType (.ref a)) Q' E s1:=fun {Q'} z=>by
  simp only[isType,loadHead];refine Yb (wpAny_loadPart ha ?_);rw[hd];exact Yd z
 refine Yb (Yd ?_);dsimp only;refine Yb (YT ?_);unfold excFromValue isExcClass;refine Yb (Yb (nt ?_));simp only[Y1,Yal];refine Yd ?_;simp only[Y1,Yal];refine Yb (t2.here ?_);simp only[if_true];refine Yd (Yb (nt ?_));simp only[Y1,Yal];unfold raisedInstance;refine Yb (Yb (t1.here (Yb (ty.here ?_))));rw[if_pos (by decide)];refine Yd ?_;unfold setFlight raiseNew;refine Yb (Yb (Y9 ha hd h1 ?_));rw[if_neg (by decide)];refine Yd (Yb (wpAny_handled ?_));rw[hh];first
  | exact wpAny_throw hE
  | exact Yb (Yd (wpAny_throw hE))
end
def Ze2:(Obj.mapFields f o).dict=o.dict:=by
 obtain⟨c,d,dt,sl⟩:=o;cases dt<;>rfl
structure Lft (fs:List Addr) (h h':Heap) (e:Addr) (oe:Obj) (vs:Array Value) (T:Addr) (r:Value):Prop where
 oth:∀b o,b≠e->b∉fs->(∀T0,vs[1]? = some (.ref T0)->b≠T0)->h.get? b=some o->h'.get? b=some o
 frm:∀b o,b≠e->(∀T0,vs[1]? = some (.ref T0)->b≠T0)->h.get? b=some o->∃sl,h'.get? b=some { o with slots:=sl }
 exc:∃oe' vs',h'.get? e=some oe'/\oe'.cls=oe.cls/\oe'.dict=oe.dict/\oe'.data=.fields vs'/\vs'[1]? = some (.ref T)
 tb:T≠e/\(h.objs.size<=T\/vs[1]? = some (.ref T))/\∃oT ts,h'.get? T=some oT/\oT.data=.fields ts/\ts[3]? = some r
 old:∀T0,vs[1]? = some (.ref T0)->T0≠e->(∃o,h.get? T0=some o)->∃o,h'.get? T0=some o
section
variable{L e:Addr}
def ZeR(hfr:A.frames=some (env::outer))(hl:s.heap.FunFrames B (env::outer))(hf:env.frame=some L)(he:s.heap.get? e=some oe)(hd:oe.data=.fields vs)(hz:1<vs.size)(k:∀h' T,Lft ((env::outer).filterMap (·.frame)) s.heap h' e oe vs T (rawInt L)->Q () { s with heap:=h' }):
  wpAny M A (do
         let a <- frameOf env
         let pl <- entryPlaceOf L had
         let b <- EntryCells.newEntry head a .none (rawInt L) .none pl
         setField (.ref e) 1 b) Q E s:=by
 have hne:e∉(env::outer).filterMap (·.frame):=fun hm=>by
  obtain⟨_,o,ho,hnf⟩:=hl.mem hm;rw[he]at ho;cases ho;exact hnf vs hd
 refine Yb (wpAny_frameOf_fun hfr hl hf fun h1 hs1=>Yb (wpAny_entryPlaceOf fun pl hpl=>?_));unfold EntryCells.newEntry newFields;refine Yb (YO ?_ (hpl.sizeOk5 _ _ _ _ _));have he1:h1.get? e=some oe:=(hs1.2.1 e hne).trans he;generalize hO:({ cls:=.type "traceback",dict:=none,data:=.fields ([head,.ref L,.none,rawInt L,.none]++(if pl.isEmpty then List.replicate 6 Value.none else pl)).toArray }:Obj)=oT;have hOd:oT.data=.fields ([head,.ref L,.none,rawInt L,.none]++(if pl.isEmpty then List.replicate 6 Value.none else pl)).toArray:=by rw[<- hO]
 have he2:=Ye (h:=h1) oT he1;refine wpAny_setField he2 hd hz (k _ h1.objs.size ?_);have hTe:h1.objs.size≠e:=Yay (Ym he1);have d3:=YV hd (·.setIfInBounds 1 (Value.ref h1.objs.size));have g3:=YD (Obj.mapFields (·.setIfInBounds 1 (Value.ref h1.objs.size))) he2 (Obj.isFreed_of_fields d3);have hfr0:oT.isFreed=false:=by rw[<- hO];rfl
 have t3:=(YF (h1.push oT) (Obj.mapFields (·.setIfInBounds 1 (Value.ref h1.objs.size))) (Ne.symm hTe)).trans (Yl h1 hfr0);have keep:∀b o,b≠e->h1.get? b=some o->((h1.push oT).update e (Obj.mapFields (·.setIfInBounds 1 (Value.ref h1.objs.size)))).get? b=some o:=fun b o hbe hb=>by
  rw[YF _ _ (Ne.symm hbe)];exact Ye _ hb
 refine⟨fun b o hbe hbf _ hb=>keep b o hbe ((hs1.2.1 b hbf).trans hb),fun b o hbe _ hb=>?_,⟨_,_,g3,Obj.cls_mapFields _ _,Ze2,d3,by simp[hz]⟩,⟨hTe,.inl (Ycc (by first|exact hs1.1.symm|exact hs1.1)),⟨_,_,t3,hOd,by simp⟩⟩,fun T0 _ hne0 ⟨o,ho⟩=>?_⟩
 .obtain⟨sl,hs⟩:=hs1.2.2 b o hb;exact⟨sl,keep b _ hbe hs⟩
 .obtain⟨sl,hs⟩:=hs1.2.2 T0 o ho;exact⟨_,keep T0 _ hne0 hs⟩
def Zlk(hfr:A.frames=some (env::outer))(hl:s.heap.FunFrames B (env::outer))(hf:env.frame=some L)(he:s.heap.get? e=some oe)(hd:oe.data=.fields vs)(h1:vs[1]? = some .none\/∃T oT ts v,vs[1]? = some (.ref T)/\T≠e/\s.heap.get? T=some oT/\oT.data=.fields ts/\ts[3]? = some v/\(v=.none\/v=rawInt L))(k:∀h' T,Lft ((env::outer).filterMap (·.frame)) s.heap h' e oe vs T (rawInt L)->Q () { s with heap:=h' }):wpAny M A (noteFrame (.ref e) env) Q E s:=by
 unfold noteFrame;simp only[hf];rcases h1 with h1|⟨T,oT,ts,v,h1,hTe,hT,hdT,h3,hv⟩
 .refine Yb (Y9 he hd h1 ?_);rw[if_neg (by decide)];exact ZeR hfr hl hf he hd (Array.getElem?_eq_some_iff.mp h1).1 k
 .refine Yb (Y9 he hd h1 ?_);rw[if_pos (show(Value.ref T != Value.none)=true from by simp)];refine Yb (Y9 hT hdT h3 ?_);rcases hv with rfl|rfl
  .rw[if_neg (show ¬((Value.none==rawInt L)=true)from by simp[rawInt])];refine Yb (wpAny_setField hT hdT (Array.getElem?_eq_some_iff.mp h3).1 ?_);have oth:∀b,b≠T->(s.heap.update T (Obj.mapFields (·.setIfInBounds 3 Value.none))).get? b=s.heap.get? b:=fun b hb=>YF _ _ (Ne.symm hb);have nr:∀b o,s.heap.get? b=some o->(∀us,o.data≠.fields us)->b≠T:=fun b o hb hnf q=>by
    rw[q,hT]at hb;cases hb;exact hnf ts hdT
   refine ZeR (s:={ s with heap:=s.heap.update T (Obj.mapFields (·.setIfInBounds 3 Value.none)) }) hfr (hl.of_keeps fun b o hb hnf=>⟨o,(oth b (nr b o hb hnf)).trans hb,rfl⟩) hf ((oth e (Ne.symm hTe)).trans he) hd (Array.getElem?_eq_some_iff.mp h1).1 fun h' T' q=>k h' T' ?_;refine⟨fun b o x1 x2 x3 x4=>q.oth b o x1 x2 x3 ((oth b (x3 T h1)).trans x4),fun b o x1 x3 x4=>q.frm b o x1 x3 ((oth b (x3 T h1)).trans x4),q.exc,⟨q.tb.1,?_,q.tb.2.2⟩,fun T0 g0 g1 _=>q.old T0 g0 g1 ?_⟩
   .have:=q.tb.2.1;rwa [Heap.size_update]at this
   .rw[h1]at g0;cases g0;exact⟨_,YD _ hT (Obj.isFreed_of_fields (YV hdT _))⟩
  .rw[if_pos (show(rawInt L==rawInt L)=true from by simp)];exact Yd (k s.heap T ⟨fun _ _ _ _ _ z=>z,fun b o _ _ z=>⟨o.slots,z⟩,⟨oe,vs,he,rfl,rfl,hd,h1⟩,⟨hTe,.inr h1,oT,ts,hT,hdT,h3⟩,fun _ _ _ z=>z⟩)
def Zhf(he:s.heap.get? e=some oe)(hd:oe.data=.fields vs)(h1:vs[1]? = some (.ref T))(hTe:T≠e)(hT:s.heap.get? T=some oT)(hdT:oT.data=.fields ts)(h3:ts[3]? = some v)(k:∀h',Lft fs s.heap h' e oe vs T (fr.elim .none fun f=>rawInt f)->Q () { s with heap:=h' }):wpAny M A (setFlight (.ref e) fr) Q E s:=by
 unfold setFlight;refine Yb (Y9 he hd h1 ?_);rw[if_pos (show(Value.ref T != Value.none)=true from by simp)];have hz:=(Array.getElem?_eq_some_iff.mp h3).1;refine wpAny_setField hT hdT hz (k _ ?_);have d3:=YV hdT (·.setIfInBounds 3 (fr.elim Value.none fun f=>rawInt f));have g3:=YD (Obj.mapFields (·.setIfInBounds 3 (fr.elim Value.none fun f=>rawInt f))) hT (Obj.isFreed_of_fields d3);have oth:∀b o,(∀T0,vs[1]? = some (.ref T0)->b≠T0)->s.heap.get? b=some o->(s.heap.update T (Obj.mapFields (·.setIfInBounds 3 (fr.elim Value.none fun f=>rawInt f)))).get? b=some o:=fun b o hb hbo=>(YF _ _ (Ne.symm (hb T h1))).trans hbo;refine⟨fun b o _ _ x z=>oth b o x z,fun b o _ x z=>⟨o.slots,oth b o x z⟩,⟨oe,vs,(YF _ _ hTe).trans he,rfl,rfl,hd,h1⟩,⟨hTe,.inr h1,_,_,g3,d3,by simp[hz]⟩,fun T0 g0 _ _=>?_⟩;rw[h1]at g0;cases g0;exact⟨_,g3⟩
end
structure Zlr (M:Model) (h:Heap) (C D:Addr) (b:Bool):Prop where
 nt:PySem.W.Looks M h (isInstance (.ref D) (.type "tuple")) false
 ty:PySem.W.Looks M h (isType (.ref D)) true
 ex:PySem.W.Looks M h (isSubtype (.ref D) (.type "BaseException")) true
 sb:PySem.W.Looks M h (isSubtype (.ref C) (.ref D)) b
section
def ZeY(he:s.heap.get? e=some ob)(hc:ob.cls=.ref C)(c:Zlr M s.heap C D b)(k:Q b s):wpAny M A (excMatches (.ref e) (.ref D)) Q E s:=by
 have t1:PySem.W.Looks M s.heap (typeOf (.ref e)) (.ref C):=by
  have:=Looks.ld (M:=M) (part:=none) he;exact this.andThen (by rw[hc];exact .now)
 unfold excMatches;refine Yb (c.nt.here ?_);simp only[Y1,Yal];refine Yb (Yd ?_);have hx:PySem.W.Looks M s.heap (isExcClass (.ref D)) true:=by
  unfold isExcClass;exact c.ty.andThen c.ex
 refine Yb ?_;rw[Ybo];refine Yb (Yb (hx.here ?_));rw[if_neg (by decide)];refine Yd ?_;dsimp only;rw[List.forIn_nil];refine Yd (Yb (t1.here (Yb ?_)));rw[Ybo];refine Yb (Yb (c.sb.here ?_));cases b with
 | true =>
  rw[if_pos rfl];exact Yd (Yd (Yd k))
 | false =>
  rw[if_neg (by decide)];refine Yd ?_;dsimp only;rw[List.forIn_nil];exact Yd (Yd k)
end
section
variable{rest:List ExceptHandler}
def Ze4(h:wpAny (model P w) (A.mark (some (.ref e))) (eval t env) (fun c s1=>c=.ref D/\(∃ ob,s1.heap.get? e=some ob/\ob.cls=.ref C)/\Zlr (model P w) s1.heap C D true /\
   wpAny (model P w) (A.mark (some (.ref e))) (setFlight (.ref e) none) (fun _ s2=>wpAny (model P w) (A.mark (some (.ref e))) (storeName env n (.ref e)) (fun _ s3=>wpAny (model P w) (A.mark (some (.ref e))) (execs (b0::su) env)
    (fun f s4=>wpAny (model P w) A (do bindName env n .none;unbindBehindTheSuite env n pos) (fun _ s5=>Q f s5) E s4) (fun _ _=>False) s3) (fun _ _=>False) s2) (fun _ _=>False) s1) (fun _ _=>False) s):
  wpAny (model P w) A (handleBy (.ref e) env (.ExceptHandler (some t) (some n) (b0::su) pos::rest)) Q E s:=by
 refine wpAny_handleBy_cons (codeAny_handlers_test (YG h (fun c s1 q=>?_) fun _ _ x=>x.elim)) (by intro q;cases q);obtain⟨rfl,⟨ob,he,hc⟩,hx,hk⟩:=q;refine ZeY he hc hx ?_;exact codeAny_handlers_suite_as (YG hk (fun _ s2 h2=>YG h2 (fun _ s3 h3=>YG h3 (fun f s4 h4=>h4) fun _ _ z=>z.elim) fun _ _ z=>z.elim) fun _ _ z=>z.elim)
end
def rmH(H:Hp)(a:Addr):Hp:=fun b=>if b=a then none else H b
def Zb5:rmH H a a=none:=if_pos rfl
def ZeI(h:b≠a):rmH H a b=H b:=if_neg h
def Zgs(h:H b=none):rmH H a b=none:=by
 by_cases e:b=a
 .rw[e];exact Zb5
 .rw[ZeI e];exact h
section
def Inv.forget(I:Inv X pins σ H s)(h:H a=some (.ext φ)):Inv X pins σ (rmH H a) s:=by
 have kp:∀b o,H b=some o->(∀ψ,o≠.ext ψ)->rmH H a b=some o:=fun b o hb hn=>by
  rw[ZeI fun e=>by rw[e,h]at hb;cases hb;exact hn φ rfl];exact hb
 have u:=I.base;refine⟨I.ok,I.os,I.bare,⟨u.keep,u.slot,fun b o x y z=>Zgs (u.free b o x y z),u.there,fun b xs z=>kp b _ (u.tups b xs z) (fun _ e=>nomatch e),fun b o v z=>kp b _ (u.frzs b o v z) (fun _ e=>nomatch e),fun b ps z=>?_⟩,I.loc,I.cell,Zgs I.free,fun x c z=>Zgs (I.freeC x c z),fun p hp=>?_,fun c v hc=>?_,I.len⟩
 .obtain⟨m,y⟩:=u.tbls b ps z;exact⟨m,kp b _ y (fun _ e=>nomatch e)⟩
 .obtain⟨p1,p2,p3⟩:=I.pin p hp;exact⟨p1,Zgs p2,p3⟩
 .have hca:c≠a:=fun e=>by rw[e,Zb5]at hc;cases hc
  rw[ZeI hca]at hc;exact(I.hok c v hc).stay (fun _ _ _ z=>z) (fun b z=>kp b _ z (fun _ e=>nomatch e)) fun b xs z=>kp b _ z (fun _ e=>nomatch e)
end
open PySem PySem.Spec PyProof.Rows Builtin Builtin.ObjectAttr
def xbm:List Value:=[.type "ValueError",.type "Exception",.type "BaseException",.type "object"]
def ZtG:Value->Bool
 | .ref _=>true
 | _=>false
def ZoB(K:YFr)(C:Addr):Bool:=(clsIn K C).any fun cd=>cd.mro.contains (.type "object")&&cd.mro.dropWhile ZtG==xbm
def ZnT(self:Value)(l:List Value)(h:l.dropWhile ZtG=xbm):refuseLoop self "__setattr__" l=pure ():=by
 induction l with
 | nil=>cases h
 | cons a l ih =>
  cases a with
  | ref C =>
   rw[refuseLoop_ref];exact ih h
  | _ =>
   rw[show _::l=xbm from h];exact PySem.F.store_ValueError.passes self
section
variable{K:YFr}
def Zj3(X:K.In s.heap)(I:PySem.W.InstAt s.heap x ox C od)(hp:ZoB K C=true)(ht:PySem.W.takerIn K C name=some none)(h : ∀ b,wpAny (model prog w) A.in1 (storeInOwnDict (.ref x) (.ref C) (.str name tk) name v b)
   (fun fin s'=>match fin with|.done f=>R (.ok f) s'|.again c'=>c'.quiet=true/\codeAny (model prog w) A c' R s') (fun e s'=>R (.error e) s') s):
  codeAny (model prog w) A (.call (.builtin "object.__setattr__") ⟨[.ref x,.str name tk,v],[]⟩) R s:=by
 have SF:=PySem.F.store_ValueError;obtain⟨cd,hc,ho⟩:=any_some hp;rw[YU]at ho;have ho2:cd.mro.dropWhile ZtG=xbm:=by simpa using ho.2
 have ne:cd.mro.isEmpty=false:=by cases q:cd.mro with|nil=>rw[q]at ho2;cases ho2|cons _ _=>rfl
 have sub:PySem.W.Looks (model prog w) s.heap (isInstance (.ref x) (.type "object")) true:=I.type.andThen (looks_mroIn X (by unfold mroIn;rw[hc,Option.bind_some,if_neg (by rw[ne];decide),ho.1]));refine codeAny_call_builtin SF.slot.plain SF.entry (@PySem.W.check_slot (model prog w) _ _ s "object.__setattr__" "object" "__setattr__" (.ref x) [.str name tk,v] [] _ SF.kind SF.split sub (SF.args (.ref x) (.str name tk) v) ?_);obtain⟨attr,ha,hr⟩:=Option.bind_eq_some_iff.mp ht;have hm:PySem.W.Looks (model prog w) s.heap (mroOf (.ref C)) cd.mro:=(looks_clsIn X hc).andThen .now;have L3:PySem.W.Looks (model prog w) s.heap (storeTaker? attr) none:=by
  cases attr with
  | none=>exact .now
  | some a =>
   obtain⟨b,hb,hb2⟩:=YK.mp hr;refine(PySem.W.looks_takesIn X hb).andThen ?_;cases b
   .exact .now
   .cases hb2
 rw[osa_eq,refuse_eq];refine Yb (Yb (I.type.here (Yb (hm.here ?_))));rw[ZnT _ _ ho2];exact Yd (Yb (I.type.here (Yb ((looks_findIn X ha).here (Yb (L3.here (h _)))))))
def ZjM(X:K.In s.heap)(hx:s.heap.get? x=some ox)(hcl:ox.cls=.ref C)(hdn:ox.dict=none)(hd:ox.data=.fields vs)(hs:PySem.W.findIn K (.ref C) "__setattr__"=some (some (.builtin "object.__setattr__")))(hp:ZoB K C=true)(ht:PySem.W.takerIn K C name=some none)(hh:PySem.W.hasDictIn K C=true)(h:∀h',h'.get? x=some { ox with dict:=some s.heap.objs.size }->h'.Ns1 s.heap.objs.size (fun y=>if y=name then some v else none)->(∀b o,b≠x->s.heap.get? b=some o->h'.get? b=some o)->Q () { s with heap:=h',toks:=s.toks+2 }):
  wpAny (model prog w) A (setAttr (.ref x) name v) Q E s:=by
 obtain⟨oc,odi,oda,osl⟩:=ox;dsimp only at hcl hdn hd;subst hcl hdn hd;have J:PySem.W.InstAt s.heap x ⟨.ref C,none,.fields vs,osl⟩ C none:=⟨hx,rfl,rfl,trivial⟩;refine set_plain X J hs (Zj3 (s:={ s with toks:=s.toks+1 }) X J hp ht fun b=>?_);obtain⟨cd,hc,hd'⟩:=any_some hh;refine Yb (Yd (Yb (Yb (wpAny_loadPart hx (Yb (Looks.here (s:={ s with toks:=s.toks+1 }) (looks_clsIn X hc) ?_))))));rw[hd'];have hx1:(s.heap.push { cls:=.type "dict",data:=.dict #[] }).get? x=some ⟨.ref C,none,.fields vs,osl⟩:=Ye _ hx;have hxs:x≠s.heap.objs.size:=Yo (Ym hx);have hgd:((s.heap.push { cls:=.type "dict",data:=.dict #[] }).update x fun o=>{ cls:=o.cls,dict:=some s.heap.objs.size,data:=o.data,slots:=o.slots }).get? s.heap.objs.size=some { cls:=.type "dict",data:=.dict #[] } :=
  (Heap.get?_update_ne _ _ _ _ hxs.symm).trans (Heap.get?_push_at rfl rfl)
 have hnd:((s.heap.push { cls:=.type "dict",data:=.dict #[] }).update x fun o=>{ cls:=o.cls,dict:=some s.heap.objs.size,data:=o.data,slots:=o.slots }).Ns s.heap.objs.size (fun _=>none) :=
  ⟨_,#[],_,hgd,rfl,fun e he=>absurd he (by simp),fun _=>rfl⟩
 refine Yb (wpAny_alloc' (Yb (wpAny_update' hx1 (Yd ?_))));show wpAny _ _ (storeInDict s.heap.objs.size (.str name _) name v) _ _ _;unfold storeInDict newKeyGuard;refine Yb (Yd (Yb (wpAny_nsSet1 (Heap.Ns1.of_empty hnd) fun h' hn' hs'=>?_)));obtain⟨oD,esD,epD,hoD,hdD,hcD⟩:=hn'.count (Within.cons name v Within.nil);refine Yb (wpAny_lookBehind hoD (by rw[hdD];exact pastItsLine_dict (YB hcD (by rw[List.length_cons,List.length_nil,Y8];lia))) ?_);refine Yd (h h' ?_ hn' fun b o hb hbo=>?_)
 .exact(hs'.2 x hxs).trans (YD _ hx1 rfl)
 .exact(hs'.2 b (Yo (Ym hbo))).trans ((Heap.get?_update_ne _ _ _ _ hb).trans (Ye _ hbo))
end
structure XCl (K:YFr) (C f:Addr):Prop where
 makes:ZfY K C=true
 init:PySem.W.findIn K (.ref C) "__init__"=some (some (.ref f))
 fn:PySem.W.isFn K (.ref f)=true
 kp:PySem.W.keepIn K (.ref C)=true
 sa:PySem.W.findIn K (.ref C) "__setattr__"=some (some (.builtin "object.__setattr__"))
 over:ZoB K C=true
 hd:PySem.W.hasDictIn K C=true
 up:PySem.W.mroIn K C (.type "BaseException")=some true
 upv:PySem.W.mroIn K C (.type "ValueError")=some true
 ty:PySem.W.typeIn K (.ref C)=some (.type "type")
structure Zlw (K:YFr) (F:Addr):Prop where
 ga:PySem.W.specialIn K (.ref F) "__getattribute__"=some (some (.builtin "type.__getattribute__"))
 rd:PySem.W.readsIn K F (.type "type")=true
 fc:PySem.W.findCls K (.ref F) (.type "type") "__init__"=some (.val (.builtin "ValueError.__init__"))
structure ZaG (K:YFr) (C D:Addr) (b:Bool):Prop where
 nt:PySem.W.instIn K (.ref D) (.type "tuple")=some false
 ty:PySem.W.isClsIn K D=true
 ex:PySem.W.mroIn K D (.type "BaseException")=some true
 sb:PySem.W.mroIn K C (.ref D)=some b
 kp:PySem.W.keepIn K (.ref D)=true
def XO(a C:Addr)(dx:Option Addr):HO:=.ext fun h=>∃ob vs t0,h.get? a=some ob/\ob.cls=.ref C/\ob.dict=dx/\ob.data=.fields vs/\vs[0]? = some (.ref t0)/\vs[1]? = some .none
section
def XO.ok(h1:h.get? a=some ob)(h2:ob.cls=.ref C)(h3:ob.dict=dx)(h4:ob.data=.fields vs)(h5:vs[0]? = some (.ref t0))(h6:vs[1]? = some .none):ZaO P w H h a (XO a C dx) :=
 ⟨⟨ob,vs,t0,h1,h2,h3,h4,h5,h6⟩,⟨ob,h1⟩,fun h1 h2 ⟨ob,vs,t0,q1,q⟩ k=>⟨ob,vs,t0,k _ q1,q⟩⟩
def XO.get(hk:HOk P w H h)(e:H a=some (XO a C dx)):∃ob vs t0,h.get? a=some ob/\ob.cls=.ref C/\ob.dict=dx/\ob.data=.fields vs/\vs[0]? = some (.ref t0)/\vs[1]? = some .none:=(hk a _ e).1
end
def Zlz(h:H a=some o):upd H a o=H:=by
 funext b;by_cases e:b=a
 .rw[e,Zv,h]
 .rw[Zr e]
def Zur(K:YFr)(t:TA):TE:=fun σ H Q=>t σ H fun vs H1=>∃x C g v,vs=[.ref x,v]/\H1 x=some (XO x C none)/\XCl K C g/\Q .non H1
def Zoa(K:YFr)(ta tv:TE)(f:Str):TS:=fun D σ H=>tv σ H fun y H1=>ta σ H1 fun x H2=>∃a C g,x=.ref a/\H2 a=some (XO a C none)/\XCl K C g/\ZaE K C f/\∀dx,H2 dx=none->dx≠a->D.nx σ (upd (upd H2 dx (.xd [(f,y)])) a (XO a C (some dx)))
section
def ZiW(b:Zlw X.K F)(hg:Gl X x)(hm:X.mg x=some (.ref F))(ha:PA X (e::es) t)(hdb:(x == ("__debug__":Str))=false:=by decide)(hst:starEach (e::es) X.env=(false,eval e X.env)::starEach es X.env:=by rfl)(hpl:(backTo pos (starEach es X.env)).any (·.1)=false:=by rfl)(ht : eval (.Call (.Attribute (.Name x p) "__init__" apos) (e::es) [] pos) X.env=(do
   let ov <- eval (.Name x p) X.env
   standAt apos.atName
   let(f,first) <- holding [ov] (getMethod ov "__init__" pl)
   callWith pos f first (backTo pos (starEach (e::es) X.env)) (backToKw pos (keywordEach [] X.env))):=by rfl):
  PE X (.Call (.Attribute (.Name x p) "__init__" apos) (e::es) [] pos) (Zur X.K t):=by
 intro pins s σ H Q I h
 refine methodCall_KW (pl:=pl) (Za0 I hg hm ?_ hdb) ht
 refine PySem.W.method_cls I.kIn b.ga (PySem.W.cls_value I.kIn b.rd b.fc (by decide +kernel) ?_)
 have I0:=I.tok (s.toks+1)
 refine callWith_builtin1 (thn (ha pos pins _ σ H _ I0 h) fun us s1 ⟨vs,H1,I1,r1,q1⟩=>?_) hst hpl
 obtain⟨a,C,g,v,rfl,hx,c,q⟩:=q1
 cases r1 with
 | cons ra r1 =>
 cases r1 with
 | @cons _ u2 _ _ rv r1 =>
 cases r1
 cases ra
 obtain⟨ob,fs,t0,ho,hc,hd,hf,h0,h1⟩:=XO.get I1.hok hx
 obtain⟨cd,hcd,_⟩:=any_some c.hd
 obtain⟨oc,od,sl,hC⟩:∃oc od sl,s1.heap.get? C=some ⟨oc,od,.cls cd,sl⟩:=by
  unfold clsIn at hcd
  split at hcd
  .rename_i oc od cd' sl hl
   cases hcd
   exact⟨oc,od,sl,I1.kIn _ _ hl⟩
  .cases hcd
 have hup:=looks_mroIn (M:=model X.prog X.w) I1.kIn c.upv
 refine Zki hC hup ho hc hf h0 ⟨.non,H1,?_,rfl,q⟩
 have hz:0<fs.size:=(Array.getElem?_eq_some_iff.mp h0).1
 have hob:=Ye (h:=s1.heap) (ZfC [u2]) ho
 have g3:=YD (Obj.mapFields (·.setIfInBounds 0 (Value.ref s1.heap.objs.size))) hob (Obj.isFreed_of_fields (YV hf _))
 have:=I1.write (t':=s1.toks) (x:=a) (e:=a) (o:=XO a C none) (h':=(s1.heap.push (ZfC [u2])).update a (Obj.mapFields (·.setIfInBounds 0 (.ref s1.heap.objs.size)))) (by rw[hx];exact True.intro) (.inl rfl)
  (fun b u hb q=>(YF _ _ (Ne.symm hb)).trans (Ye _ q)) ⟨_,g3⟩
  (XO.ok g3 ((Obj.cls_mapFields _ _).trans hc) (Ze2.trans hd) (YV hf _) (t0:=s1.heap.objs.size) (by simp[hz]) (by rw[<- h1];simp))
 rwa [Zlz hx]at this
def ZfI(ha:PE X o ta)(hv:PE X value tv)(hs:swapsWith value (some (.Attribute o f pos')) pos.line X.env=pure false:=by rfl):PS X (.Assign [.Attribute o f pos'] value pos) (Zoa X.K ta tv f):=by
 intro pins s σ H D I h;refine plainObj_wpAny_Assign_Attribute (thn (hv pins s σ H _ I h) fun u s1 ⟨y,H1,I1,ry,q⟩=>thn (ha pins s1 σ H1 _ I1 q) fun ov s2 ⟨x,H2,I2,rx,a,C,g,ex,ea,c,n,q2⟩=>?_) hs;subst ex;obtain rfl:ov=Value.ref a:=rx;obtain⟨ob,fs,t0,ho,hc,hd,hf,h0,h1⟩:=XO.get I2.hok ea;refine ZjM I2.kIn ho hc hd hf c.sa c.over n.taker c.hd fun h' g1 g2 g3=>?_;have hlt:=Ym ho;have hne:s2.heap.objs.size≠a:=Yay hlt;refine⟨σ,_,?_,q2 s2.heap.objs.size (I2.hok.fresh (Yj _)) hne⟩;obtain⟨oD,es',ep,hD,hrest⟩:=id g2;have hfr:oD.isFreed=false:=(Heap.get?_some_iff.mp hD).2;have hp:=Yl s2.heap (o:=oD) hfr;have J:=I2.laid (a:=s2.heap.objs.size) (o:=.xd [(f,y)]) (h':=s2.heap.push oD) (t':=s2.toks+2) (fun b u q=>Ye _ q) (Yj _) ?_
 .refine J.write (t':=s2.toks+2) (x:=a) (e:=a) (h':=h') (by rw[Zr hne.symm,ea];exact True.intro) (.inl rfl) (fun b u hb q=>?_) ⟨_,g1⟩ (XO.ok g1 hc rfl hf h0 h1);by_cases e:b=s2.heap.objs.size
  .subst e;rw[hp]at q;cases q;exact hD
  .refine g3 b u hb ?_;rw[<- q];exact(Heap.get?_push_ne _ _ _ e).symm
 .refine⟨_,Heap.Ns1.at (h:=h') g2 fun o q=>?_,fun g=>?_⟩
  .rw[hD]at q;cases q;exact hp
  .show Zfs (List.lookup g [(f,y)]) (if g=f then some u else none);by_cases e:g=f
   .rw[if_pos e,List.lookup_cons,beq_iff_eq.mpr e];exact ry
   .rw[if_neg e,List.lookup_cons,Yv.mpr e];exact True.intro
end
def StT(h:Heap)(H:Hp)(n:Addr->Prop)(z:Prop)(r:Value->Prop)(a:Addr)(vs:Array Value):Prop :=
 (z/\vs[1]? = some .none)\/∃T oT ts v,vs[1]? = some (.ref T)/\T≠a/\n T/\h.get? T=some oT/\oT.data=.fields ts/\ts[3]? = some v/\H T=none/\r v
def Flo(h:Heap)(H:Hp)(n:Addr->Prop)(E:XK)(z:Prop)(r:Value->Prop)(a:Addr):Prop :=
 ∃C dx ob vs,n a/\H a=none/\h.get? a=some ob/\ob.cls=.ref C/\ob.dict=some dx/\ob.data=.fields vs/\StT h H n z r a vs/\E (.ref C) (some dx) H
def CXX(P:Program)(w:World):CXT:=fun outer H s E e s'=>∃a H',e=.ref a/\s'.os=s.os/\AllBare s'.gens/\Un (frs outer) [] H H' s.heap s'.heap/\HOk P w H' s'.heap/\Flo s'.heap H' (s.heap.objs.size<=·) E False (·=.none) a
def New(X:Cx)(pins:List (Addr×Obj))(b:Addr):Prop:=X.s₀.heap.objs.size<=b/\∀p∈X.pn++pins,p.1≠b
def ZhK(X:Cx)(pins:List (Addr×Obj))(σ:St)(E:XK)(z:Prop)(r:Value->Prop)(a:Addr)(s:Shared):Prop:=∃H,Inv X pins σ H s/\Flo s.heap H (New X pins) E z r a
def Zpf(X:Cx):Value->Prop:=fun v=>v=.none\/v=rawInt X.env.locals
def XF(X:Cx)(E:XK):Value->Shared->Prop:=fun e s=>∃a σ,e=.ref a/\ZhK X [] σ E True (Zpf X) a s
structure Bod (X:Cx):Prop where
 st:X.stack=X.env::X.outer
 fr:X.env.frame=some X.env.locals
section
def Flo.weak(f:Flo h H n E z r a)(hm:∀b,n b->m b)(hz:z->z')(hr:∀v,r v->r' v):Flo h H m E z' r' a:=by
 obtain⟨C,dx,ob,vs,f1,f2,f3,f4,f5,f6,st,q⟩:=f;refine⟨C,dx,ob,vs,hm _ f1,f2,f3,f4,f5,f6,?_,q⟩;rcases st with⟨x,y⟩|⟨T,oT,ts,v,t1,t2,t3,t4,t5,t6,t7,t8⟩
 .exact .inl ⟨hz x,y⟩
 .exact .inr ⟨T,oT,ts,v,t1,t2,hm _ t3,t4,t5,t6,t7,hr v t8⟩
def ZhK.xf{b:Prop}(f:ZhK X [] σ E z r a s)(hr:∀v,r v->Zpf X v):XF X E (.ref a) s:=by
 obtain⟨H,I,f⟩:=f;exact⟨a,σ,rfl,H,I,f.weak (fun _ z=>z) (fun _=>trivial) hr⟩
def Inv.unpin(I:Inv X pins σ H s):Inv X [] σ H s:=I.pins_of fun p hp=>absurd hp (by simp)
def Inv.newA(I:Inv X pins σ H s)(h:s.heap.objs.size<=b):New X pins b:=⟨YB I.sz h,fun p hp e=>absurd (Ym (I.pin p hp).1) (by rw[e];exact Nat.not_lt.mpr h)⟩
def Zgk(B:Bod X)(I:Inv X pins σ H s)(f1:New X pins a)(f2:H a=none)(f3:s.heap.get? a=some ob)(f4:ob.cls=.ref C)(f5:ob.dict=some dx)(f6:ob.data=.fields vs)(st:StT s.heap H (New X pins) z r a vs)(q:E (.ref C) (some dx) H)(l:Lft (frs X.stack) s.heap h' a ob vs T v'):ZhK X pins σ E False (·=v') a { s with heap:=h' }:=by
 have hT0:∀T0,vs[1]? = some (.ref T0)->T0≠a/\New X pins T0/\H T0=none/\∃o ts,s.heap.get? T0=some o/\o.data=.fields ts:=fun T0 h0=>by
  rcases st with⟨_,y⟩|⟨T,oT,ts,v,t1,t2,t3,t4,t5,t6,t7,t8⟩
  .rw[y]at h0;cases h0
  .rw[t1]at h0;cases h0;exact⟨t2,t3,t7,oT,ts,t4,t5⟩
 obtain⟨ch,hch⟩:∃ch:List Addr,∀b,b∈ch↔(b=a\/vs[1]? = some (.ref b)):=by
  rcases st with⟨_,y⟩|⟨T,oT,ts,v,t1,t2,t3,t4,t5,t6,t7,t8⟩
  .exact⟨[a],fun b=>by rw[y];simp⟩
  .exact⟨[a,T],fun b=>by rw[t1];simp[eq_comm]⟩
 have nfld:∀b o ts,s.heap.get? b=some o->o.data=.fields ts->b≠X.env.locals/\∀x c,X.env.cells.lookup x=some c->c≠b:=fun b o ts hb hd=>by
  refine⟨fun e=>?_,fun x c hc e=>?_⟩
  .obtain⟨m,⟨o',es,ep,ho,rr⟩,_⟩:=I.loc;rw[<- e,hb]at ho;cases ho;rw[rr.1]at hd;cases hd
  .obtain⟨v,o',ho,hv⟩:=I.cell x c hc;rw[e,hb]at ho;cases ho;rw[hv]at hd;cases hd
 have hok:HOk X.prog X.w H h':=fun c v hcv=>by
  have tr:∀b v,H b=some v->∀o,s.heap.get? b=some o->h'.get? b=some o:=fun b v hbv o ho=>by
   refine l.oth b o (fun e=>by rw[e,f2]at hbv;cases hbv) (fun m=>?_) (fun T0 h0 e=>by rw[e,(hT0 T0 h0).2.2.1]at hbv;cases hbv) ho;rw[I.stkFree b m]at hbv;cases hbv
  exact(I.hok c v hcv).stay (fun b u hb ho=>hb.elim (fun e=>tr b v (e▸hcv) u ho) fun e=>tr b _ e u ho) (fun _ z=>z) fun _ _ z=>z
 have nch:∀b,b∉ch->b≠a/\∀T0,vs[1]? = some (.ref T0)->b≠T0:=fun b hb=>⟨fun e=>hb ((hch b).mpr (.inl e)),fun T0 h0 e=>hb ((hch b).mpr (.inr (e▸h0)))⟩;have u:Un (frs X.stack) ch H H s.heap h':=⟨fun b o hb _ hf hc=>l.oth b o (nch b hc).1 hf (nch b hc).2 hb,fun b o hb _ _ hc=>l.frm b o (nch b hc).1 (nch b hc).2 hb,fun _ _ _ n _=>n,fun b o hb hc=>?_,fun _ _ e=>e,fun _ _ _ e=>e,fun b ps e=>⟨#[],by rw[e];simp⟩⟩
 .have J:Inv X pins σ H { s with heap:=h' }:=I.call (g':=s.gens) (d':=s.drawn) (t':=s.toks) u hok I.bare fun b hb=>?_
  .obtain⟨oe',vs',g1,g2,g3,g4,g5⟩:=l.exc;obtain⟨t1,t2,oT,ts,t3,t4,t5⟩:=l.tb;exact⟨H,J,C,dx,oe',vs',f1,f2,g1,g2.trans f4,g3.trans f5,g4,.inr ⟨T,oT,ts,v',g5,t1,t2.elim (fun x=>I.newA x) fun x=>(hT0 T x).2.1,t3,t4,t5,t2.elim (fun x=>I.hok.fresh x) fun x=>(hT0 T x).2.2.1,rfl⟩,q⟩
  .rcases(hch b).mp hb with e|e
   .have:=nfld a ob vs f3 f6;subst e;exact⟨.inr f1.1,this.1,this.2,f1.2⟩
   .obtain⟨y1,y2,y3,o,ts,y4,y5⟩:=hT0 b e;have:=nfld b o ts y4 y5;exact⟨.inr y2.1,this.1,this.2,y2.2⟩
 .obtain⟨sl,x⟩:=l.frm b o (nch b hc).1 (nch b hc).2 hb;exact⟨_,x⟩
def ZcK(B:Bod X)(f:ZhK X pins σ E z (Zpf X) a s)(k:∀s',ZhK X pins σ E False (·=rawInt X.env.locals) a s'->Q () s'):wpAny (model X.prog X.w) X.A (noteFrame (.ref a) X.env) Q R s:=by
 obtain⟨H,I,C,dx,ob,vs,f1,f2,f3,f4,f5,f6,st,q⟩:=f;have hF:=I.stack;rw[B.st]at hF;refine Zlk (B:=X.base) (I.ok.frames.trans (by rw[B.st])) hF B.fr f3 f6 ?_ fun h' T l=>k _ (Zgk B I f1 f2 f3 f4 f5 f6 st q (by rw[B.st];exact l));rcases st with⟨_,y⟩|⟨T,oT,ts,v,t1,t2,t3,t4,t5,t6,t7,t8⟩
 .exact .inl y
 .exact .inr ⟨T,oT,ts,v,t1,t2,t4,t5,t6,t8⟩
def Zcq(B:Bod X)(f:ZhK X pins σ E False r a s)(k:∀s',ZhK X pins σ E False (·=fr.elim .none fun f=>rawInt f) a s'->Q () s'):wpAny (model X.prog X.w) A (setFlight (.ref a) fr) Q R s:=by
 obtain⟨H,I,C,dx,ob,vs,f1,f2,f3,f4,f5,f6,st,q⟩:=f;have st':=st;rcases st with⟨y,_⟩|⟨T,oT,ts,v,t1,t2,t3,t4,t5,t6,t7,t8⟩
 .exact y.elim
 .exact Zhf f3 f6 t1 t2 t4 t5 t6 fun h' l=>k _ (Zgk B I f1 f2 f3 f4 f5 f6 st' q l)
def Zgq(B:Bod X):PassesOwn (model X.prog X.w) X.A X.env (XF X E):=by
 rintro e s ⟨a,σ,rfl,f⟩;refine ZcK B f fun s1 f1=>?_;have f1':=f1;obtain⟨H,I,C,dx,ob,vs,_,_,f3,_,_,f6,st,_⟩:=f1;rcases st with⟨y,_⟩|⟨T,oT,ts,v,t1,t2,t3,t4,t5,t6,t7,t8⟩
 .exact y.elim
 .refine Yb (Y9 f3 f6 t1 ?_);rw[if_neg (by simp)];refine Zcq B f1' fun s2 f2=>f2.xf (b:=True) fun v hv=>.inr ?_;rw[hv,B.fr];rfl
def ZjV(B:Bod X):ZbX (CXX X.prog X.w) (X.wish (XF X E)) E:=by
 rintro pins σ H s e s' I ⟨a,H',rfl,hos,hg,u,hok,f⟩;exact⟨a,σ,rfl,H',I.unwish.unpin.call' (ch:=[]) hos u hok hg fun b hb=>absurd hb (by simp),f.weak (fun b h=>I.unwish.unpin.newA h) (fun z=>z.elim) fun v hv=>.inl hv⟩
end
section
variable{K:YFr}
def Zcv:Bod (Zds CX P w K mg base N qual scope f cd A outer s0 H0 E):=⟨rfl,rfl⟩
def Zn5(h:XF (Zds (CXX P w) P w K mg base N qual scope f cd A outer s0 H0 E) E e s):(Zds (CXX P w) P w K mg base N qual scope f cd A outer s0 H0 E).xe e s:=by
 obtain⟨a,σ,rfl,h⟩:=h;refine Yb (ZcK Zcv h fun s1 h1=>Zcq (A:=A.deeper (envOfC qual scope s0.heap.objs.size f cd)) Zcv h1 fun s2 h2=>?_);obtain⟨H,I,q⟩:=h2;exact⟨a,H,rfl,I.os,I.bare,I.base,I.hok,q.weak (fun b h=>h.1) (fun z=>z) fun _ z=>z⟩
def Zm7{st:List Stmt}(h:PSs ((Zds (CXX P w) P w K mg base N qual scope f cd A outer s0 H0 E).wish (XF (Zds (CXX P w) P w K mg base N qual scope f cd A outer s0 H0 E) E)) st t):PSs (Zds (CXX P w) P w K mg base N qual scope f cd A outer s0 H0 E) st t:=fun pins s σ H D I hw =>
 YG (h pins s σ H D (I.wish _) hw) (fun _ _ q=>q.unwish) fun _ _ q=>Zn5 q
end
def Un.kp{K:YFr}(u:Un fs ex H H' h h'):Kp K H H':=⟨fun a xs q=>by
 rcases q with(q|⟨o,q⟩)|q
 .exact .inl (.inl (u.tups _ _ q))
 .exact .inl (.inr ⟨o,u.frzs _ _ _ q⟩)
 .exact .inr q,fun a xs q=>by
 rcases q with⟨o,q⟩|q
 .exact .inl ⟨o,u.frzs _ _ _ q⟩
 .exact .inr q,fun a o v q=>u.frzs _ _ _ q⟩
def Zji(K:YFr)(H0:Hp)(C:Addr)(sp:Sp)(E:XK)(t:TA):TS:=fun _ σ H=>t σ H fun vs H1=>Kp K H0 H1->∀x,H1 x=none ->
 sp (.ref x::vs) (upd H1 x (XO x C none)) (fun v H2=>v=.non/\∃dx,H2 x=some (XO x C (some dx))/\E (.ref C) (some dx) (rmH H2 x)) E0
def ZmP(K:YFr)(H0:Hp)(sp:Sp)(E:XK)(t:TA):TE:=fun σ H Q=>t σ H fun vs H1=>Kp K H0 H1->sp vs H1 Q E
section
def Inv.madeX(I:Inv X pins σ H s):Inv X pins σ (upd H (s.heap.objs.size+1) (XO (s.heap.objs.size+1) C none)) { s with heap:=(s.heap.push (ZfC us)).push (ZhN C s.heap.objs.size) }:=by
 have e2:((s.heap.push (ZfC us)).push (ZhN C s.heap.objs.size)).get? (s.heap.objs.size+1)=some (ZhN C s.heap.objs.size):=by
  have:=Yl (s.heap.push (ZfC us)) (o:=ZhN C s.heap.objs.size) rfl;rwa [YJ]at this
 exact I.laid (a:=s.heap.objs.size+1) (o:=XO (s.heap.objs.size+1) C none) (t':=s.toks) (fun b u q=>Ye _ (Ye _ q)) (Yaf _) (XO.ok e2 rfl rfl rfl (t0:=s.heap.objs.size) rfl rfl)
def Zc6(hc:X.calm=true)(M:XCl X.K C f)(F:ZbB X.prog X.w X.K X.mg X.base CX0 k f fd ps sp)(hr:Zbb (k+1) X.A)(hg:Gl X x)(hm:X.mg x=some (.ref C))(hb:Zb7 X.K fd ps [])(ha:PA (X.wish (XF X E)) (e::es) t)(hp:ps.length<=1000:=by decide)(hdb:(x==("__debug__":Str))=false:=by decide)(he:starEach (e::es) X.env=(false,eval e X.env)::starEach es X.env:=by rfl)(hpl:(backTo pos (starEach es X.env)).any (·.1)=false:=by rfl):
  PS (X.wish (XF X E)) (.Raise (some (.Call (.Name x p) (e::es) [] pos)) none pos') (Zji X.K X.H₀ C sp E t):=by
 intro pins s σ H D I h;refine Zj4 (I.ok.hd hc) (Yah (Za0 I hg hm (Yaz (h₀:=X.base) I.ok.mod.kin M.kp (thn (ha pos pins s σ H _ I h) fun us s1 ⟨vs,H1,I1,r,q⟩=>⟨I1.kIn,?_⟩) he hpl) hdb));have hq:=q I1.base.kp (s1.heap.objs.size+1) (I1.hok.fresh (Yaf _));have I2:=Inv.madeX (C:=C) (us:=us) I1;have r2:Z6 (V.ref (s1.heap.objs.size+1)::vs) (Value.ref (s1.heap.objs.size+1)::us):=.cons rfl r;have hl:(Value.ref (s1.heap.objs.size+1)::us).length=ps.length:=by
  have e:=r2.length;rw[F.len _ _ _ _ hq]at e;exact e.symm
 have hl':us.length<=1000:=by
  rw[List.length_cons]at hl;lia
 refine YaD (Zko (f:=f) I1.kIn M.makes M.init (beq_iff_eq.mp M.fn) hl' (Yat (F.run _ X.stack _ _ ⟨Value.ref (s1.heap.objs.size+1)::us,[]⟩ (Value.ref (s1.heap.objs.size+1)::us) _ _ E0 (hr.make C us [])
  (I2.env0.make C us []) (by have:=hb _ (Value.ref (s1.heap.objs.size+1)::us) I2.kIn (by rw[YN];exact hl);rwa [YN]at this) r2 hq) fun r s' hq'=>?_))
 cases r with
 | error e=>exact hq'.elim
 | ok fl =>
  cases fl with
  | ret u =>
   obtain⟨v,H',I3,rv,ev,dx,hx,hE⟩:=I2.after hq';subst ev;refine⟨rv,?_⟩;obtain⟨ob,fs,t0,ho,hcl,hd,hf,h0,h1⟩:=XO.get I3.hok hx;exact⟨_,C,ob,fs,rfl,ho,hcl,hf,h1,looks_mroIn I3.kIn M.up,PySem.W.looks_typeIn I3.kIn M.ty,⟨_,σ,rfl,_,I3.unwish.unpin.forget hx,C,dx,ob,fs,I1.unwish.unpin.newA (Yaf _),Zb5,ho,hcl,hd,hf,.inl ⟨trivial,h1⟩,hE⟩⟩
  | next=>exact False.elim hq'
  | brk=>exact False.elim hq'
  | cont=>exact False.elim hq'
def Zf9(B:Bod X)(F:ZbB X.prog X.w X.K X.mg X.base (CXX X.prog X.w) k f fd ps sp)(hr:Zbb k X.A)(hg:Gl X x)(hm:X.mg x=some (.ref f))(hk:PySem.W.keepIn X.K (.ref f)=true)(hb:Zb7 X.K fd ps [])(ha:PA (X.wish (XF X E)) (e::es) t)(hdb:(x==("__debug__":Str))=false:=by decide)(he:starEach (e::es) X.env=(false,eval e X.env)::starEach es X.env:=by rfl)(hpl:(backTo pos (starEach es X.env)).any (·.1)=false:=by rfl):
  PE (X.wish (XF X E)) (.Call (.Name x p) (e::es) [] pos) (ZmP X.K X.H₀ sp E t):=by
 intro pins s σ H Q I h;refine Yah (Za0 I hg hm (Yaz (h₀:=X.base) I.ok.mod.kin hk (thn (ha pos pins s σ H _ I h) fun us s1 ⟨vs,H1,I1,r,q⟩=>⟨I1.kIn,?_⟩) he hpl) hdb);exact Zfk (X:=X.wish (XF X E)) (dvs:=[]) F hr hb .nil (ZjV B) I1 r (by rw[YN];exact q I1.base.kp)
end
abbrev AXK:=Addr->List (Str×U)->AHp->Prop
abbrev Zc7:=List U->AHp->AVK->AXK->Prop
def ZhO(K:YFr)(H:Hp)(X':AXK)(E:XK):Prop:=∀C dx fs gs A' H',Kp K H H'->HR K H' A'->A' dx=none->H' dx=some (.xd gs)->RFs K H' fs gs->X' C fs A'->E (.ref C) (some dx) H'
def ZhO.same{K:YFr}(h:ZhO K H X' E)(k:Kp K H H1):ZhO K H1 X' E:=fun C dx fs gs A' H' k1=>h C dx fs gs A' H' (k.trans k1)
def Zcm(K:YFr)(asp:Zc7):Sp:=fun vs H Q E=>∃us A Q' X',RUs K H us vs/\HR K H A/\asp us A Q' X'/\Aft K H Q' Q/\ZhO K H X' E
def Zf7(C:Addr)(f:Str)(ok:V->Prop):Sp:=fun vs H Q _=>∃x v,vs=[.ref x,v]/\ok v/\H x=some (XO x C none)/\∀dx,H dx=none->dx≠x->Q .non (upd (upd H dx (.xd [(f,v)])) x (XO x C (some dx)))
def Zmt(C:Addr)(f:Str)(ok:U->Prop)(X':AXK)(l:AA):AS:=fun _ ρ A=>l ρ A fun us A1=>∃u,us=[u]/\ok u/\X' C [(f,u)] A1
section
variable{K:YFr}
def ZgP(hE:ZhO K H0 X' E)(ho:∀u v H,RU K H u v->ok u->okV v)(hl:AbA K t l):AbS K (Zji K H0 C (Zf7 C f okV) E t) (Zmt C f ok X' l):=fun ρ A σ H D' D hs g h k=>by
 refine hl ρ A σ H _ _ hs g h fun us A1 vs H1 k1 g1 r1 ⟨u,e,hu,hx⟩ k0 x hn=>?_
 subst e
 cases r1 with
 | @cons _ v _ _ rv r1 =>
 cases r1
 refine⟨x,v,rfl,ho _ _ _ rv hu,Zv,fun dx hd hne=>⟨rfl,dx,Zv,?_⟩⟩
 rw[Zr hne]at hd
 have e:rmH (upd (upd (upd H1 x (XO x C none)) dx (.xd [(f,v)])) x (XO x C (some dx))) x=upd H1 dx (.xd [(f,v)]):=by
  funext b;by_cases h1:b=x
  .rw[h1,Zb5,Zr hne.symm,hn]
  .rw[ZeI h1,Zr h1];by_cases h2:b=dx
   .rw[h2,Zv,Zv]
   .rw[Zr h2,Zr h1,Zr h2]
 rw[e];have sm:=Zat.upd_new (o:=.xd [(f,v)]) hd;exact hE C dx [(f,u)] [(f,v)] A1 _ (k0.trans sm.kp) (g1.grow sm) (g1.none hd) Zv ⟨rfl,.one (rv.same sm.kp)⟩ hx
def Zms(asp:Zc7)(X':AXK)(l:AA):AE:=fun ρ A Q=>l ρ A fun us A1=>asp us A1 Q X'
def Zgz(hE:ZhO K H0 X' E)(hl:AbA K tl l):AbE K (ZmP K H0 (Zcm K asp) E tl) (Zms asp X' l):=fun ρ A σ H Q' Q hs hh h k =>
 hl ρ A σ H _ _ hs hh h fun us A1 vs H1 k1 g1 r1 q1 k0=>⟨us,A1,Q',X',r1,g1,q1,fun z A3 v3 H3 k3 h3 r3 q3=>k _ _ _ _ (k1.trans k3) h3 r3 q3,hE.same k0⟩
end
section
variable{K:YFr}
def Fun.okX{st:Stmt}{as:AXK->AS}(F:Fun K x qual st f fd)(hs:ZN st=sc)(hb:ZaQ st=body)(S:Zao N ps (ZN st))(hbody:Zao N ps sc->∀ (cdv:Value) (A:Around) (outer:List Env) (s:Shared) (H:Hp) (E:XK) (X':AXK),Zbb k (A.deeper (envOfC qual sc s.heap.objs.size f cdv))->ZhO K H X' E ->
   ∃t,PSs ((Zds (CXX P w) P w K mg base N qual sc f cdv A outer s H E).wish (XF (Zds (CXX P w) P w K mg base N qual sc f cdv A outer s H E) E)) body t/\AbS K t (as X'))(hsp:∀us A Q X',asp us A Q X'->us.length=ps.length/\as X' { nx:=fun _ A'=>Fg Q .non A',rt:=Fg Q } (aStart N us) A):ZbB P w K mg base (CXX P w) (k+1) f fd ps (Zcm K asp):=by
 subst hs hb;obtain⟨oc,od,kV,doc,pm,an,cdv,ct,osl,rfl,lk,hcd⟩:=F.ex;refine Zq9 lk hcd S (fun vs H Q E ⟨us,A,Q',X',r,g,h,_⟩=>?_) fun A outer s H vs Q E hr ⟨us,A',Q',X',r,g,h,k,kx⟩=>?_
 .rw[<- r.length];exact(hsp us A Q' X' h).1
 .obtain⟨t,ht,ha⟩:=hbody S cdv A outer s H E X' hr kx;exact⟨t,Zm7 ht,ha _ _ _ _ _ _ (RSt.start N r) g (hsp us A' Q' X' h).2 ⟨fun ρ A σ H' k' g' s' ⟨A3,e,q'⟩=>k _ _ _ _ k' (g'.ext e) .non q',fun u A v H' k' g' r' ⟨A3,e,q'⟩=>k _ _ _ _ k' (g'.ext e) r' q',fun _ _ _ _ _ _ _ q=>q.elim,fun _ _ _ _ _ _ _ q=>q.elim⟩⟩
end
def ZaG.at{K:YFr}(c:ZaG K C D b)(x:K.In h):Zlr M h C D b:=by
 refine⟨looks_instIn x c.nt,?_,looks_mroIn x c.ex,looks_mroIn x c.sb⟩;intro A Q E s k q;have t:=c.ty;unfold PySem.W.isClsIn clsIn at t;split at t
 .rename_i oc od cd sl hl;simp only[isType,loadHead];exact Yb (wpAny_loadPart (k _ _ (x _ _ hl)) (Yd q))
 .cases t
abbrev Cx.mkd(X:Cx)(a:Addr):Cx:={ X with A:=X.A.mark (some (.ref a)),calm:=false,xe:=fun _ _=>False }
def XE(X:Cx)(pins:List (Addr×Obj))(σ:St)(E:XK):Value->Shared->Prop:=fun ev s'=>∃H1 s1,Inv X pins σ H1 s1/\CXX X.prog X.w X.stack H1 s1 E ev s'
abbrev TX:=St->Hp->VK->XK->Prop
def PEX(X:Cx)(e:Expr)(tx:TX):Prop :=
 ∀(pins:List (Addr×Obj))(s:Shared)(σ:St)(H:Hp)(Q:VK)(E:XK),Inv X pins σ H s->tx σ H Q E->wpAny (model X.prog X.w) X.A (eval e X.env) (EP X pins σ Q) (XE X pins σ E) s
section
def Inv.mkd(I:Inv X pins σ H s):Inv (X.mkd a) pins σ H s:=⟨{ I.ok with hd:=fun z=>nomatch z },I.os,I.bare,I.base,I.loc,I.cell,I.free,I.freeC,I.pin,I.hok,I.len⟩
def Inv.unmkd(I:Inv (X.mkd a) pins σ H s)(ok:X.Ok):Inv X pins σ H s:=⟨ok,I.os,I.bare,I.base,I.loc,I.cell,I.free,I.freeC,I.pin,I.hok,I.len⟩
def SP.unmkd(ok:X.Ok)(h:SP (X.mkd a) pins Dn fl s'):SP X pins Dn fl s':=by
 cases fl with
 | next=>obtain⟨σ',H',I,q⟩:=h;exact⟨σ',H',I.unmkd ok,q⟩
 | brk=>obtain⟨σ',H',I,q⟩:=h;exact⟨σ',H',I.unmkd ok,q⟩
 | cont=>obtain⟨σ',H',I,q⟩:=h;exact⟨σ',H',I.unmkd ok,q⟩
 | ret u=>obtain⟨v,σ',H',I,r,q⟩:=h;exact⟨v,σ',H',I.unmkd ok,r,q⟩
end
abbrev AX:=ASt->AHp->AVK->AXK->Prop
def AbX(K:YFr)(tx:TX)(ax:AX):Prop:=∀ρ A σ H Q' X' Q E,RSt K H ρ σ->HR K H A->ax ρ A Q' X'->Aft K H Q' Q->ZhO K H X' E->tx σ H Q E
section
def Znr:Zmt C f ok X' l D ρ A=l ρ A fun us A1=>∃u,us=[u]/\ok u/\X' C [(f,u)] A1:=rfl
def Znn:Zms asp X' l ρ A Q=l ρ A fun us A1=>asp us A1 Q X':=rfl
end
section
variable{St:Nat->Heap->Prop}
abbrev mlD(I S:Addr)(d:Value):Code:=.builtin "min.loop" ⟨[.ref I,.none,.ref S],[(Str.ofString "default",d)]⟩
def ZsB:(toString "min"++toString ".loop":String)="min.loop":=by decide
def ZpO(W:Walks prog w A.in1 I fp wr n P St)(hc:CmpOf prog w A.in1 .Lt P bt)(nS:S∉fp)(g:Nat):∀(j:Nat)(s:Shared)(b0:Value)(c:Nat),j+1+g=n->St (j+1) s.heap->P (argBest bt j) b0->s.heap.get? S=some (seqObj "list" #[b0,b0] c) ->
  (∀v h' tk,P (argBest bt (n-1)) v->(∀b o,b∉wr->b≠S->s.heap.get? b=some o->h'.get? b=some o)->R (.ok (.ret v)) { s with heap:=h',toks:=tk })->codeAny (model prog w) A (mlD I S d) R s:=by
 have nW:S∉wr:=fun h=>nS (W.sub _ h);induction g with
 | zero =>
  intro j s b0 c e st pb eS q;refine Yar F.entry_min_loop ?_;rw[Yao F.plain_min_loop _];refine Yb (Ya4 eS rfl (Yb (Ybs (W.done s _ _ (e▸st) fun h1 t1 k1=>Yb (Yaw (k1 S _ nW eS) rfl (Yb (Yba (Yd ?_))))))));exact q b0 _ t1 (by rw[<- e];exact pb) fun b o x y z=>(YF _ _ (Ne.symm y)).trans (k1 b o x z)
 | succ g ih =>
  intro j s b0 c e st pb eS q;refine Yar F.entry_min_loop ?_;rw[Yao F.plain_min_loop _];refine Yb (Ya4 eS rfl (Yb (Ybs (W.item (j+1) s _ _ (by lia) st fun v h1 t1 p1 st1 k1=>?_))));have eS1:=k1 S _ nW eS;refine Yb (Yd ?_);show wpAny _ A.in1 (tryCatch (holding [v,v] (richCompare .Lt v b0>>=_)) _>>=_) _ _ _;refine Yb (Ybs (YT (Yb (hc (j+1) (argBest bt j) v b0 _ _ _ p1 pb (Yb (YT (YaR (Yb (Yba (Yd ?_))))))))));cases hb:bt (j+1) (argBest bt j)with
  | true =>
   refine Yb (Yaw eS1 rfl (Yb (Yba ?_)));rw[ZsB];refine Yd ⟨YaG F.plain_min_loop _,ih (j+1) _ v _ (by lia) (W.frame _ _ _ st1 fun b m o z=>(YF _ _ (fun h:S=b=>nS (h▸m))).trans z) (by rw[argBest,hb];exact p1) (YD _ eS1 rfl) fun v' h2 t2 p2 k2=>q v' h2 t2 p2 fun b o x y z=>k2 b o x y ((YF _ _ (Ne.symm y)).trans (k1 b o x z))⟩
  | false =>
   refine Yb (Yba ?_);rw[ZsB];exact Yd ⟨YaG F.plain_min_loop _,ih (j+1) _ b0 c (by lia) st1 (by rw[argBest,hb];exact pb) eS1 fun v' h2 t2 p2 k2=>q v' h2 t2 p2 fun b o x y z=>k2 b o x y (k1 b o x z)⟩
def Zj7(W:Walks prog w A.in1 I fp wr n P St)(hc:CmpOf prog w A.in1 .Lt P bt)(nS:S∉fp)(st:St 0 s.heap)(eS:s.heap.get? S=some (seqObj "list" #[] c))(q:∀v h' tk,(n=0/\v=d\/0<n/\P (argBest bt (n-1)) v)->(∀b o,b∉wr->b≠S->s.heap.get? b=some o->h'.get? b=some o)->R (.ok (.ret v)) { s with heap:=h',toks:=tk }):codeAny (model prog w) A (mlD I S d) R s:=by
 have nW:S∉wr:=fun h=>nS (W.sub _ h);refine Yar F.entry_min_loop ?_;rw[Yao F.plain_min_loop _];refine Yb (Ya4 eS rfl (Yb (Ybs ?_)));by_cases hn:n=0
 .exact W.done s _ _ (hn▸st) fun h1 t1 k1=>Yb (Ya7 (Yd (q d h1 t1 (.inl ⟨hn,rfl⟩) fun b o x _ z=>k1 b o x z)))
 .refine W.item 0 s _ _ (by lia) st fun v h1 t1 p1 st1 k1=>Yb (Yd (Yb ?_));have eS1:=k1 S _ nW eS;refine Yaw eS1 rfl ?_;rw[ZsB];refine Yd ⟨YaG F.plain_min_loop _,ZpO W hc nS (n-1) 0 _ v _ (by lia) (W.frame _ _ _ st1 fun b m o z=>(YF _ _ (fun h:S=b=>nS (h▸m))).trans z) p1 (YD _ eS1 rfl) fun v' h2 t2 p2 k2=>q v' h2 t2 (.inr ⟨by lia,p2⟩) fun b o x y z=>k2 b o x y ((YF _ _ (Ne.symm y)).trans (k1 b o x z))⟩
end
def ZiO(a v:Value):argsOk "min" ⟨[a],[(Str.ofString "default",v)]⟩:=by unfold argsOk;kernel_rfl
def ZmK(K:YFr):V->Hp->VK->Prop:=fun x H Q=>∃p ns,x=.ref p/\SqL K H p (List.map V.int ns)/\(ns=[]->Q .non H)/\∀m,m∈ns->(∀x∈ns,m<=x)->Q (.int m) H
def Zl6(K:YFr)(te:TE):TE:=fun σ H Q=>te σ H fun x H1=>ZmK K x H1 Q
section
def Zll(I:Inv X pins σ H s)(hh:B.in1.handled=none)(hl:SqL X.K H l (ns.map V.int))(h0:∀s',Inv X pins σ H s'->ns=[]->Q .none s')(h1:∀s' m t,Inv X pins σ H s'->m∈ns->(∀x∈ns,m<=x)->Q (.int m t) s'):wpAny (model X.prog X.w) B (call (.builtin "min") [.ref l] [(Str.ofString "default",.none)]) Q E s:=by
 obtain⟨its,rv,pl,hz⟩:=I.list hl;have hlen:its.toArray.size=ns.length:=by have:=rv.length;simp at this;simp;lia
 have hp:l<s.heap.objs.size:=by obtain⟨o,n,e,_⟩:=pl;exact Ym e
 refine kmk_tree F.kind_min F.plain_min F.entry_min (ZiO _ _) (show _ from ?_);show wpAny _ B.in1 (Builtin.Builtins.bindParams "min" ["key","default"] 0 ⟨[],[(Str.ofString "default",.none)]⟩>>=_) _ E s;refine Yb (Ybt (show Builtin.Builtins.bindParams "min" ["key","default"] 0 ⟨[],[(Str.ofString "default",.none)]⟩=pure [none,some .none]from rfl) (Yb (Yd (Yb (YaS pl.isList (Yb (Yb1 (show _ from ?_) (Y2 _))))))));rw[ZsB];have nIl:l≠s.heap.objs.size:=Yo hp;have kk:∀ {b:Addr} {ob:Obj} {x:Obj} {y:Obj},s.heap.get? b=some ob->((s.heap.push x).push y).get? b=some ob:=fun e=>Ye _ (Ye _ e);refine Yd ⟨YaG F.plain_min_loop _,Zj7 (d:=.none) (YbB hh s.heap.objs.size l nIl its.toArray) (bt:=fun i j=>decide (MM.at0 ns i<MM.at0 ns j)) (fun i j vi vj s' Q' E' hi hj hq=>?_) ?_ ⟨⟨_,Ye _ (Yl _ rfl),rfl,rfl⟩,pl.isList.at fun o e=>kk e⟩ (Yl _ rfl) fun v h' tk hv hk=>?_⟩
 .obtain⟨_,t,rfl⟩:=ZbD rv hi;obtain⟨_,t',rfl⟩:=ZbD rv hj;exact HT.rcLt_int _ _ _ _ _ _ _ _ _ _ hq
 .rw[YJ];intro hm;rcases Yn.mp hm with e|hm
  .exact absurd e (Nat.succ_ne_self _)
  .exact absurd hp (by rw[<- Yp.mp hm];exact Nat.not_lt.mpr (Yaf _))
 .have I':Inv X pins σ H { s with heap:=h',toks:=tk }:=I.kept (t':=tk) fun b o e=>hk b o (by simp;exact Yo (Ym e)) (fun z=>absurd (Ym e) (by rw[z,YJ];exact Nat.not_lt.mpr (Yaf _))) (kk e);rw[hlen]at hv;rcases hv with⟨hn,rfl⟩|⟨hn,hv⟩
  .exact h0 _ I' (YaI.mp hn)
  .obtain⟨hi,t,rfl⟩:=ZbD rv hv;refine h1 _ _ _ I' (ZjP hi) fun x hx=>?_;obtain⟨j,hj,rfl⟩:=ZhX hx;exact ZbR ns (ns.length-1) j (by lia)
def Zf5(K:YFr)(hK:X.K=K)(hc:X.calm=true)(hg:Gl X "min")(hm:X.mg "min"=none)(he:PE X e te)(hst:starEach [e] X.env=[(false,eval e X.env)]:=by rfl):PE X (.Call (.Name "min" p) [e] [⟨some "default",.Constant .none kj p2,p3⟩] pos) (Zl6 K te):=by
 subst hK;intro pins s σ H Q I h;refine Yah (ZcA I hg hm (show bootBuiltins "min"=some (.builtin "min") by decide +kernel) (show _ from ?_) (by decide) (by decide));have hpa:PA X [e] (ZdW te ZkZ):=Zb he Zg hst;have h':ZdW te ZkZ σ H (fun vs H1=>match vs with|[x]=>ZmK X.K x H1 Q|_=>False):=h;refine callWith_kw (thn (hpa pos pins s σ H _ I h') fun us s1 ⟨vs,H1,I1,r1,q1⟩=>?_) (by rw[hst];rfl) (by rw[hst];rfl) rfl rfl;dsimp only at q1;split at q1
 .obtain⟨u,rfl,ru⟩:=r1.one;obtain⟨l,ns,rfl,hl,q0,q⟩:=q1;cases ru;show wpAny _ _ (evalAll [(do let v <- eval (.Constant .none kj p2) X.env;standAt pos;pure v)]) _ _ s1;refine wpAny_evalAll_cons (Yb (Constant_none (Yb (YaF (Yd (wpAny_evalAll_nil ?_))))));show wpAny _ _ (call (.builtin "min") [.ref l] [(Str.ofString "default",.none)]) _ _ _;exact Zll I1 (show X.A.in1.handled=none from I.ok.hd hc) hl (fun s' I' hn=>⟨.non,H1,I',rfl,q0 hn⟩) fun s' m t I' hm hx=>⟨.int m,H1,I',⟨_,rfl⟩,q m hm hx⟩
 .exact q1.elim
end
def ZlK(ae:AE):AE:=fun ρ A Q=>ae ρ A fun x A1=>∃p ns,x=.ref p/\A1 p=some (.lst (List.map U.int ns))/\(ns=[]->Q .non A1)/\∀m,m∈ns->(∀x∈ns,m<=x)->Q (.int m) A1
def Zgp{K:YFr}(h:AbE K te ae):AbE K (Zl6 K te) (ZlK ae):=fun ρ A σ H Q' Q hs g wh k =>
 h ρ A σ H _ _ hs g wh fun x A1 v H1 k1 g1 r1 hq0=>by
  obtain⟨p,ns,e,hp,q0,q⟩:=hq0
  subst e
  cases r1
  obtain⟨vs,h1,r⟩:=g1.list hp
  rw[r.ints]at h1
  exact⟨p,ns,rfl,SqL.of h1,fun hn=>k _ _ _ _ k1 g1 .non (q0 hn),fun m hm hx=>k _ _ _ _ k1 g1 (.int m) (q m hm hx)⟩
def Znz:ZlK ae ρ A Q=ae ρ A fun x A1=>∃p ns,x=.ref p/\A1 p=some (.lst (List.map U.int ns))/\(ns=[]->Q .non A1)/\∀m,m∈ns->(∀x∈ns,m<=x)->Q (.int m) A1:=rfl
section
variable{X:Cx}(P:Program)(w:World)(hP:X.prog=P)(hw:X.w=w)
include hP hw
def ZlL:IxR X (ZmX P w):=by subst hP hw;exact ZbN
def Zrz:OpR X (compareOp .In) (ZoT P w):=by subst hP hw;exact Zjs
def Zm9:OpR X (compareOp .NotIn) (Zij P w):=by subst hP hw;exact ZdU
end
def ItS(lo st:Int)(n:Nat):It:=⟨fun i _=>i<n,fun i H x H'=>H'=H/\x=.int (lo+(i:Nat)*st),fun i _=>n<=i⟩
def ZiY{K:YFr}(it:Addr)(lo st:Int)(n:Nat):Zkc P w K tg (ItS lo st n) [it] it (fun i h=>IsRangeIter h it (lo+(i:Nat)*st) ((n:Int)-(i:Nat)) st) where
 mem:=by simp
 obj := fun i h st b hb=>by
  have e:b=it:=by simpa using hb
  subst e
  exact⟨_,st,fun v z=>by
   have z':Data.fields _=Data.cell v:=z
   cases z'⟩
 keep:=fun i h h' st k=>k it (by simp) _ st
 item:=by
  intro X hP hw hK hc i pins s σ H E I hf st' hg;subst hP hw hK;obtain⟨f0,f1,f2,f3,f4,f5⟩:=hf it (by simp);have W:=Walks.range (prog:=X.prog) (w:=X.w) (I.ok.hd hc) it lo st n;refine W.item i s _ _ hg st' fun v h' tk hv st2 kk=>?_;obtain⟨t,rfl⟩:=hv;have I1:Inv X pins σ H { s with heap:=h',toks:=tk }:=I.turned (fun b o hb e=>kk b o (by simpa using hb) e) f0 f1 f3 f4 f5;exact⟨_,rfl,Zhu (s:={ s with heap:=h',toks:=tk }) (n:="range_iterator") st2 rfl rfl (by decide) ⟨.int _,H,I1,⟨t,rfl⟩,⟨rfl,rfl⟩,st2,fun b hb=>(hf b hb).1⟩⟩
 done:=by
  intro X hP hw hK hc i pins s σ H E I hf st' hg;subst hP hw hK;obtain⟨f0,f1,f2,f3,f4,f5⟩:=hf it (by simp);exact YbM (I.ok.hd hc) st' (by have:n<=i:=hg;lia) fun h' eb=>⟨rfl,I.turned (t':=s.toks) (fun b o hb e=>eb b o hb e) f0 f1 f3 f4 f5⟩
 self:=fun _ _ _ _ _ st h=>YbN st h
def Zfl(hc:0<c)(ha:0<=a)(hb:b<=4096):∃n:Nat,Builtin.Range.rangeSize a b c=n/\(n:Int)<=4096/\∀t:Nat,t<n->a+t*c<b:=by
 unfold Builtin.Range.rangeSize;rw[if_pos (show c>0 from hc)];by_cases h:a<b
 .rw[if_pos (show b>a from h)];have h0:0<=(b-a-1) / c:=Int.ediv_nonneg (by lia) (by lia);have h1:(b-a-1) / c<=b-a-1:=Int.ediv_le_self _ (by lia);refine⟨((b-a-1) / c+1).toNat,by lia,by lia,fun t ht=>?_⟩;have h2:(t:Int)<=(b-a-1) / c:=by lia
  have h3:(t:Int)*c<=(b-a-1) / c*c:=Int.mul_le_mul_of_nonneg_right h2 (by lia);have h4:=Int.ediv_mul_le (b-a-1) (show c≠0 by lia);lia
 .rw[if_neg (show ¬b>a from h)];exact⟨0,rfl,by decide,fun t ht=>absurd ht (Ybn t)⟩
def Znc(hc:0<c)(hc':c<=4096)(ha:0<=a)(ha':a<=4096)(hb:0<=b)(hb':b<=4096):Builtin.Range.small a b c=true:=by
 obtain⟨n,e,hn,_⟩:=Zfl hc ha hb';unfold Builtin.Range.small;rw[e];simp only[Builtin.Range.rangeFitsLong,YU,Bool.or_eq_true,Ya2,beq_iff_eq,show c>0 from hc,if_true];lia
section
def Zk6:List V->Hp->(It->Hp->Prop)->Prop:=fun vs H R=>∃i j k:Int,vs=[.int i,.int j,.int k]/\(0<k/\k<=4096/\0<=i/\i<=4096/\0<=j/\j<=4096)/\∀n:Nat,(n:Int)<=4096->(∀t:Nat,t<n->i+t*k<j)->R (ItS i k n) H
def ZjE(hg:Gl X "range")(hm:X.mg "range"=none)(ha:PA X [a,b,c] ta)(hs:starEach [a,b,c] X.env=[(false,eval a X.env),(false,eval b X.env),(false,eval c X.env)]:=by rfl)(hs2:starEach [b,c] X.env=[(false,eval b X.env),(false,eval c X.env)]:=by rfl):
  PI X tg (.Call (.Name "range" p) [a,b,c] [] pos) (Zlv Zk6 ta):=by
 intro pins s σ H R I h;refine Call_ (ZcA I hg hm boot_range (YaL (thn (ha pos pins s σ H _ I h) fun us s1 ⟨vs,H1,I1,r1,q1⟩=>?_) (by rw[hs,hs2]) (by rw[hs2];rfl)));obtain⟨lo,hi,k,rfl,⟨b1,b2,b3,b4,b5,b6⟩,q⟩:=q1;obtain⟨n,en,hn,ht⟩:=Zfl b1 b3 b6;have q:=q n hn ht;cases r1 with
 | cons r rr =>
 cases rr with
 | cons r' rr =>
 cases rr with
 | cons r2 rr =>
  cases rr;obtain⟨t,rfl⟩:=r;obtain⟨u,rfl⟩:=r';obtain⟨v,rfl⟩:=r2;refine call_range_3 (by lia) (Yb8 (IsRange.new ..) (Znc b1 b2 b3 b4 b5 b6) ?_) (.inl (YbO (by lia)));generalize hR:s1.heap.push { cls:=.type "range",data:=.fields #[.int lo t,.int hi u,.int k v] }=h2;have I2:Inv X pins σ H1 { s1 with heap:=h2,toks:=s1.toks }:=hR▸I1.kept fun b o e=>Ye _ e;refine⟨h2.objs.size,[h2.objs.size],_,_,H1,rfl,I2.kept (t':=s1.toks) fun b o e=>Ye _ e,ZiY _ lo k n,?_,fun b hb=>?_,q⟩
  .show IsRangeIter _ _ (lo+((0:Nat):Int)*k) ((n:Int)-((0:Nat):Int)) k;rw[show lo+((0:Nat):Int)*k=lo by simp,show(n:Int)-((0:Nat):Int)=Builtin.Range.rangeSize lo hi k by rw[en];simp];exact Yl _ rfl
  .rw[Yp.mp hb];exact I2.fpOk (Yj _) (I2.hok.fresh (Yj _))
end
section
variable{K:YFr}
def Zmg(lo st:Int)(n:Nat):List U:=(List.range n).map fun(i:Nat)=>.int (lo+(i:Nat)*st)
def ZgQ(lo st:Int)(n i:Nat):(Zmg lo st n)[i]? = if i<n then some (.int (lo+(i:Nat)*st))else none:=by
 unfold Zmg;rw[Yi];by_cases h:i<n
 .rw[if_pos h,Ybp h];rfl
 .rw[if_neg h,Y3 (by rw[Yav];lia)];rfl
def ZoZ{lo st:Int}:AbJ K H (ItS lo st n) (Zcx (Zmg lo st n)):=fun i A H1 x k g e=>by
 have e:x=(Zmg lo st n)[i]?:=e
 rw[ZgQ]at e
 by_cases h:i<n
 .rw[if_pos h]at e
  subst e
  exact⟨h,fun x H' q=>by
   obtain⟨rfl,rfl⟩:=q
   exact⟨.refl _,g,.int _⟩⟩
 .rw[if_neg h]at e
  subst e
  exact YbE h
def ZnV:List U->AHp->(AIt->AHp->Prop)->Prop:=fun us A R=>∃i j k:Int,us=[.int i,.int j,.int k]/\(0<k/\k<=4096/\0<=i/\i<=4096/\0<=j/\j<=4096)/\∀n:Nat,(n:Int)<=4096->(∀t:Nat,t<n->i+t*k<j)->R (Zcx (Zmg i k n)) A
def ZlH:Zo6 K Zk6 ZnV:=fun x v A H R' R r g w k=>by
 obtain⟨i,j,l,rfl,hb,w⟩:=w
 cases r with
 | cons r rr =>
 cases rr with
 | cons r2 rr =>
 cases rr with
 | cons r3 rr =>
  cases rr;cases r;cases r2;cases r3
  exact⟨i,j,l,rfl,hb,fun n hn ht=>k _ _ _ _ (.refl H) g ZoZ (w n hn ht)⟩
def Zkk(hl:AbA K t l):AbI K (Zlv Zk6 t) (Zf2 ZnV l):=Zet (u:=Zk6) ZlH hl
def Zth:ZnV [.int i,.int j,.int k] A R=((0<k/\k<=4096/\0<=i/\i<=4096/\0<=j/\j<=4096)/\∀n:Nat,(n:Int)<=4096->(∀t:Nat,t<n->i+t*k<j)->R (Zcx (Zmg i k n)) A) :=
 propext ⟨fun hq0=>by obtain⟨_,_,_,e,h⟩:=hq0;cases e;exact h,fun h=>⟨_,_,_,rfl,h⟩⟩
end
def Znh:builtinKind "BaseException.__getattribute__"=some .slot:=by kernel_rfl
def ZkR:splitId "BaseException.__getattribute__"=some ("BaseException","__getattribute__"):=by kernel_rfl
def ZrI(x y:Value):slotArgs "__getattribute__" 1 ⟨[x,y],[]⟩=pure (x,[y]):=by
 unfold slotArgs;simp
section
variable{K:YFr}
def Zf8(X:K.In s.heap)(I:PySem.W.InstAt s.heap x ox C od)(hup:PySem.W.mroIn K C (.type "BaseException")=some true)(h:wpAny (model prog w) A.in1 (Builtin.«object.__getattribute__» ⟨[.ref x,.str name tk],[]⟩) (fun fin s'=>match fin with|.done f=>R (.ok f) s'|.again c'=>c'.quiet=true/\codeAny (model prog w) A c' R s') (fun e s'=>R (.error e) s') s):
  codeAny (model prog w) A (.call (.builtin "BaseException.__getattribute__") ⟨[.ref x,.str name tk],[]⟩) R s:=by
 have sub:PySem.W.Looks (model prog w) s.heap (isInstance (.ref x) (.type "BaseException")) true:=I.type.andThen (looks_mroIn X hup);exact codeAny_call_builtin F.excAttr_ValueError.ga.plain F.entry_bexc_ga (@PySem.W.check_slot (model prog w) _ _ s "BaseException.__getattribute__" "BaseException" "__getattribute__" (.ref x) [.str name tk] [] _ Znh ZkR sub (F.args_bexc_ga (.ref x) (.str name tk)) h)
def Zh4(X:K.In s.heap)(I:PySem.W.InstAt s.heap x ox C od)(hup:PySem.W.mroIn K C (.type "BaseException")=some true)(hf:PySem.W.findObj K C od name=some (.value v))(h:R (.ok (.ret v)) s):
  codeAny (model prog w) A (.call (.builtin "BaseException.__getattribute__") ⟨[.ref x,.str name tk],[]⟩) R s:=by
 refine Zf8 X I hup ?_;obtain⟨hh,gg,d,t,os⟩:=s;have L0:=I.type (M:=model prog w);have L1:=looks_find (M:=model prog w) X I hf;unfold Builtin.«object.__getattribute__»;rw[ZrI];refine Yb (Yd ?_);dsimp only;exact Yb (Yd (Yb (L0.at (Yb (L1.at (Yd h))))))
def ZhZ{expr fill:Bool}(X:K.In s.heap)(I:PySem.W.InstAt s.heap x ox C od)(hga:PySem.W.findIn K (.ref C) "__getattribute__"=some (some (.builtin "BaseException.__getattribute__")))(hk:PySem.W.findIn K (.ref C) "__getattr__"=some none)(h:codeAny (model prog w) A (.call (.builtin "BaseException.__getattribute__") ⟨[.ref x,.str name tk],[]⟩) (fun r s'=>match r with|.ok (.ret v)=>wpAny (model prog w) A (handedOut v) Q E s'|_=>False) s):
  wpAny (model prog w) A (getAttrBy (.ref x) (.str name tk) fill expr) Q E s:=by
 obtain⟨hh,gg,d,t,os⟩:=s;have L0:=I.type (M:=model prog w);have L1:=looks_findIn (M:=model prog w) X hga;have L2:=looks_findIn (M:=model prog w) X hk;have f3:=F.excAttr_ValueError.ga.bind (.ref x);have hx0:(expr&&onTheHeap (Value.builtin "BaseException.__getattribute__"))=false:=by cases expr<;>rfl
 have hx2:(Value.builtin "BaseException.__getattribute__" == Value.builtin "object.__getattribute__")=false:=by decide +kernel
 have hx1:(onTheHeap (Value.ref C)&&Value.builtin "BaseException.__getattribute__" == Value.builtin "object.__getattribute__")=false:=by rw[hx2];rfl
 unfold getAttrBy;refine YT (Yb (L0.at (Yb (L1.at ?_))));dsimp only;rw[hx1];simp only[Y1,Yal];unfold getAttrByItsOwn hookBefore;rw[show onTheHeap (Value.ref C)=true from rfl,if_pos rfl];refine Yb (L2.at (Yb ?_));unfold callGetattribute;rw[hx0];simp only[Y1,Yal];unfold boundAndCalled;rw[f3];refine YaQ (YT (Yb (Yd ?_)));show wpAny _ _ (call (.builtin "BaseException.__getattribute__") [.ref x,.str name tk]) _ _ _;refine YaD (Yat h fun r s' z=>?_);rcases r with e|(v|_|_|_)<;>first|exact z|exact z.elim
def Zhb(X:K.In s.heap)(I:PySem.W.InstAt s.heap x ox C od)(hga:PySem.W.findIn K (.ref C) "__getattribute__"=some (some (.builtin "BaseException.__getattribute__")))(hk:PySem.W.findIn K (.ref C) "__getattr__"=some none)(hup:PySem.W.mroIn K C (.type "BaseException")=some true)(hf:PySem.W.findObj K C od name=some (.value v))(hh:PySem.W.handedIn v=true)(h:Q v { s with toks:=s.toks+1 }):wpAny (model prog w) A (getAttr (.ref x) name expr) Q E s:=by
 unfold getAttr;refine Yb (wpAny_mkText (ZhZ (s:={ s with toks:=s.toks+1 }) X I hga hk (Zh4 (s:={ s with toks:=s.toks+1 }) X I hup hf ?_)));show wpAny _ _ (handedOut v) _ _ _;rw[handedOut_of hh];exact Yd h
def ZhG(X:K.In s.heap)(I:PySem.W.InstAt s.heap x ox C (some od))(hga:PySem.W.findIn K (.ref C) "__getattribute__"=some (some (.builtin "BaseException.__getattribute__")))(hk:PySem.W.findIn K (.ref C) "__getattr__"=some none)(hup:PySem.W.mroIn K C (.type "BaseException")=some true)(hdct:PySem.W.hasDictIn K C=true)(ha:PySem.W.findIn K (.ref C) "__class__"=some (some (.builtin "object.__class__")))(hn:PySem.W.specialIn K (.builtin "object.__class__") "__get__"=some (some (.builtin "getset_descriptor.__get__")))(htk:PySem.W.takesIn K (.builtin "object.__class__")=some true)(hm:PySem.W.mroIn K C (.type "object")=some true)(h:Q (some (.ref C)) { s with toks:=s.toks+1 }):wpAny (model prog w) A (getAttr? (.ref x) "__class__") Q E s:=by
 have hf:PySem.W.findObj K C (some od) "__class__"=some (.bind (.builtin "getset_descriptor.__get__") (.builtin "object.__class__")):=PySem.W.findObj_data (by obtain⟨cd,hc,_⟩:=any_some hdct;rw[hc];rfl) ha hn htk;unfold getAttr? getAttrBy?;refine Yb (wpAny_mkText (Yb (YaQ (ZhZ (s:={ s with toks:=s.toks+1 }) X I hga hk ?_))));refine Zf8 (s:={ s with toks:=s.toks+1 }) X I hup ?_;obtain⟨hh,gg,d,t,os⟩:=s;have L0:=I.type (M:=model prog w);have L1:=looks_find (M:=model prog w) X I hf;unfold Builtin.«object.__getattribute__»;rw[ZrI];refine Yb (Yd ?_);dsimp only;refine Yb (Yd (Yb (L0.at (Yb (L1.at ?_)))));show wpAny _ _ (holding [_] (call (.builtin "getset_descriptor.__get__") [.builtin "object.__class__",.ref x,.ref C])>>=ret) _ _ _;refine Yb (YT (YaD (PySem.W.class_get (s:=⟨hh,gg,d,t+1,os⟩) (ox:=ox) (od:=some od) X I hm (Yd ?_))));show wpAny _ _ (handedOut (.ref C)) _ _ _;rw[handedOut_of rfl];exact Yd (Yd h)
end
structure ZkW (K:YFr) (C:Addr):Prop where
 ga:PySem.W.findIn K (.ref C) "__getattribute__"=some (some (.builtin "BaseException.__getattribute__"))
 gk:PySem.W.findIn K (.ref C) "__getattr__"=some none
 up:PySem.W.mroIn K C (.type "BaseException")=some true
 hd:PySem.W.hasDictIn K C=true
 cl:PySem.W.findIn K (.ref C) "__class__"=some (some (.builtin "object.__class__"))
 cg:PySem.W.specialIn K (.builtin "object.__class__") "__get__"=some (some (.builtin "getset_descriptor.__get__"))
 ct:PySem.W.takesIn K (.builtin "object.__class__")=some true
 ob:PySem.W.mroIn K C (.type "object")=some true
def Zd6{K:YFr}(g:ZkW K C):PySem.W.KitX K (.ref x) (.ref C) (fun h=>PySem.W.InstAt h x ox C (some od)) where
 ty:=fun _ _ _ I=>I.type
 it := fun _ _ X _=>by
  obtain⟨cdD,hcD,_⟩:=any_some g.hd
  unfold clsIn at hcD
  split at hcD
  .rename_i c' d' cd' sl' ho
   intro A' Q' E' s' k q
   unfold isType loadHead
   exact Yb (wpAny_loadPart (k _ _ (X _ _ ho)) (Yd q))
  .cases hcD
 ne := fun h tp dd its n sl X htp=>by
  obtain⟨cdD,hcD,_⟩:=any_some g.hd
  refine Bool.eq_false_iff.mpr fun q=>?_
  have e:C=tp:=Value.ref.inj (beq_iff_eq.mp q)
  subst e
  unfold clsIn at hcD
  split at hcD
  .rename_i c' d' cd' sl' ho
   have z:=(X _ _ ho).symm.trans htp
   cases z
  .cases hcD
 ca:=fun X I k=>ZhG X I g.ga g.gk g.up g.hd g.cl g.cg g.ct g.ob k
def XT(a C dx:Addr):HO:=.ext fun h=>∃ob vs,h.get? a=some ob/\ob.cls=.ref C/\ob.dict=some dx/\ob.data=.fields vs
section
def XT.ok(h1:h.get? a=some ob)(h2:ob.cls=.ref C)(h3:ob.dict=some dx)(h4:ob.data=.fields vs):ZaO P w H h a (XT a C dx) :=
 ⟨⟨ob,vs,h1,h2,h3,h4⟩,⟨ob,h1⟩,fun h1 h2 ⟨ob,vs,q1,q⟩ k=>⟨ob,vs,k _ q1,q⟩⟩
def XT.get(hk:HOk P w H h)(e:H a=some (XT a C dx)):∃ob vs,h.get? a=some ob/\ob.cls=.ref C/\ob.dict=some dx/\ob.data=.fields vs:=(hk a _ e).1
def XT.inst(hk:HOk P w H h)(e:H a=some (XT a C dx))(d:H dx=some (.xd fs)):∃(ob od:Obj)(mA:Str->Option Value),PySem.W.InstAt h a ob C (some od)/\(∀name,lookIn name od=some (mA name))/\∀f,Zfs (fs.lookup f) (mA f):=by
 obtain⟨ob,vs,h1,h2,h3,h4⟩:=XT.get hk e;obtain⟨mA,n,r⟩:=hk dx _ d;obtain⟨od,ho,hl⟩:=Ze1 n;refine⟨ob,od,mA,⟨h1,h2,?_,?_⟩,hl,r⟩
 .unfold notCls;rw[h4]
 .rw[h3];exact ho
end
def Zpi(K:YFr)(ta:TE)(f:Str):TE:=fun σ H Q=>ta σ H fun x H1=>∃a C dx fs v,x=.ref a/\H1 a=some (XT a C dx)/\H1 dx=some (.xd fs)/\ZkW K C/\ZaE K C f/\fs.lookup f=some v/\Q v H1
def ZuY(K:YFr):List V->Hp->VK->Prop:=fun xs H Q=>∃a C dx fs c b,xs=[.ref a,c]/\H a=some (XT a C dx)/\H dx=some (.xd fs)/\ZkW K C /\
 ((∃D,c=.ref D/\PySem.W.kitOne K (.ref C) (.ref D)=some b)\/(∃T,c=.ty T/\PySem.W.kitOne K (.ref C) (.type T)=some b)\/∃(p:Addr)(cs:List Addr),c=.ref p/\SqT K H p (cs.map V.ref)/\kitAny K (.ref C) (cs.map Value.ref)=some b)/\Q (.bl b) H
section
def Zef(he:PE X e ta)(hb:attributeBase e f X.env (eval e X.env)=eval e X.env):PE X (.Attribute e f pos) (Zpi X.K ta f):=by
 intro pins s σ H Q I h;refine Ziv hb (thn (he pins s σ H _ I h) fun u s1 h_q=>?_);obtain⟨x,H1,I1,rx,a,C,dx,fs,v,ex,ea,ed,g,n,l,q⟩:=h_q;subst ex;obtain rfl:u=Value.ref a:=rx;obtain⟨ob,od,mA,J,hl,r⟩:=XT.inst I1.hok ea ed;obtain⟨u,hu,ru⟩:=Zfs.some_of (v:=v) (o:=mA f) (by rw[<- l];exact r f);exact Zhb I1.kIn J g.ga g.gk g.up (findObj_own g.hd n rfl (by rw[hl,hu])) (Zfj ru) ⟨v,H1,I1.tok _,ru,q⟩
def ZiZ:Zaj X (.builtin "isinstance") (ZuY X.K):=by
 intro pins s σ H xs us Q I r h;obtain⟨a,C,dx,fs,c,b,rfl,ea,ed,g,hc,q⟩:=h;obtain⟨u,v,rfl,ru,rv⟩:=r.two;cases ru;obtain⟨ob,od,mA,J,hl,_⟩:=XT.inst I.hok ea ed;rcases hc with⟨D,rfl,hc⟩|⟨T,rfl,hc⟩|⟨p,cs,rfl,ht,hc⟩
 .cases rv;exact Y5 (Zd6 g) I.kIn J hc (fun z=>nomatch z) fun tk=>⟨.bl b,H,I.tok tk,rfl,q⟩
 .cases rv;exact Y5 (Zd6 g) I.kIn J hc (fun z=>nomatch z) fun tk=>⟨.bl b,H,I.tok tk,rfl,q⟩
 .cases rv;obtain⟨its,r',pl,_⟩:=I.tuple ht;have e:=Zdk r';subst e;have hp:∃dd n sl,s.heap.get? p=some ⟨.type "tuple",dd,.seq (cs.map Value.ref).toArray n,sl⟩:=by
   obtain⟨⟨oc,od',da,sl⟩,ho,hc,n,hd⟩:=(show IsTup s.heap p (cs.map Value.ref).toArray from by first|exact pl|exact pl.isTup|(obtain⟨o,n,e,c,_,d,_⟩:=pl;exact⟨o,e,c,n,d⟩));cases hc;cases hd;exact⟨_,n,_,ho⟩
  obtain⟨dd,n,sl,hp⟩:=hp;exact kia_tup (Zd6 g) I.kIn J hp hc (fun z=>nomatch z) fun tk=>⟨.bl b,H,I.tok tk,rfl,q⟩
end
def oX(C dx:Addr):AO:=.oth fun K H a=>H a=some (XT a C dx)
def oXd(fs:List (Str×U)):AO:=.oth fun K H a=>∃gs,H a=some (.xd gs)/\RFs K H fs gs
section
variable{K:YFr}
def Zt0(h:H a=some (XT a C dx)):RO K H a (oX C dx):=⟨⟨_,h⟩,h,fun H1 H2 h1 _ e=>e.trans h1⟩
def Zq1(h:H a=some (.xd gs))(r:RFs K H fs gs):RO K H a (oXd fs):=⟨⟨_,h⟩,⟨gs,h,r⟩,fun H1 H2 ⟨gs,h1,r1⟩ k e=>⟨gs,e.trans h1,r1.same k⟩⟩
def ZrS(K:YFr)(ae:AE)(f:Str):AE:=fun ρ A Q=>ae ρ A fun x A1=>∃a C dx fs u,x=.ref a/\A1 a=some (oX C dx)/\A1 dx=some (oXd fs)/\ZkW K C/\ZaE K C f/\fs.lookup f=some u/\Q u A1
def ZdS(he:AbE K te ae):AbE K (Zpi K te f) (ZrS K ae f):=fun ρ A σ H Q' Q hs g w k =>
 he ρ A σ H _ _ hs g w fun x A1 v H1 k1 g1 r1 hq0=>by
  obtain⟨a,C,dx,fs,u,e,h1,h2,h3,h4,h5,q⟩:=hq0
  subst e
  cases r1
  obtain⟨_,q1,_⟩:=g1 a _ h1
  obtain⟨_,⟨gs,q2,rf⟩,_⟩:=g1 dx _ h2
  obtain⟨v,hv,rv⟩:=rf.look h5
  exact⟨a,C,dx,gs,v,rfl,q1,q2,h3,h4,hv,k _ _ _ _ k1 g1 rv q⟩
def Zwi(K:YFr):List U->AHp->AVK->Prop:=fun us A Q=>∃a C dx fs c b,us=[.ref a,c]/\A a=some (oX C dx)/\A dx=some (oXd fs)/\ZkW K C /\
 ((∃D,c=.ref D/\PySem.W.kitOne K (.ref C) (.ref D)=some b)\/(∃T,c=.ty T/\PySem.W.kitOne K (.ref C) (.type T)=some b)\/∃cs:List Addr,c=.tup (cs.map U.ref)/\kitAny K (.ref C) (cs.map Value.ref)=some b)/\Q (.bl b) A
def ZeJ : AbL K (ZuY K) (Zwi K):=fun xs us A H Q' Q r g h k=>by
 obtain⟨a,C,dx,fs,c,b,rfl,h1,h2,h3,hc,q⟩:=h
 cases r with
 | cons r1 r=>cases r with
  | @cons _ v _ _ r2 r =>
   cases r;cases r1
   obtain⟨_,q1,_⟩:=g a _ h1
   obtain⟨_,⟨gs,q2,rf⟩,_⟩:=g dx _ h2
   refine⟨a,C,dx,gs,v,b,rfl,q1,q2,h3,?_,k _ _ _ _ (.refl H) g (.bl b) q⟩
   rcases hc with⟨D,rfl,hc⟩|⟨T,rfl,hc⟩|⟨cs,rfl,hc⟩
   .cases r2;exact .inl ⟨D,rfl,hc⟩
   .cases r2;exact .inr (.inl ⟨T,rfl,hc⟩)
   .cases r2 with
    | tup ht hs =>
     have:=hs.refs
     subst this
     exact .inr (.inr ⟨_,cs,rfl,ht,hc⟩)
end
section
def Inv.remember(I:Inv X pins σ H s)(hn:H a=none)(nw:New X pins a)(ho:s.heap.get? a=some ob)(h2:ob.cls=.ref C)(h3:ob.dict=some dx)(hd:ob.data=.fields vs):Inv X pins σ (upd H a (XT a C dx)) s:=by
 have ne:∀b o,H b=some o->b≠a:=fun b o h e=>by rw[e,hn]at h;cases h
 have kp:∀b o,H b=some o->upd H a (XT a C dx) b=some o:=fun b o h=>by rw[Zr (ne b o h)];exact h
 have u:=I.base;have nL:X.env.locals≠a:=fun e=>by
  obtain⟨m,⟨o',es,ep,ho',rr⟩,_⟩:=I.loc;rw[e,ho]at ho';cases ho';rw[rr.1]at hd;cases hd
 have nC:∀x c,X.env.cells.lookup x=some c->c≠a:=fun x c hc e=>by
  obtain⟨v,o',ho',hv⟩:=I.cell x c hc;rw[e,ho]at ho';cases ho';rw[hv]at hd;cases hd
 refine⟨I.ok,I.os,I.bare,⟨u.keep,u.slot,fun b o x y z=>?_,u.there,fun b xs z=>kp b _ (u.tups b xs z),fun b o v z=>kp b _ (u.frzs b o v z),fun b ps z=>?_⟩,I.loc,I.cell,by rw[Zr nL];exact I.free,fun x c z=>by rw[Zr (nC x c z)];exact I.freeC x c z,fun p hp=>?_,fun c v hc=>?_,I.len⟩
 .rw[Zr fun e=>absurd (Ym x) (by rw[e];exact Nat.not_lt.mpr nw.1)];exact u.free b o x y z
 .obtain⟨m,y⟩:=u.tbls b ps z;exact⟨m,kp b _ y⟩
 .obtain⟨p1,p2,p3⟩:=I.pin p hp;exact⟨p1,by rw[Zr (nw.2 p hp)];exact p2,p3⟩
 .by_cases e:c=a
  .subst e;rw[Zv]at hc;cases hc;exact XT.ok ho h2 h3 hd
  .rw[Zr e]at hc;exact(I.hok c v hc).stay (fun _ _ _ z=>z) (fun b z=>kp b _ z) fun b xs z=>kp b _ z
def Zew(I:Inv X pins σ H s)(hN:X.N.Nodup)(hi:X.N[i]? = some x)(hk:X.env.kindOf x=some .local)(h:∀s',Inv X pins (σ.set i none) H s'->Q () s'):wpAny M A (do bindName X.env x .none;unbindBehindTheSuite X.env x pos) Q E s:=by
 obtain⟨m,hn,hl⟩:=id I.loc;have hcls:(X.env.scope.kind==.class||(X.env.scope.kind==.module&&X.env.locals != X.env.globals))=false:=by rw[I.ok.kind];rfl
 have hiσ:i<σ.length:=by rw[I.len];exact(Yh.mp hi).1
 have cne:=I.cne;refine wpAny_nameGoes_keeps hk hn hcls fun h' v hn' hs=>?_;obtain⟨oL,_,_,hoL,_⟩:=id hn;refine h _ ⟨I.ok,I.os,I.bare,⟨fun b o e n hb hx=>(hs.2 b (Yo (YI (Ym e) I.ok.above))).trans (I.base.keep b o e n hb hx),fun b o e n hb hx=>?_,I.base.free,fun b o e hx=>?_,I.base.tups,I.base.frzs,I.base.tbls⟩,⟨_,hn',fun j y v' e1 e2 e3=>?_⟩,fun y c e=>?_,I.free,I.freeC,fun p hp=>?_,fun b ob e=>?_,by simpa using I.len⟩
 .obtain⟨sl,e1⟩:=I.base.slot b o e n hb hx;exact⟨sl,(hs.2 b (Yo (YI (Ym e) I.ok.above))).trans e1⟩
 .obtain⟨o',e1⟩:=I.base.there b o e hx;exact⟨o',(hs.2 b (Yo (YI (Ym e) I.ok.above))).trans e1⟩
 .by_cases hj:j=i
  .subst hj;rw[Ybk hiσ]at e2;cases e2
  .rw[Ybm (Ne.symm hj)]at e2;obtain⟨u',r',q⟩:=hl j y v' e1 e2 e3;refine⟨u',r',?_⟩;rcases q with⟨k,e⟩|⟨k,c,e,z⟩
   .refine .inl ⟨k,?_⟩;have:y≠x:=fun e=>hj (Zad hN e1 (e▸hi));simp[this,e]
   .exact .inr ⟨k,c,e,z.sameBut hs (cne y c e)⟩
 .obtain⟨w',z⟩:=I.cell y c e;exact⟨w',z.sameBut hs (cne y c e)⟩
 .obtain⟨e,n,ne,nf,d⟩:=I.pin p hp;exact⟨(hs.2 p.1 ne).trans e,n,ne,nf,d⟩
 .refine(I.hok b ob e).stay (fun c w' hc q=>(hs.2 c ?_).trans q) (fun _ q=>q) fun _ _ q=>q;rintro rfl;rcases hc with rfl|hc
  .rw[I.free]at e;cases e
  .rw[I.free]at hc;cases hc
end
def Zez.goes(D:Zez)(j:Nat):Zez:={ nx:=fun σ H=>D.nx (σ.set j none) H,rt:=D.rt,bk:=fun σ H=>D.bk (σ.set j none) H,ct:=fun σ H=>D.ct (σ.set j none) H }
section
def SP.goes(hN:X.N.Nodup)(hj:X.N[j]? = some n)(hk:X.env.kindOf n=some .local)(h:SP X pins (Dn.goes j) fl s'):
  wpAny M A (do bindName X.env n .none;unbindBehindTheSuite X.env n hp) (fun _ s5=>SP X pins Dn fl s5) E s':=by
 cases fl with
 | next=>obtain⟨σ',H',I,q⟩:=h;exact Zew I hN hj hk fun s5 I5=>⟨_,H',I5,q⟩
 | brk=>obtain⟨σ',H',I,q⟩:=h;exact Zew I hN hj hk fun s5 I5=>⟨_,H',I5,q⟩
 | cont=>obtain⟨σ',H',I,q⟩:=h;exact Zew I hN hj hk fun s5 I5=>⟨_,H',I5,q⟩
 | ret u=>obtain⟨v,σ',H',I,r,q⟩:=h;exact Zew I hN hj hk fun s5 I5=>⟨v,_,H',I5,r,q⟩
end
def ZaL.goes(D:ZaL)(j:Nat):ZaL:={ nx:=fun ρ A=>D.nx (ρ.set j none) A,rt:=D.rt,bk:=fun ρ A=>D.bk (ρ.set j none) A,ct:=fun ρ A=>D.ct (ρ.set j none) A }
section
variable{K:YFr}
def RSt.unset:∀ {ρ:ASt} {σ:St} (i:Nat),RSt K H ρ σ->RSt K H (ρ.set i none) (σ.set i none)
 | _,_,_,.nil=>.nil
 | _,_,0,.skip r=>.skip r
 | _,_,i+1,.skip r=>.skip (RSt.unset i r)
 | _,_,0,.cons h r=>.skip r
 | _,_,i+1,.cons h r=>.cons h (RSt.unset i r)
def ZkB.goes(h:ZkB K H D' D)(j:Nat):ZkB K H (D'.goes j) (D.goes j) :=
 ⟨fun _ _ _ _ k g r q=>h.nx _ _ _ _ k g (RSt.unset j r) q,h.rt,fun _ _ _ _ k g r q=>h.bk _ _ _ _ k g (RSt.unset j r) q,fun _ _ _ _ k g r q=>h.ct _ _ _ _ k g (RSt.unset j r) q⟩
def HR.newX(g:HR K H A)(hd:H dx=some (.xd gs))(r:RFs K H fs gs)(ha:H a=Option.none):HR K (upd H a (XT a C dx)) (updA (updA A dx (oXd fs)) a (oX C dx)):=by
 have g1:HR K H (updA A dx (oXd fs)):=fun b o e=>by
  by_cases h:b=dx
  .subst h;rw[Zc]at e;cases e;exact Zq1 hd r
  .rw[Zn h]at e;exact g b o e
 exact g1.putO (Zat.upd_new ha).kp (Zt0 Zv)
def ZrP{D:ZaL}:D.goes j={ nx:=fun ρ A=>D.nx (ρ.set j none) A,rt:=D.rt,bk:=fun ρ A=>D.bk (ρ.set j none) A,ct:=fun ρ A=>D.ct (ρ.set j none) A }:=rfl
def Zso:ZrS K ae f ρ A Q=ae ρ A fun x A1=>∃a C dx fs u,x=.ref a/\A1 a=some (oX C dx)/\A1 dx=some (oXd fs)/\ZkW K C/\ZaE K C f/\fs.lookup f=some u/\Q u A1:=rfl
end
def ZoM:ZbX (CXX X.prog X.w) X E0:=by
 rintro pins σ H s e s' I ⟨a,H',rfl,_,_,_,_,C,dx,ob,vs,_,_,_,_,_,_,_,z⟩;exact z.elim
def ZmM(K:YFr)(H0:Hp)(C:Addr)(m:Str)(sp:Sp)(E:XK)(ta:TE)(t:TA):TE:=fun σ H Q=>ta σ H fun x H1=>∃a dx fs,x=.ref a/\H1 a=some (.ins C dx fs)/\fs.lookup m=none/\t σ H1 fun vs H2=>Kp K H0 H2->sp (x::vs) H2 Q E
section
def Zge(B:Bod X)(he:PE (X.wish (XF X E)) o ta)(c:Cls X.K C)(hm:Zpb X.K C m f)(F:ZbB X.prog X.w X.K X.mg X.base (CXX X.prog X.w) k f fd ps sp)(hr:Zbb k X.A)(hb:Zb7 X.K fd ps [])(ha:PA (X.wish (XF X E)) (e::es) t)(hst:starEach (e::es) X.env=(false,eval e X.env)::starEach es X.env:=by rfl)(hpl:(backTo pos (starEach es X.env)).any (·.1)=false:=by rfl)(ht : eval (.Call (.Attribute o m apos) (e::es) [] pos) X.env=(do
   let ov <- eval o X.env
   standAt apos.atName
   let(f,first) <- holding [ov] (getMethod ov m pl)
   callWith pos f first (backTo pos (starEach (e::es) X.env)) (backToKw pos (keywordEach [] X.env))):=by rfl):
  PE (X.wish (XF X E)) (.Call (.Attribute o m apos) (e::es) [] pos) (ZmM X.K X.H₀ C m sp E ta t):=by
 intro pins s σ H Q I h;refine methodCall_KW (pl:=pl) (thn (he pins s σ H _ I h) fun u s1 ⟨x,H1,I1,rx,a,dx,fs,ex,ea,l,q⟩=>?_) ht;subst ex;obtain rfl:u=Value.ref a:=rx;refine Zch I1 ea c hm l (Yaz (first:=[.ref a]) (h₀:=X.base) I.ok.mod.kin hm.kp (thn (ha pos pins s1 σ H1 _ I1 q) fun us s2 ⟨vs,H2,I2,r,q2⟩=>⟨I2.kIn,?_⟩) hst hpl);exact Zfk (X:=X.wish (XF X E)) (dvs:=[]) (us:=.ref a::us) (vs:=.ref a::vs) F hr hb .nil (ZjV B) I2 (.cons rfl r) (by rw[YN];exact q2 I2.base.kp)
end
def Zmj(C:Addr)(m:Str)(asp:Zc7)(X':AXK)(aa:AE)(l:AA):AE:=fun ρ A Q=>aa ρ A fun x A1=>∃a dx fs,x=.ref a/\A1 a=some (.ins C dx fs)/\fs.lookup m=none/\l ρ A1 fun us A2=>asp (x::us) A2 Q X'
section
variable{K:YFr}
def Zgv(hE:ZhO K H0 X' E)(ha:AbE K ta aa)(hl:AbA K t l):AbE K (ZmM K H0 C m (Zcm K asp) E ta t) (Zmj C m asp X' aa l):=fun ρ A σ H Q' Q hs g w k =>
 ha ρ A σ H _ _ hs g w fun x A1 v1 H1 k1 g1 r1 hq0=>by
  obtain⟨a,dx,fs,e1,e2,e3,q⟩:=hq0
  subst e1
  cases r1
  obtain⟨gs,h1,h2⟩:=g1.ins e2
  refine⟨a,dx,gs,rfl,h1,h2.miss e3,hl ρ A1 σ H1 _ _ (hs.same k1) g1 q fun us A2 vs H2 k2 g2 r2 q2 k0=>⟨.ref a::us,A2,Q',X',.cons (.ref a) r2,g2,q2,fun z A3 v3 H3 k3 h3 r3 q3=>k _ _ _ _ (k1.trans (k2.trans k3)) h3 r3 q3,hE.same k0⟩⟩
def Zoo:Zmj C m asp X' aa l ρ A Q=aa ρ A fun x A1=>∃a dx fs,x=.ref a/\A1 a=some (.ins C dx fs)/\fs.lookup m=none/\l ρ A1 fun us A2=>asp (x::us) A2 Q X':=rfl
end
abbrev TSX:=Zez->St->Hp->XK->Prop
def PSX(X:Cx)(sts:List Stmt)(t:TSX):Prop :=
 ∀(pins:List (Addr×Obj))(s:Shared)(σ:St)(H:Hp)(D:Zez)(E:XK),Inv X pins σ H s->t D σ H E->wpAny (model X.prog X.w) X.A (execs sts X.env) (SP X pins D) (XE X pins σ E) s
def Zvs(tx:TX):TSX:=fun D σ H E=>tx σ H (fun _ H'=>D.nx σ H') E
def ZpH(K:YFr)(D:Addr)(j:Nat)(tb:TSX)(th:TS):TS:=fun Dn σ H=>tb Dn σ H fun c dxo H'=>∃C dx,c=.ref C/\dxo=some dx/\ZaG K C D true /\
 ∀a,H' a=none->th (Dn.goes j) (σ.set j (some (.ref a))) (upd H' a (XT a C dx))
section
def Zgr(he:PEX X e tx)(hs:swapsWith e none pos.line X.env=pure false:=by rfl):PSX X [.Expr e pos] (Zvs tx):=by
 intro pins s σ H D E I h;exact YbC (wpAny_Expr_any (thn (he pins s σ H _ E I h) fun v s1 ⟨x,H1,I1,r1,q1⟩=>YaM ⟨σ,H1,I1,q1⟩) I.quiet hs)
def ZnC(B:Bod X)(hN:X.N.Nodup)(hj:X.N[j]? = some n)(hk:X.env.kindOf n=some .local)(hb:PSX X sts tb)(hg:Gl X x)(hm:X.mg x=some (.ref D))(hsu:∀a,PSs (X.mkd a) (b0::su) th)(hdb:(x==("__debug__":Str))=false:=by decide):
  PS X (.Try sts [.ExceptHandler (some (.Name x px)) (some n) (b0::su) hp] [] [] pos) (ZpH X.K D j tb th):=by
 intro pins s σ H Dn I h;refine wpAny_Try_except (YG (hb pins s σ H _ _ I h) (fun fl s1 q1=>?_) fun ev s1 hx=>?_)
 .cases fl with
  | next=>exact YaM q1
  | brk=>exact q1
  | cont=>exact q1
  | ret u=>exact q1
 .obtain⟨H1,s0,I0,a,H',rfl,hos,hg',u,hok,f⟩:=hx;have I1:=I0.call' (ch:=[]) hos u hok hg' fun b hb=>absurd hb (by simp);have f1:ZhK X pins σ _ False (Zpf X) a s1:=⟨H',I1,f.weak (fun b hb=>I0.newA hb) (fun z=>z) fun v hv=>.inl hv⟩;refine ZcK B f1 fun s2 f2=>Zcq B f2 fun s3 f3=>?_;have f3':=f3;obtain⟨H3,I3,C,dx,ob,vs,g1,g2,g3,g4,g5,g6,st,C',dx',ec,ed,hcc,q⟩:=f3;cases ec;cases ed;refine Ze4 (C:=C) (Za0 (X:=X.mkd a) I3.mkd hg hm ⟨rfl,⟨ob,g3,g4⟩,hcc.at I3.kIn,Zcq B f3' fun s4 f4=>?_⟩ hdb);obtain⟨H4,I4,C4,dx4,ob4,vs4,n4,hn4,o4,c4,d4,w4,_,C'',dx'',ec',ed',_,q⟩:=f4;cases ec';cases ed';have I5:=I4.remember hn4 n4 o4 c4 d4 w4;exact ZcF (v:=.ref a) I5 hN hj (.inl hk) rfl (fun s5 I6=>YG (hsu a pins s5 _ _ (Dn.goes j) I6.mkd (q a hn4)) (fun f s' z=>(z.unmkd I.ok).goes hN hj hk) fun _ _ z=>False.elim z) (.inr hk)
end
abbrev ASX:=ZaL->ASt->AHp->AXK->Prop
def ZuP(K:YFr)(tb:TSX)(ab:ASX):Prop:=∀ρ A σ H D' X' D E,RSt K H ρ σ->HR K H A->ab D' ρ A X'->ZkB K H D' D->ZhO K H X' E->tb D σ H E
def Zvq(ax:AX):ASX:=fun D ρ A X'=>ax ρ A (fun _ A'=>D.nx ρ A') X'
def ZqZ(K:YFr)(D:Addr)(j:Nat)(ab:ASX)(ah:AS):AS:=fun Dn ρ A=>ab Dn ρ A fun C fs A'=>ZaG K C D true /\
 ∀a dx,A' a=none->A' dx=none->a≠dx->ah (Dn.goes j) (ρ.set j (some (.ref a))) (updA (updA A' dx (oXd fs)) a (oX C dx))
section
variable{K:YFr}
def ZeH(hx:AbX K tx ax):ZuP K (Zvs tx) (Zvq ax):=fun ρ A σ H D' X' D E hs g w k kx =>
 hx ρ A σ H _ _ _ _ hs g w (fun u A' v H' k' g' r' q=>k.nx _ _ _ _ k' g' (hs.same k') q) kx
def Znu(hx:ZuP K tb ab)(hh:AbS K th ah):AbS K (ZpH K D j tb th) (ZqZ K D j ab ah):=fun ρ A σ H D' Dn hs g w k =>
 hx ρ A σ H _ _ _ _ hs g w k fun C dx fs gs A' H' k' g' n' d' rf ⟨c,q⟩=>⟨C,dx,rfl,rfl,c,fun a ha=>by
  have hne:a≠dx:=fun e=>by rw[e,d']at ha;cases ha
  have sm:=Zat.upd_new (o:=XT a C dx) ha
  have k2:=k'.trans (sm.kp (K:=K))
  exact hh _ _ _ _ _ _ (RSt.set (.ref a) j (hs.same k2)) (g'.newX d' rf ha) (q a dx (g'.none ha) n' hne) ((k.same k2).goes j)⟩
def Zt7:Zvq ax Dn ρ A X'=ax ρ A (fun _ A'=>Dn.nx ρ A') X':=rfl
def Zqr:ZqZ K D j ab ah Dn ρ A=(ab Dn ρ A fun C fs A'=>ZaG K C D true /\
 ∀a dx,A' a=none->A' dx=none->a≠dx->ah (Dn.goes j) (ρ.set j (some (.ref a))) (updA (updA A' dx (oXd fs)) a (oX C dx))):=rfl
end
def okT:V->Prop:=fun v=>∃z:Str,v=.str z/\z.length<=1000
def Zwl:U->Prop:=fun u=>∃z:Str,u=.str z/\z.length<=1000
def Zve{K:YFr}(u:U)(v:V)(H:Hp)(r:RU K H u v)(h:Zwl u):okT v:=by
 obtain⟨n,rfl,h⟩:=h;cases r;exact⟨n,rfl,h⟩
def Zwc(h1:t1.length<=4000)(y v:V)(H:Hp)(Q:VK)(hv:okT v)(q:∀z,Q (.str z) H):tFs (ZdC (tC (.str t1)) (ZdC (ZtY (Zjh 1)) ZnY)) [some y,some v] H Q:=by
 obtain⟨z,rfl,hz⟩:=hv;have L:∀ {z:Str},z.length<=13000->z.length<=sizeLine:=fun h=>YB h (by rw[Y8];decide);have e0:Str.empty.length=0:=rfl;refine⟨_,rfl,L (by rw[Str.length_append];lia),_,rfl,z,rfl,L (by lia),_,rfl,L (by rw[Str.length_append,Str.length_append];lia),L (by rw[Str.length_append,Str.length_append];lia),q _⟩
def Zwf(h1:t1.length<=4000)(h2:t2.length<=4000)(y v:V)(H:Hp)(Q:VK)(hv:okT v)(q:∀z,Q (.str z) H):tFs (ZdC (tC (.str t1)) (ZdC (ZtY (Zjh 1)) (ZdC (tC (.str t2)) ZnY))) [some y,some v] H Q:=by
 obtain⟨z,rfl,hz⟩:=hv;have L:∀ {z:Str},z.length<=13000->z.length<=sizeLine:=fun h=>YB h (by rw[Y8];decide);have e0:Str.empty.length=0:=rfl;refine⟨_,rfl,L (by rw[Str.length_append];lia),_,rfl,z,rfl,L (by lia),_,rfl,L (by rw[Str.length_append,Str.length_append];lia),_,rfl,L (by rw[Str.length_append,Str.length_append,Str.length_append];lia),L (by rw[Str.length_append,Str.length_append,Str.length_append];lia),q _⟩
section
variable{K:YFr}
def ZgA{st:Stmt}(X:XCl K C g)(n:ZaE K C fl)(hp:ps.length=2)(hN:N=ps)(hf:∀ (y v:V) (H:Hp) (Q:VK),okV v->(∀ z,Q (.str z) H)->tf [some y,some v] H Q)(h : ∀ cdv A outer s H E,Zbb 0 (A.deeper (envOfC qual sc s.heap.objs.size f cdv))->PSs (Zds CX0 P w K mg base N qual sc f cdv A outer s H E).nox (ZaQ st)
   (ZsA (ZkN (Zur K (ZdW (Zjh 0) (ZdW tf ZkZ)))) (Zoa K (Zjh 0) (Zjh 1) fl)))(Fn:Fun K x qual st f fd)(hs:ZN st=sc)(S:Zao N ps (ZN st)):
  ZbB P w K mg base CX0 1 f fd ps (Zf7 C fl okV):=by
 have hσ:∀a b:V,L2.start N [a,b]=[some a,some b]:=fun a b=>by
  unfold L2.start;rw[hN,hp];rfl
 refine Fn.ok2 hs rfl S (fun vs H Q E hq0=>by obtain⟨x,v,e,_⟩:=hq0;rw[e,hp];rfl) fun _ cdv A outer s H vs Q E hr ⟨y,v,e,hv,hx,q⟩=>⟨_,h cdv A outer s H E hr,?_⟩;subst e;rw[hσ];exact⟨_,rfl,hf (.ref y) v H _ hv fun z=>⟨y,C,g,_,rfl,hx,X,⟨_,rfl,_,rfl,y,C,g,rfl,hx,X,n,fun dx hd hne=>q dx hd hne⟩⟩⟩
end
def Zht(t:SetTable)(es:Array (Int×Value))(h:Int)(x:Value):(layNew t es h x).2.1.led=t.led:=by
 unfold layNew;split
 .dsimp only;unfold SetTable.orStandIn;split
  .rfl
  .rfl
 .rfl
def Zio(t:SetTable)(es:Array (Int×Value))(n:Nat):(relayAll t es n).2.1.led=t.led/\(t.plain=false->(relayAll t es n).2.1.plain=false):=by
 unfold relayAll;split
 .rename_i t' order e;dsimp only;split
  .unfold SetTable.relaid SetTable.laid at e;obtain⟨ow,_,e⟩:=Option.bind_eq_some_iff.mp e;cases e;exact⟨rfl,id⟩
  .exact⟨rfl,fun _=>rfl⟩
 .exact⟨rfl,fun _=>rfl⟩
def ZbW(P:Program)(w:World)(h:Heap)(a:Addr)(ks:List Str):Prop :=
 ∃o es ep t,h.get? a=some o/\o.ExactSet/\o.data=.set es ep t/\ElemsOf (strKind P w) es.toList/\(∃l:List (Str×Tok),es.toList.map (·.2)=strValues l/\(l.map (·.1)).Perm ks)/\es.size<scanBound/\t.fits es.size=true /\
  (w.params.followText "set-order"=true\/t.led=true)/\(es.size=0\/t.plain=false)
variable{P:Program}{w:World}{A:Around}{E:Value->Shared->Prop}{s:Shared}{a:Addr}{ks:List Str}{h:Heap}
def ZeD:Value.isStrOf z (.str x tk)=decide (x=z):=by
 show(x==z)=_;by_cases e:x=z<;>simp[e]
def ZbW.typeIs(hS:ZbW P w s.heap a ks):s.TypeIs (.ref a) "set":=let⟨o,_,_,_,e,x,_⟩:=hS;⟨o,e,x.1⟩
def Zeb{es:List (Int×Value)}(h:es.map (·.2)=strValues l)(z:Str):(∃e∈es,Value.isStrOf z e.2=true)↔z∈l.map (·.1):=by
 constructor
 .rintro⟨e,he,hz⟩;have h1:e.2∈strValues l:=h▸List.mem_map_of_mem he;obtain⟨p,hp,e2⟩:=YQ.mp h1;rw[<- e2,ZeD,Ya2]at hz;exact YQ.mpr ⟨p,hp,hz⟩
 .intro hz;obtain⟨p,hp,rfl⟩:=YQ.mp hz;have h1:Value.str p.1 p.2∈es.map (·.2):=h▸YQ.mpr ⟨p,hp,rfl⟩;obtain⟨e,he,e2⟩:=YQ.mp h1;exact⟨e,he,by rw[e2,ZeD];exact YC rfl⟩
def Zde{es es':List (Int×Value)}(h:es.map (·.2)=strValues l)(p:es'.Perm es):∃l',es'.map (·.2)=strValues l'/\l'.Perm l:=by
 induction p generalizing l with
 | nil=>cases l with
  | nil=>exact⟨[],rfl,.nil⟩
  | cons=>cases h
 | @cons x l1 l2 p ih=>cases l with
  | nil=>cases h
  | cons y l =>
   injection h with h1 h2
   obtain⟨l',e,q⟩:=ih h2;exact⟨y::l',by rw[Yq,e,show x.2=Value.str y.1 y.2 from h1];rfl,q.cons y⟩
 | @swap x y l1=>cases l with
  | nil=>cases h
  | cons u l=>cases l with
   | nil=>injection h with h1 h2;cases h2
   | cons v l =>
    injection h with h1 h2
    injection h2 with h2 h3
    exact⟨v::u::l,by rw[Yq,Yq,show x.2=Value.str u.1 u.2 from h1,show y.2=Value.str v.1 v.2 from h2,h3];rfl,.swap ..⟩
 | trans p q ih1 ih2 =>
  obtain⟨l1,e1,q1⟩:=ih2 h;obtain⟨l2,e2,q2⟩:=ih1 e1;exact⟨l2,e2,q2.trans q1⟩
def ZeE(ho:h.get? a=some o)(hd:o.data=.set es ep t):
  (h.update a (Obj.putSet es' t')).get? a=some { o with data:=.set es' (ep+1) t' }:=by
 rw[<- putSet_of es' t' hd];exact YD _ ho (by rw[putSet_of es' t' hd];rfl)
def ZiA{g:Bool->Sem Unit}(hg:∀b s1 Q1,Q1 () s1->wpAny (model P w) A (g b) Q1 E s1)(ho:s.heap.get? a=some o)(hx:o.ExactSet)(hd:o.data=.set es ep t)(he:ElemsOf (strKind P w) es1.toList)(hl:es1.toList.map (·.2)=strValues l)(hp:(l.map (·.1)).Perm ks')(hb:es1.size<scanBound)(hf:t2.fits es1.size=true)(h1:w.params.followText "set-order"=true\/t2.led=true)(h2:t2.plain=false)(k:∀h',Heap.SameBut a s.heap h'->ZbW P w h' a ks'->R (some true) { s with heap:=h' }):
  wpAny (model P w) A (do
   storeSet a es1 t2
   if(!dm&&t2.tooFull)=true then do
     g (relayAll t2 es1 (SetTable.grown es1.size)).2.2
     storeSet a (relayAll t2 es1 (SetTable.grown es1.size)).1 (relayAll t2 es1 (SetTable.grown es1.size)).2.1
     pure (some true)
    else pure (some true)) R E s:=by
 refine Yb (wpAny_storeSet_of ho hd ?_ (fits_of_scanBound hb));have g1:=ZeE (es':=es1) (t':=t2) ho hd;have sb:=Yac s.heap a (Obj.putSet es1 t2);split
 .have pr:=relayAll_perm t2 es1 (SetTable.grown es1.size);have fr:=relayAll_fits t2 es1 (SetTable.grown es1.size);obtain⟨le,pl⟩:=Zio t2 es1 (SetTable.grown es1.size);generalize relayAll t2 es1 (SetTable.grown es1.size)=Z at pr fr le pl ⊢;obtain⟨es2,t3,gv⟩:=Z;dsimp only at pr fr le pl ⊢;have sz:es2.size=es1.size:=by rw[<- Array.length_toList,pr.length_eq,Array.length_toList]
  obtain⟨l2,e2,p2⟩:=Zde hl pr;refine Yb (hg _ _ _ (Yb (wpAny_storeSet_of g1 rfl (Yd (k _ (sb.trans (Yac _ a _)) ?_)) (fits_of_scanBound (sz▸hb)))));exact⟨_,es2,_,t3,ZeE g1 rfl,hx,rfl,he.perm pr,⟨l2,e2,(p2.map _).trans hp⟩,sz▸hb,fr,by rw[le];exact h1,.inr (pl h2)⟩
 .exact Yd (k _ sb ⟨_,es1,_,t2,g1,hx,rfl,he,⟨l,hl,hp⟩,hb,hf,h1,.inr h2⟩)
def ZdJ(ks:List Str)(z:Str):List Str:=if z∈ks then ks else ks++[z]
def ZdL(hS:ZbW P w s.heap a ks)(hr:ks.length+1<scanBound)(k:∀h' b,Heap.SameBut a s.heap h'->ZbW P w h' a (ZdJ ks z)->Q b { s with heap:=h' }):
  wpAny (model P w) A (setAddHashed a (.str z tk) ((strKind P w).hash z)) Q E s:=by
 obtain⟨o,es,ep,t,ho,hx,hd,he,⟨l,hl,hp⟩,hb,hf,h1,h2⟩:=hS;have hkey:(strKind P w).is z (.str z tk)=true:=strKind_is P w z tk;have hsz:es.size=ks.length:=by
  have:=congrArg List.length hl;rw[Yc,Array.length_toList]at this;rw[this,strValues,Yc,<- Yc (f:=(·.1)),hp.length_eq]
 unfold setAddHashed setAddHashedIn;refine YT (Yb (wpAny_setState_of ho hd hf ?_));dsimp only;rw[byScan_of (knd:=strKind P w) (x:=.str z tk) rfl hb he];simp only[↓reduceIte];unfold setAddByScan;refine Yb (Yb (Ya7 (Yb (wpAny_setScan_of hkey ho hd hf he ?_))));cases hq:List.findIdx? (fun e=>(strKind P w).is z e.2) es.toList with
 | some j =>
  dsimp only;obtain⟨hj,hpj,_⟩:=List.findIdx?_eq_some_iff_getElem.mp hq;have hz:z∈ks:=hp.mem_iff.mp ((Zeb hl z).mp ⟨_,YaX hj,hpj⟩);refine Yd (Yd ?_);have:=k s.heap false (Heap.SameBut.refl a s.heap) (by unfold ZdJ;rw[if_pos hz];exact⟨o,es,ep,t,ho,hx,hd,he,⟨l,hl,hp⟩,hb,hf,h1,h2⟩);exact this
 | none =>
  dsimp only;have hz:z∉ks:=fun m=>by
   obtain⟨e,me,hh⟩:=(Zeb hl z).mpr (hp.mem_iff.mpr m);have:=List.findIdx?_eq_none_iff.mp hq e me;rw[show(strKind P w).is z e.2=true from hh]at this;cases this
  have pm:=layNew_perm t es ((strKind P w).hash z) (.str z tk);have ft:=layNew_fits t es ((strKind P w).hash z) (.str z tk);have ld:=Zht t es ((strKind P w).hash z) (.str z tk);generalize layNew t es ((strKind P w).hash z) (.str z tk)=L at pm ft ld ⊢;obtain⟨es1,t1,dm,gv⟩:=L;dsimp only at pm ft ld ⊢;rw[Array.toList_push]at pm;have hs1:es1.size=es.size+1:=by rw[<- Array.length_toList,pm.length_eq,Ys,Array.length_toList];rfl
  have hl1:(es.toList++[((strKind P w).hash z,Value.str z tk)]).map (·.2)=strValues (l++[(z,tk)]):=by rw[Yt,hl];simp[strValues]
  obtain⟨l1,e1,q1⟩:=Zde hl1 pm;have q2:(l1.map (·.1)).Perm (ZdJ ks z):=by
   refine(q1.map _).trans ?_;unfold ZdJ;rw[if_neg hz,Yt];exact hp.append_right _
  have hb1:es1.size<scanBound:=by rw[hs1,hsz];exact hr
  have he1:ElemsOf (strKind P w) es1.toList:=(he.push hkey rfl).perm pm;have gw:∀(b:Bool)(s1:Shared)(Q1:Unit->Shared->Prop),Q1 () s1->wpAny (model P w) A (match b with|true=>rule "set.scan.the-table-gave-way" | false=>pure ()) Q1 E s1:=fun b s1 Q1 q=>by
   cases b
   .exact Yd q
   .exact Ya7 q
  refine Yb (gw _ _ _ ?_);split
  .refine Yb ?_;rw[hashByValue_scannable 8 rfl];refine Yd ?_;refine ZiA (P:=P) (w:=w) (fun b s1 Q1 q=>gw b s1 Q1 q) ho hx hd he1 e1 q2 hb1 (SetTable.fits_plain_off ft) (by rcases h1 with h1|h1;exact .inl h1;exact .inr (ld.trans h1)) rfl fun h' sb hS'=>?_;exact Yd (k h' true sb hS')
  .rename_i hpl;refine Yb (Yd ?_);simp only[↓reduceIte];refine ZiA (P:=P) (w:=w) (fun b s1 Q1 q=>gw b s1 Q1 q) ho hx hd he1 e1 q2 hb1 ft (by rcases h1 with h1|h1;exact .inl h1;exact .inr (ld.trans h1)) (by simpa using hpl) fun h' sb hS'=>?_;exact Yd (k h' true sb hS')
def ZlD(hS:ZbW P w s.heap a ks)(hr:ks.length+1<scanBound)(k:∀h',Heap.SameBut a s.heap h'->ZbW P w h' a (ZdJ ks z)->Q .none { s with heap:=h',toks:=s.toks+1 }):
  wpAny (model P w) A (call (.builtin "set.add") [.ref a,.str z tk]) Q E s:=by
 refine YY F.slot_set_add hS.typeIs F.entry_set_add ?_ (F.args_set_add_2 _ _);unfold Builtin.«set.add» Builtin.Frozenset.oneOther;simp only[List.isEmpty_nil,bind_assoc];unfold Builtin.Frozenset.addrOf setAdd;refine Yb (Yd (Yb (Yd (Yb (YT (Yb ((strKind P w).pyHash (strKind_is P w z tk) ?_)))))));exact ZdL (s:={ s with toks:=s.toks+1 }) hS hr fun h' b sb hS'=>Yd ⟨_,rfl,k h' sb hS'⟩
abbrev ZfL(w:World):Obj:={ cls:=.type "set",dict:=none,data:=.set #[] 0 (.fresh 0 0 (!w.params.followText "set-order")) }
variable{P:Program}{w:World}{A:Around}{E:Value->Shared->Prop}{s:Shared}{a:Addr}{ks:List Str}{h:Heap}
def Zmx(e:h.get? a=some (ZfL w)):ZbW P w h a []:=by
 refine⟨_,#[],0,_,e,⟨rfl,rfl,rfl⟩,rfl,fun x hx=>absurd hx (by simp),⟨[],rfl,.nil⟩,by decide,?_,?_,.inl rfl⟩
 .cases w.params.followText "set-order" <;> rfl
 .cases e:w.params.followText "set-order"
  .exact .inr rfl
  .exact .inl rfl
def Zjx(hc:checkBuiltinCall "set.__new__" ⟨.type "set"::r,[]⟩=pure ())(k:Q1 (.ref s.heap.objs.size) { s with heap:=s.heap.push (ZfL w) }):
  codeAny (model P w) A (.call (.builtin "set.__new__") ⟨.type "set"::r,[]⟩) (wants Q1 E) s:=by
 refine codeAny_of_tree ?_;show wpAny _ A.in1 (do
             checkBuiltinCall "set.__new__" ⟨.type "set"::r,[]⟩;again (.builtin "set.__new__" ⟨.type "set"::r,[]⟩)) _ _ s
 refine Yb (Ybt hc (Yd ⟨YaG F.plain_set_new _,Yar F.entry_set_new ?_⟩));rw[Yao F.plain_set_new _];unfold Builtin.«set.__new__» Builtin.Frozenset.newClass;have sb:=sub_set_self;obtain⟨hp,g,d,tk,os⟩:=s;dsimp only;wp_walk;refine wpAny_askSetting (Yd ?_);dsimp only;simp only[newObj];exact Yb (wpAny_alloc (Yd (Yd k)))
def ZjU(k:Q (.ref s.heap.objs.size) { s with heap:=s.heap.push (ZfL w) }):wpAny (model P w) A (call (.type "set") []) Q E s:=by
 obtain⟨c,tl,hmro⟩:=F.called_set.mro;have q1:=F.called_set.made;have q2:=F.called_set.sub;refine YaD (codeAny_of_tree ?_);show wpAny _ _ (callAny (.type "set") ⟨[],[]⟩) _ _ _;refine Yd ⟨Code.quiet_builtin _ (by decide +kernel),Yar F.entry_type_call ?_⟩;rw[Around.under_plain (weight_type_call_type "set" [] []) rfl];have q3:=F.called_set.notType;have q4:=F.called_set.canCreate;have q5:=F.typeCall_set_0;repeat (any_goals (first|assumption|wp_step))
 refine Yat (Zjx (P:=P) (w:=w) (r:=[]) (E:=E) (Q1:=fun ob s1=>ob=.ref s.heap.objs.size/\s1={ s with heap:=s.heap.push (ZfL w) }) F.newCall_set_0 ⟨rfl,rfl⟩) fun r s1 hr=>?_;cases r with
 | error e=>exact hr
 | ok fl =>
  cases fl with
  | ret ob =>
   obtain⟨rfl,rfl⟩:=hr;have hT:Shared.TypeIs { s with heap:=s.heap.push (ZfL w) } (.ref s.heap.objs.size) "set":=⟨_,Yl _ rfl,rfl⟩;have q6:=F.called_set.init.lookup;have q7:=F.called_set.init.bind (.ref s.heap.objs.size);have hS:(s.heap.push (ZfL w)).get? s.heap.objs.size=some (ZfL w):=Yl _ rfl;repeat (any_goals (first|assumption|wp_step))
   refine Yat (codeAny_call_builtin (R:=wants (fun r s2=>r=.none/\Q (.ref s.heap.objs.size) s2) E) F.called_set.init.plain F.entry_set_init (check_set_init hT ?_)) fun r2 s2 hr2=>?_
   .unfold Builtin.«set.__init__» noKeywords;wp_walk;exact⟨rfl,k⟩
   .cases r2 with
    | error e=>exact hr2
    | ok f2 =>
     cases f2 with
     | ret r =>
      obtain⟨rfl,hq⟩:=hr2;repeat (any_goals (first|assumption|wp_step))
     | _=>exact hr2.elim
  | _=>exact hr.elim
def Zgd(ks:List Str)(z:Str):(ZdJ ks z).length<=ks.length+1:=by unfold ZdJ;split<;>simp
def ZbA(zs:List Str)(i:Nat):List Str:=(zs.take i).foldl ZdJ []
theorem Zbw(zs:List Str):∀i,(ZbA zs i).length<=i
 | 0=>by simp[ZbA]
 | i+1=>by
  unfold ZbA
  rcases Nat.lt_or_ge i zs.length with h|h
  .rw[List.take_succ_eq_append_getElem h,List.foldl_append]
   exact YB (Zgd _ _) (Nat.succ_le_succ (Zbw zs i))
  .rw[Yaa (by lia),<- Yaa h]
   exact Nat.le_succ_of_le (Zbw zs i)
def Zdy(h:zs[i]? = some z):ZbA zs (i+1)=ZdJ (ZbA zs i) z:=by
 obtain⟨hl,e⟩:=Yh.mp h;unfold ZbA;rw[List.take_succ_eq_append_getElem hl,List.foldl_append,e];rfl
section
variable{St:Nat->Shared->Prop}
def ZbW.moved(hS:ZbW P w s.heap a ks)(hm:Moved wr G s s')(hn:a∉wr):ZbW P w s'.heap a ks:=by
 obtain⟨o,es,ep,t,ho,r⟩:=hS;exact⟨o,es,ep,t,hm.heap a _ hn ho,r⟩
def Zlf(W:WalksS P w A.in1 I fp wr G n Pv St)(S:Addr)(hf:S∉fp)(zs:List Str)(hz:zs.length=n)(hv:∀i v,Pv i v->∃z t,zs[i]? = some z/\v=.str z t)(hb:n+1<scanBound):
  ∀(k i:Nat)(s:Shared),n-i=k->i<=n->St i s->ZbW P w s.heap S (ZbA zs i)->(∀s',Moved (S::wr) G s s'->ZbW P w s'.heap S (ZbA zs n)->R (.ok (.ret .none)) s') ->
   codeAny (model P w) A (.builtin "set.update.loop" ⟨[.ref S,.ref I],[]⟩) R s:=by
 have hw:S∉wr:=fun x=>hf (W.sub _ x);have su:∀b∈wr,b∈S::wr:=fun b x=>Yad _ x;intro k;induction k with
 | zero =>
  intro i s hk hi st hS hR;obtain rfl:i=n:=by lia
  refine Yar F.entry_set_update_loop ?_;rw[Yao F.plain_set_update_loop _];show wpAny _ A.in1 (pyNext (.ref I)>>=_) _ _ s;exact Yb (W.done s _ _ st fun s' hm=>Yd (hR s' (hm.mono su) (hS.moved hm hw)))
 | succ k ih =>
  intro i s hk hi st hS hR;have lt:i<n:=by lia
  refine Yar F.entry_set_update_loop ?_;rw[Yao F.plain_set_update_loop _];show wpAny _ A.in1 (pyNext (.ref I)>>=_) _ _ s;refine Yb (W.item i s _ _ lt st fun v s' pv st' hm=>?_);obtain⟨z,t,ez,rfl⟩:=hv i v pv;have hl:=Zbw zs i;have hS1:=hS.moved hm hw;refine Yb (YT ?_);unfold setAdd;refine YT (Yb ((strKind P w).pyHash (strKind_is P w z t) ?_));refine ZdL (s:={ s' with toks:=s'.toks+1 }) hS1 (by lia) fun h' b sb hS2=>?_;rw[<- Zdy ez]at hS2;refine Yd ⟨YaG F.plain_set_update_loop _,ih (i+1) _ (by lia) lt (W.frame _ s' _ _ st' (Yaf _) fun b hb o e=>?_) hS2 fun s2 hm2 hS3=>?_⟩
  .rw[sb.2 b (fun x:b=S=>hf (x▸hb))];exact e
  .refine hR s2 (Moved.trans W.gtrans ((hm.mono su).then_heap (Yaf _) fun b o hb e=>?_) hm2) hS3;rw[sb.2 b (fun x:b=S=>hb (x▸Yab))];exact e
end
variable{P:Program}{w:World}{A:Around}{E:Value->Shared->Prop}{s:Shared}{a:Addr}{ks:List Str}{h:Heap}
def Zjk(hh:A.handled=none)(hl:s.heap.IsList l its)(hv:∀(i:Nat)(v:Value),its[i]? = some v->∃z t,zs[i]? = some z/\v=.str z t)(hz:zs.length=its.size)(hb:its.size+1<scanBound)(k:∀(h':Heap)(tk:Nat),s.toks<=tk->ZbW P w h' s.heap.objs.size (ZbA zs its.size)->(∀b o,b<s.heap.objs.size->s.heap.get? b=some o->h'.get? b=some o)->Q (.ref s.heap.objs.size) { s with heap:=h',toks:=tk }):
  wpAny (model P w) A (call (.type "set") [.ref l]) Q E s:=by
 obtain⟨c,tl,hmro⟩:=F.called_set.mro;have q1:=F.called_set.made;have q2:=F.called_set.sub;refine YaD (codeAny_of_tree ?_);show wpAny _ _ (callAny (.type "set") ⟨[.ref l],[]⟩) _ _ _;refine Yd ⟨Code.quiet_builtin _ (by decide +kernel),Yar F.entry_type_call ?_⟩;rw[Around.under_plain (weight_type_call_type "set" [.ref l] []) rfl];have q3:=F.called_set.notType;have q4:=F.called_set.canCreate;have q5:=F.typeCall_set_1 (.ref l);repeat (any_goals (first|assumption|wp_step))
 refine Yat (Zjx (P:=P) (w:=w) (r:=[.ref l]) (E:=E) (Q1:=fun ob s1=>ob=.ref s.heap.objs.size/\s1={ s with heap:=s.heap.push (ZfL w) }) (F.newCall_set_1 (.ref l)) ⟨rfl,rfl⟩) fun r s1 hr=>?_;cases r with
 | error e=>exact hr
 | ok fl =>
  cases fl with
  | ret ob =>
   obtain⟨rfl,rfl⟩:=hr;have hT:Shared.TypeIs { s with heap:=s.heap.push (ZfL w) } (.ref s.heap.objs.size) "set":=⟨_,Yl _ rfl,rfl⟩;have q6:=F.called_set.init.lookup;have q7:=F.called_set.init.bind (.ref s.heap.objs.size);have hS:(s.heap.push (ZfL w)).get? s.heap.objs.size=some (ZfL w):=Yl _ rfl;repeat (any_goals (first|assumption|wp_step))
   refine Yat (codeAny_call_builtin (R:=wants (fun r s2=>r=.none/\∃h' tk,s2={ s with heap:=h',toks:=tk }/\s.toks<=tk/\ZbW P w h' s.heap.objs.size (ZbA zs its.size)/\∀b o,b<s.heap.objs.size->s.heap.get? b=some o->h'.get? b=some o) E) F.called_set.init.plain F.entry_set_init (check_set_init_1 hT ?_)) fun r2 s2 hr2=>?_
   .obtain⟨ol,hol,hcl,nl,hdl⟩:=hl;obtain⟨oc,od,oda,os⟩:=ol;simp only at hcl hdl;subst hcl hdl;have hol':(s.heap.push (ZfL w)).get? l=some { cls:=.type "list",dict:=od,data:=.seq its nl,slots:=os }:=Ye _ hol;have z1:=F.sub_list_set;have z2:=F.sub_list_frozenset;have z3:(Value.type "list" == Value.type "dict")=false:=by decide
    have hl1:(s.heap.push (ZfL w)).IsList l its:=⟨_,hol',rfl,nl,rfl⟩;unfold Builtin.«set.__init__» noKeywords Builtin.Frozenset.updateFrom;generalize hPI:pyIter=PI;wp_walk;subst hPI;refine YaS hl1 (Yb (wpAny_runValue ?_));have hls:l<s.heap.objs.size:=Ym hol;have h3:A.in1.in1.in1.handled=none:=by simp[hh]
    have hne:l≠(s.heap.push (ZfL w)).objs.size:=by rw[YJ];exact Yo (Y0 hls)
    have hnf:s.heap.objs.size∉[(s.heap.push (ZfL w)).objs.size,l]:=by
     rw[YJ];simp only[Yn,YM,Yan,not_or];exact⟨Yo (Yaj _),Yay hls⟩
    refine Zlf ((YbB h3 _ l hne its).toS) s.heap.objs.size hnf zs hz hv hb (its.size-0) 0 _ (by lia) (Y2 _) ⟨⟨_,Yl _ rfl,rfl,rfl⟩,hl1.push _⟩ (Zmx (Ye _ hS)) ?_;intro s' hm hS';obtain⟨h',g',d',tk',os'⟩:=s';cases(show g'=s.gens from hm.gens);cases(show d'=s.drawn from hm.drawn);cases(show os'=s.os from hm.os);refine Yd ?_;show wpAny _ _ (ret Value.none) _ _ _;refine Yd ⟨rfl,h',tk',rfl,hm.toks,hS',fun b o hb e=>hm.heap b o ?_ (Ye _ (Ye _ e))⟩
    .rw[YJ];simp only[Yn,YM,Yan,not_or];exact⟨Yo hb,Yo (Y0 hb)⟩
   .cases r2 with
    | error e=>exact hr2
    | ok f2 =>
     cases f2 with
     | ret r =>
      obtain⟨rfl,h',tk,rfl,ht,hS',hk'⟩:=hr2;repeat (any_goals (first|assumption|wp_step))
      exact k _ _ ht hS' hk'
     | _=>exact hr2.elim
  | _=>exact hr.elim
namespace SI
def e_iter:entryFor table "set.__iter__"=some Builtin.«frozenset.__iter__»:=entryFor_alias (id':="frozenset.__iter__") (by kernel_rfl) rfl (by decide +kernel) (by kernel_rfl)
def e_next:entryFor table "set_iterator.__next__"=some Builtin.«set_iterator.__next__»:=entryFor_of_tree (by kernel_rfl)
def s_next:Slot "set_iterator" "__next__" "set_iterator.__next__":=by
 refine .of (owner:="set_iterator") (n:="__next__") ?_ (by decide +kernel) (by decide +kernel) (by decide +kernel) ?_ ?_
 .rw[typeLookup_type,YbU];kernel_rfl
 .first|exact .inl (by decide +kernel)|exact .inr (by decide +kernel)
 .rw[isSubtype_type];kernel_rfl
def ow:Manifest.owners.lookup (String.ofList ['r','o','t','a','r','e','t','i','_','t','e','s'].reverse)=some Manifest.sig_set_iterator:=by kernel_rfl
def a_next(a:Value):argsOk "set_iterator.__next__" ⟨[a],[]⟩:=by
 unfold argsOk;rw[signature?_of (id:="set_iterator.__next__") (n:=['_','_','t','x','e','n','_','_']) (o:=['r','o','t','a','r','e','t','i','_','t','e','s']) (by kernel_rfl) ow];kernel_rfl
end SI
section
def Zhm(hn:n≠0)(h:∀i d,i<n->Q i { s with drawn:=d }):wpAny M A (choose src n) Q E s:=fun Γ p hΓ=>by
 unfold choose
 rw[Sem.wp_choose]
 exact⟨hn,by rw[Sem.wp_pure];exact h _ _ (Nat.mod_lt _ (Nat.pos_of_ne_zero hn))⟩
def Zdu{α:Type}{xs:List α}{x:α}(h:xs[i]? = some x):(x::xs.eraseIdx i).Perm xs:=by
 obtain⟨hl,e⟩:=Yh.mp h;rw[List.eraseIdx_eq_take_drop_succ,<- e];have:xs=xs.take i++xs[i]::xs.drop (i+1):=by rw[List.getElem_cons_drop,YbX]
 exact List.perm_middle.symm.trans (by rw[<- this])
def Zf1:∀(n:Nat)(xs:List α)(s:Shared)(Q:List α->Shared->Prop),xs.length=n->(∀ys d,ys.Perm xs->Q ys { s with drawn:=d })->wpAny M A (drawOrder n xs) Q E s
 | 0, xs,s,Q,hn,h=>by
  have:=YaI.mp hn
  subst this
  exact Yd (h [] s.drawn .nil)
 | n+1,[],s,Q,hn,h=>by cases hn
 | n+1,x::xs,s,Q,hn,h=>by
  unfold drawOrder
  refine Yb (Zhm (by simp) fun i d hi=>?_)
  obtain⟨y,hy⟩:∃y,(x::xs)[i]? = some y:=⟨_,Yg hi⟩
  rw[hy]
  dsimp only
  refine Yb (Zf1 n _ _ _ (by rw[List.length_eraseIdx,if_pos hi];simpa using hn) fun ys d' hp=>?_)
  exact Yd (h (y::ys) d' ((hp.cons y).trans (Zdu hy)))
end
theorem Zh6(next:Nat->Nat):∀(n k:Nat)(l:List α)(out:Array α),l.length=n->(pickOrder.go next n k l out).toList.Perm (out.toList++l)
 | 0, k,l,out,hn=>by
  rw[YaI.mp hn]
  simp[pickOrder.go]
 | n+1,k,l,out,hn=>by
  unfold pickOrder.go
  have hlt:next k % l.length<l.length:=Nat.mod_lt _ (by lia)
  obtain⟨y,hy⟩:∃y,l[next k % l.length]? = some y:=⟨_,Yg hlt⟩
  rw[hy]
  dsimp only
  refine(Zh6 next n (k+1) _ _ (by rw[List.length_eraseIdx,if_pos hlt,hn];rfl)).trans ?_
  rw[Array.toList_push,Ya1]
  exact List.Perm.append_left _ (Zdu hy)
def Zb2(next:Nat->Nat)(xs:Array α):(pickOrder next xs).toList.Perm xs.toList:=by
 unfold pickOrder;exact(Zh6 next _ 0 xs.toList #[] (by simp)).trans (by simp)
def Zg3(j:Nat):SetTable.below #[j] 0=0:=by
 simp[SetTable.below,SetTable.below.go]
def Zhc(j:Nat):SetTable.below #[j] (j+1)=1:=by
 simp[SetTable.below,SetTable.below.go]
def Zbr(h:Heap)(I:Addr)(f:Value)(i:Nat)(a:Addr)(n ep:Nat):Prop:=∃o,h.get? I=some o/\o.cls=.type "set_iterator"/\o.data=.fields #[f,.int i 0,.ref a,.int n 0,.int ep 0]
variable{P:Program}{w:World}{A:Around}{E:Value->Shared->Prop}{s:Shared}{I a:Addr}{i n ep:Nat}{o:Obj}{es:Array (Int×Value)}{t:SetTable}
def Zbr.typeIs(h:Zbr s.heap I f i a n ep):s.TypeIs (.ref I) "set_iterator":=let⟨o,e,c,_⟩:=h;⟨o,e,c⟩
def ZjJ{j nx:Nat}(hit:Zbr s.heap I (.int j 0) i a n ep)(ho:s.heap.get? a=some o)(hd:o.data=.set es ep t)(hf:t.fits es.size=true)(hn:es.size=n)(hx:∀(A':Around)(E':Value->Shared->Prop)(Q':Option (Value×Nat)->Shared->Prop),Q' (some (x,nx)) s->wpAny (model P w) A' (setNext a j i ep) Q' E' s)(k:∀h',Zbr h' I (.int nx 0) (i+1) a n ep->Heap.SameBut I s.heap h'->Q (some x) { s with heap:=h' }):wpAny (model P w) A (pyNext (.ref I)) Q E s:=by
 obtain⟨oi,hi,hc,hdi⟩:=id hit;unfold pyNext;refine Yb (YaQ (Y4 (name:=Str.ofString "__next__") hit.typeIs SI.s_next (YY SI.s_next hit.typeIs SI.e_next ?_ (SI.a_next _))));unfold Builtin.«set_iterator.__next__»;refine Yb (Yd ?_);dsimp only;refine Yb (wpAny_fieldsOf hi hdi ?_);dsimp only;refine Yb (wpAny_setEntries_of ho hd hf ?_);rw[if_neg (by rw[hn];simp)];rw[show((j:Int)).toNat=j from rfl,show((i:Int)).toNat=i from rfl,show((ep:Int)).toNat=ep from rfl];refine Yb (hx _ _ _ ?_);dsimp only;refine Yb (wpAny_setField hi hdi (by simp) ?_);have g1:=YD (Obj.mapFields (·.setIfInBounds 0 (rawInt (nx:Int)))) hi (Obj.isFreed_of_fields (YV hdi _));have d1:=YV hdi (·.setIfInBounds 0 (rawInt (nx:Int)));refine Yb (wpAny_setField g1 d1 (by simp) ?_);have g2:=YD (Obj.mapFields (·.setIfInBounds 1 (rawInt ((i:Int)+1)))) g1 (Obj.isFreed_of_fields (YV d1 _));have d2:=YV d1 (·.setIfInBounds 1 (rawInt ((i:Int)+1)));refine Yd ⟨x,rfl,Yd (k _ ⟨_,g2,(Obj.cls_mapFields ..).trans ((Obj.cls_mapFields ..).trans hc),?_⟩ ((Yac ..).trans (Yac ..)))⟩;rw[d2];simp[rawInt]
def Zjz{j:Nat}(hh:A.handled=none)(hit:Zbr s.heap I (.int j 0) i a n ep)(ho:s.heap.get? a=some o)(hd:o.data=.set es ep t)(hf:t.fits es.size=true)(hn:es.size=n)(hx:∀(A':Around)(E':Value->Shared->Prop)(Q':Option (Value×Nat)->Shared->Prop),Q' none s->wpAny (model P w) A' (setNext a j i ep) Q' E' s)(k:∀h',Heap.ExtBut I s.heap h'->Q none { s with heap:=h' }):wpAny (model P w) A (pyNext (.ref I)) Q E s:=by
 obtain⟨oi,hi,hc,hdi⟩:=id hit;unfold pyNext;refine Yb (YaQ (Y4 (name:=Str.ofString "__next__") hit.typeIs SI.s_next (YY SI.s_next hit.typeIs SI.e_next ?_ (SI.a_next _))));unfold Builtin.«set_iterator.__next__»;refine Yb (Yd ?_);dsimp only;refine Yb (wpAny_fieldsOf hi hdi ?_);dsimp only;refine Yb (wpAny_setEntries_of ho hd hf ?_);rw[if_neg (by rw[hn];simp)];rw[show((j:Int)).toNat=j from rfl,show((i:Int)).toNat=i from rfl,show((ep:Int)).toNat=ep from rfl];refine Yb (hx _ _ _ ?_);dsimp only;refine Yb (wpAny_setField hi hdi (by simp) ?_);refine Yb ?_;simp only[newExc,newTuple];refine Yb (YO ?_ (by size_fits));refine Yb (m:=firstArgMember _ _) (Ybt (a:=Value.none) (by first|rfl|(simp only[firstArgMember];rfl)) ?_);refine YO ?_ (by size_fits);simp only[raiseNew];refine Yb (wpAny_handled ?_);rw[show A.in1.handled=none from hh];refine Yb (Yd (wpAny_throw ?_));refine Yb (YaY (T:="StopIteration") (b:=true) ⟨_,Yl _ rfl,rfl⟩ isSubtype_stop ?_);exact Yd (k _ (((Yac ..).extBut.push _).push _))
def Zno{pl:List Nat}(hit:Zbr s.heap I (.ref T) i a n ep)(ht:∃oT m,s.heap.get? T=some oT/\oT.data=.seq (pl.map fun(z:Nat)=>rawInt (z:Int)).toArray m)(ho:s.heap.get? a=some o)(hd:o.data=.set es ep t)(hf:t.fits es.size=true)(hn:es.size=n)(hp:pl[i]? = some q)(hx:es[q]? = some (hs,x))(k:∀h',Zbr h' I (.ref T) (i+1) a n ep->Heap.SameBut I s.heap h'->Q (some x) { s with heap:=h' }):wpAny (model P w) A (pyNext (.ref I)) Q E s:=by
 obtain⟨oi,hi,hc,hdi⟩:=id hit;obtain⟨oT,m,hT,hdT⟩:=ht;unfold pyNext;refine Yb (YaQ (Y4 (name:=Str.ofString "__next__") hit.typeIs SI.s_next (YY SI.s_next hit.typeIs SI.e_next ?_ (SI.a_next _))));unfold Builtin.«set_iterator.__next__»;refine Yb (Yd ?_);dsimp only;refine Yb (wpAny_fieldsOf hi hdi ?_);dsimp only;refine Yb (wpAny_setEntries_of ho hd hf ?_);rw[if_neg (by rw[hn];simp)];refine Yb ?_;unfold seqItems?;refine Yb (wpAny_load hT ?_);rw[hdT];refine Yd ?_;dsimp only;rw[show((pl.map fun(z:Nat)=>rawInt (z:Int)).toArray)[((i:Int)).toNat]? = some (.int (q:Int) 0)from by rw[show((i:Int)).toNat=i from rfl,List.getElem?_toArray,Yi,hp];rfl];dsimp only;rw[show((q:Int)).toNat=q from rfl,show((ep:Int)).toNat=ep from rfl];unfold setNextDrawn;refine Yb (Yb (wpAny_setState_of ho hd hf ?_));dsimp only;rw[if_neg (by simp),hx];refine Yd ?_;refine Yb (wpAny_setField hi hdi (by simp) ?_);have g2:=YD (Obj.mapFields (·.setIfInBounds 1 (rawInt ((i:Int)+1)))) hi (Obj.isFreed_of_fields (YV hdi _));have d2:=YV hdi (·.setIfInBounds 1 (rawInt ((i:Int)+1)));refine Yd ⟨x,rfl,Yd (k _ ⟨_,g2,(Obj.cls_mapFields ..).trans hc,?_⟩ (Yac ..))⟩;rw[d2];simp[rawInt]
def Zop{pl:List Nat}(hh:A.handled=none)(hit:Zbr s.heap I (.ref T) i a n ep)(ht:∃oT m,s.heap.get? T=some oT/\oT.data=.seq (pl.map fun(z:Nat)=>rawInt (z:Int)).toArray m)(ho:s.heap.get? a=some o)(hd:o.data=.set es ep t)(hf:t.fits es.size=true)(hn:es.size=n)(hp:pl[i]? = none)(k:∀h',Heap.ExtBut I s.heap h'->Q none { s with heap:=h' }):wpAny (model P w) A (pyNext (.ref I)) Q E s:=by
 obtain⟨oi,hi,hc,hdi⟩:=id hit;obtain⟨oT,m,hT,hdT⟩:=ht;unfold pyNext;refine Yb (YaQ (Y4 (name:=Str.ofString "__next__") hit.typeIs SI.s_next (YY SI.s_next hit.typeIs SI.e_next ?_ (SI.a_next _))));unfold Builtin.«set_iterator.__next__»;refine Yb (Yd ?_);dsimp only;refine Yb (wpAny_fieldsOf hi hdi ?_);dsimp only;refine Yb (wpAny_setEntries_of ho hd hf ?_);rw[if_neg (by rw[hn];simp)];refine Yb ?_;unfold seqItems?;refine Yb (wpAny_load hT ?_);rw[hdT];refine Yd ?_;dsimp only;rw[show((pl.map fun(z:Nat)=>rawInt (z:Int)).toArray)[((i:Int)).toNat]? = none from by rw[show((i:Int)).toNat=i from rfl,List.getElem?_toArray,Yi,hp];rfl];dsimp only;refine Yb (wpAny_setField hi hdi (by simp) ?_);have g1:=YD (Obj.mapFields (·.setIfInBounds 0 (rawInt 0))) hi (Obj.isFreed_of_fields (YV hdi _));have d1:=YV hdi (·.setIfInBounds 0 (rawInt 0));refine Yb (wpAny_setField g1 d1 (by simp) ?_);refine Yb ?_;simp only[newExc,newTuple];refine Yb (YO ?_ (by size_fits));refine Yb (m:=firstArgMember _ _) (Ybt (a:=Value.none) (by first|rfl|(simp only[firstArgMember];rfl)) ?_);refine YO ?_ (by size_fits);simp only[raiseNew];refine Yb (wpAny_handled ?_);rw[show A.in1.handled=none from hh];refine Yb (Yd (wpAny_throw ?_));refine Yb (YaY (T:="StopIteration") (b:=true) ⟨_,Yl _ rfl,rfl⟩ isSubtype_stop ?_);exact Yd (k _ ((((Yac ..).trans (Yac ..)).extBut.push _).push _))
variable{P:Program}{w:World}{A:Around}{E:Value->Shared->Prop}{s:Shared}{I a:Addr}{i n ep:Nat}{o:Obj}{es:Array (Int×Value)}{t:SetTable}
def Zia(hb:w.params.followText "set-order"=true)(ho:s.heap.get? a=some o)(hd:o.data=.set es ep t)(hf:t.fits es.size=true)(k:Q (((pickOrder (w.params.setOrder a ep) es)[i]?).map fun e=>(e.2,j)) s):wpAny (model P w) A (setNext a j i ep) Q E s:=by
 unfold setNext;refine Yb (wpAny_setState_of ho hd hf ?_);dsimp only;unfold setsByText;refine Yb (Yb (wpAny_askSetting (Yd ?_)));rw[if_pos (show(model P w).w.params.followText "set-order"=true from hb),if_neg (by simp)];unfold setWalk;refine Yb (Yb (wpAny_setState_of ho hd hf ?_));dsimp only;unfold setsByText;refine Yb (Yb (wpAny_askSetting (Yd ?_)));rw[if_pos (show(model P w).w.params.followText "set-order"=true from hb)];exact Yb (wpAny_askSetting (Yd (Yd k)))
def Zl3(hb:w.params.followText "set-order"=false)(ho:s.heap.get? a=some o)(hd:o.data=.set es ep t)(hf:t.fits es.size=true)(hl:t.led=true)(h1:es.size<=1)(k:Q (match es[SetTable.below t.place j]?,t.place[SetTable.below t.place j]? with|some (_,x),some q=>some (x,q+1)|_,_=>none) s):wpAny (model P w) A (setNext a j i ep) Q E s:=by
 unfold setNext;refine Yb (wpAny_setState_of ho hd hf ?_);dsimp only;unfold setsByText;refine Yb (Yb (wpAny_askSetting (Yd ?_)));rw[if_neg (show ¬(model P w).w.params.followText "set-order"=true from by rw[show(model P w).w.params.followText "set-order"=false from hb];decide)];have hdr:(!t.plain&&decide (es.size>1))=false:=by rw[Yw (by lia),YbT]
 show wpAny _ _ (if(!t.plain&&decide (es.size>1))=true then _ else _) _ _ _;rw[if_neg (by rw[hdr];decide)];show wpAny _ _ ((if(!t.led&&!es.isEmpty)=true then _ else pure ())>>=_) _ _ _;rw[if_neg (by rw[hl];simp)];exact Yb (Yd (Yd k))
namespace SI
def e_it2:entryFor table "set_iterator.__iter__"=some Builtin.«dict_keyiterator.__iter__»:=entryFor_alias (id':="dict_keyiterator.__iter__") (by kernel_rfl) rfl (by decide +kernel) (by kernel_rfl)
def s_it2:Slot "set_iterator" "__iter__" "set_iterator.__iter__":=by
 refine .of (owner:="set_iterator") (n:="__iter__") ?_ (by decide +kernel) (by decide +kernel) (by decide +kernel) ?_ ?_
 .rw[typeLookup_type,YbU];kernel_rfl
 .first|exact .inl (by decide +kernel)|exact .inr (by decide +kernel)
 .rw[isSubtype_type];kernel_rfl
def a_it2(a:Value):argsOk "set_iterator.__iter__" ⟨[a],[]⟩:=by
 unfold argsOk;rw[signature?_of (id:="set_iterator.__iter__") (n:=['_','_','r','e','t','i','_','_']) (o:=['r','o','t','a','r','e','t','i','_','t','e','s']) (by kernel_rfl) ow];kernel_rfl
end SI
def ZfV(hit:Zbr s.heap I f i a n ep)(k:Q (.ref I) s):wpAny (model P w) A (pyIter (.ref I)) Q E s:=by
 refine wpAny_pyIter_slot hit.typeIs SI.s_it2 (YY SI.s_it2 hit.typeIs SI.e_it2 ?_ (SI.a_it2 _));show wpAny _ _ (ret (.ref I)) _ _ s;exact Yd ⟨_,rfl,"set_iterator",_,hit.typeIs,SI.s_next.lookup,k⟩
def Zbr.at(x:Zbr h I f i a n ep)(e:∀o,h.get? I=some o->h'.get? I=some o):Zbr h' I f i a n ep:=let⟨o,g,r⟩:=x;⟨o,e o g,r⟩
abbrev GEq:Array GenState->Array GenState->Prop:=fun a b=>b=a
def Zcg(sb:Heap.SameBut I s.heap h'):Moved [I] GEq s { s with heap:=h' }:=⟨fun b o hb e=>by rw[sb.2 b (fun z=>hb (by simp[z]))];exact e,rfl,rfl,rfl,Yj _⟩
def Zc9(sb:Heap.ExtBut I s.heap h'):Moved [I] GEq s { s with heap:=h' }:=⟨fun b o hb e=>sb b o (fun z=>hb (by simp[z])) e,rfl,rfl,rfl,Yj _⟩
def Zh3(hh:A.handled=none)(hb:w.params.followText "set-order"=true)(hne:a≠I)(hd:o.data=.set es ep t)(hf:t.fits es.size=true)(hn:es.size=n):
  WalksS P w A I [I,a] [I] GEq n (fun i v=>((pickOrder (w.params.setOrder a ep) es).toList.map (·.2))[i]? = some v) (fun i s=>Zbr s.heap I (.int (0:Nat) 0) i a n ep/\s.heap.get? a=some o) where
 sub:=fun b hb=>by simp at hb;simp[hb]
 grefl:=fun _=>rfl
 gtrans:=fun _ _ _ h1 h2=>h2.trans h1
 frame:=fun i s h' tk st _ hk=>⟨st.1.at fun o e=>hk I (by simp) o e,hk a (by simp) _ st.2⟩
 item:=fun i s Q E hi st k=>by
  have hz:(pickOrder (w.params.setOrder a ep) es).size=n:=by rw[<- Array.length_toList,(Zb2 _ es).length_eq,Array.length_toList,hn]
  obtain⟨x,hx⟩:∃x,(pickOrder (w.params.setOrder a ep) es)[i]? = some x:=⟨_,YaC (by lia)⟩
  refine ZjJ (x:=x.2) (nx:=0) st.1 st.2 hd hf hn (fun A' E' Q' q=>Zia hb st.2 hd hf (by rw[hx];exact q)) fun h' hit sb=>k x.2 _ (by rw[Yi,Yas,hx];rfl) ⟨hit,by rw[<- st.2];exact sb.2 a hne⟩ (Zcg sb)
 done:=fun s Q E st k=>by
  have hz:(pickOrder (w.params.setOrder a ep) es).size=n:=by rw[<- Array.length_toList,(Zb2 _ es).length_eq,Array.length_toList,hn]
  exact Zjz hh st.1 st.2 hd hf hn (fun A' E' Q' q=>Zia hb st.2 hd hf (by rw[Array.getElem?_eq_none (by lia)];exact q)) fun h' sb=>k _ (Zc9 sb)
 self:=fun i s Q E st q=>ZfV st.1 q
def ZkT(hh:A.handled=none)(hb:w.params.followText "set-order"=false)(hne:a≠I)(hd:o.data=.set es ep t)(hf:t.fits es.size=true)(hl:t.led=true)(h1:es.size<=1)(hn:es.size=n):
  WalksS P w A I [I,a] [I] GEq n (fun i v=>(es.toList.map (·.2))[i]? = some v) (fun i s=>∃j:Nat,Zbr s.heap I (.int j 0) i a n ep/\s.heap.get? a=some o/\(i=0->j=0)/\(i=1->∃q,t.place=#[q]/\j=q+1)) where
 sub:=fun b hb=>by simp at hb;simp[hb]
 grefl:=fun _=>rfl
 gtrans:=fun _ _ _ h1 h2=>h2.trans h1
 frame:=fun i s h' tk ⟨j,st,st2,r⟩ _ hk=>⟨j,st.at fun o e=>hk I (by simp) o e,hk a (by simp) _ st2,r⟩
 item := fun i s Q E hi hq0 k=>by
  obtain⟨j,st,st2,r0,r1⟩:=hq0
  obtain rfl:i=0:=by lia
  obtain rfl:=r0 rfl
  have hpz:t.place.size=1:=by
   simp only[SetTable.fits,YU,beq_iff_eq]at hf;lia
  obtain⟨q,hq⟩:∃q,t.place=#[q]:=⟨t.place[0],by apply Array.ext;simp[hpz];intro i h1 h2;simp at h2;simp[h2]⟩;obtain⟨x,hx⟩:∃x,es[0]? = some x:=⟨_,YaC (by lia)⟩;refine ZjJ (x:=x.2) (nx:=q+1) st st2 hd hf hn (fun A' E' Q' z=>Zl3 hb st2 hd hf hl h1 (by rw[hq,Zg3,hx];exact z)) fun h' hit sb=>k x.2 _ (by rw[Yi,Yas,hx];rfl) ⟨q+1,hit,by rw[<- st2];exact sb.2 a hne,fun z=>absurd z (by decide),fun _=>⟨q,hq,rfl⟩⟩ (Zcg sb)
 done := fun s Q E hq0 k=>by
  obtain⟨j,st,st2,r0,r1⟩:=hq0;refine Zjz hh st st2 hd hf hn (fun A' E' Q' z=>Zl3 hb st2 hd hf hl h1 ?_) fun h' sb=>k _ (Zc9 sb);rcases Nat.eq_zero_or_pos n with e|e
  .rw[Array.getElem?_eq_none (by lia)];exact z
  .obtain⟨q,hq,rfl⟩:=r1 (by lia);rw[hq,Zhc,Array.getElem?_eq_none (by lia)];exact z
 self:=fun i s Q E ⟨j,st,_⟩ q=>ZfV st q
def Zg9{pl:List Nat}(hh:A.handled=none)(hne:a≠I)(hnT:T≠I)(hT:oT.data=.seq (pl.map fun(z:Nat)=>rawInt (z:Int)).toArray m)(hp:pl.Perm (List.range n))(hd:o.data=.set es ep t)(hf:t.fits es.size=true)(hn:es.size=n):
  WalksS P w A I [I,a,T] [I] GEq n (fun i v=>(pl.map fun q=>(es.getD q (0,.none)).2)[i]? = some v) (fun i s=>Zbr s.heap I (.ref T) i a n ep/\s.heap.get? a=some o/\s.heap.get? T=some oT) where
 sub:=fun b hb=>by simp at hb;simp[hb]
 grefl:=fun _=>rfl
 gtrans:=fun _ _ _ h1 h2=>h2.trans h1
 frame:=fun i s h' tk st _ hk=>⟨st.1.at fun o e=>hk I (by simp) o e,hk a (by simp) _ st.2.1,hk T (by simp) _ st.2.2⟩
 item:=fun i s Q E hi st k=>by
  have hl:pl.length=n:=by rw[hp.length_eq,Yav]
  obtain⟨q,hq⟩:∃q,pl[i]? = some q:=⟨_,Yg (by lia)⟩
  have hqn:q<es.size:=by rw[hn];exact YaJ.mp (hp.mem_iff.mp (Yk hq))
  refine Zno (q:=q) (hs:=(es[q]).1) (x:=(es[q]).2) st.1 ⟨oT,m,st.2.2,hT⟩ st.2.1 hd hf hn hq (by rw[YaC hqn]) fun h' hit sb=>k _ _ (by rw[Yi,hq];simp[Array.getD,hqn]) ⟨hit,by rw[<- st.2.1];exact sb.2 a hne,by rw[<- st.2.2];exact sb.2 T hnT⟩ (Zcg sb)
 done:=fun s Q E st k=>by
  have hl:pl.length=n:=by rw[hp.length_eq,Yav]
  exact Zop hh st.1 ⟨oT,m,st.2.2,hT⟩ st.2.1 hd hf hn (Y3 (by lia)) fun h' sb=>k _ (Zc9 sb)
 self:=fun i s Q E st q=>ZfV st.1 q
variable{P:Program}{w:World}{A:Around}{E:Value->Shared->Prop}{s:Shared}{I a:Addr}{i n ep:Nat}{o:Obj}{es:Array (Int×Value)}{t:SetTable}{ks:List Str}
def ZjZ(P:Program)(w:World)(s:Shared)(a:Addr)(vs:List Value)(I:Addr)(s':Shared):Prop :=
 ∃(fp:List Addr)(St:Nat->Shared->Prop)(l:List Value),(∀A:Around,A.handled=none->WalksS P w A I fp [I] GEq l.length (fun i v=>l[i]? = some v) St)/\St 0 s'/\l.Perm vs/\(∀b o,s.heap.get? b=some o->s'.heap.get? b=some o)/\s'.gens=s.gens/\s'.os=s.os/\s'.toks=s.toks/\(∀b∈fp,b=a\/s.heap.objs.size<=b)/\(∀b∈fp,b<s'.heap.objs.size)/\s.heap.objs.size<=I/\s.heap.objs.size<=s'.heap.objs.size/\s'.TypeIs (.ref I) "set_iterator"
abbrev ZhV(f:Value)(a:Addr)(n ep:Nat):Obj:={ cls:=.type "set_iterator",data:=.fields #[f,rawInt 0,.ref a,rawInt n,rawInt ep] }
def Zix(es:Array (Int×Value)):(List.range es.size).map (fun q=>(es.getD q (0,.none)).2)=es.toList.map (·.2):=by
 apply Ycl
 .simp
 .intro i h1 h2;simp at h1;simp[Array.getD,h1]
def Zhk{pl:List Nat}(ho:s.heap.get? a=some o)(hd:o.data=.set es ep t)(hf:t.fits es.size=true)(hp:pl.Perm (List.range es.size)):
  ZjZ P w s a (es.toList.map (·.2)) (s.heap.objs.size+1) { s with heap:=(s.heap.push { cls:=.type "tuple",data:=.seq (pl.map fun(z:Nat)=>rawInt (z:Int)).toArray }).push (ZhV (.ref s.heap.objs.size) a es.size ep),drawn:=d }:=by
 have hls:a<s.heap.objs.size:=Ym ho;have hsz:(s.heap.push { cls:=.type "tuple",data:=.seq (pl.map fun(z:Nat)=>rawInt (z:Int)).toArray }).objs.size=s.heap.objs.size+1:=YJ ..;have hl:(pl.map fun q=>(es.getD q (0,.none)).2).length=es.size:=by rw[Yc,hp.length_eq,Yav]
 refine⟨[s.heap.objs.size+1,a,s.heap.objs.size],fun i s'=>Zbr s'.heap (s.heap.objs.size+1) (.ref s.heap.objs.size) i a es.size ep/\s'.heap.get? a=some o/\s'.heap.get? s.heap.objs.size=some { cls:=.type "tuple",data:=.seq (pl.map fun(z:Nat)=>rawInt (z:Int)).toArray },pl.map fun q=>(es.getD q (0,.none)).2,fun A hA=>?_,⟨?_,Ye _ (Ye _ ho),Ye _ (Yl _ rfl)⟩,(hp.map _).trans (by rw[Zix]),fun b o e=>Ye _ (Ye _ e),rfl,rfl,rfl,?_,?_,Yaf _,?_,?_⟩
 .rw[hl];exact Zg9 hA (Yo (Y0 hls)) (Yo (Yaj _)) rfl hp hd hf rfl
 .rw[<- hsz];exact⟨_,Yl _ rfl,rfl,rfl⟩
 .intro b hb;simp only[Yn,YM,Yan]at hb;rcases hb with rfl|rfl|rfl
  .exact .inr (Yaf _)
  .exact .inl rfl
  .exact .inr (Yj _)
 .intro b hb;simp only[Yn,YM,Yan]at hb;rw[YJ,hsz];rcases hb with rfl|rfl|rfl
  .exact Yaj _
  .exact Y0 (Y0 hls)
  .exact Y0 (Yaj _)
 .rw[YJ,hsz];exact Nat.le_succ_of_le (Yaf _)
 .rw[<- hsz];exact⟨_,Yl _ rfl,rfl⟩
def ZlA(ho:s.heap.get? a=some o)(hd:o.data=.set es ep t)(hf:t.fits es.size=true)(h1:w.params.followText "set-order"=true\/t.led=true)(h2:es.size=0\/t.plain=false)(hc:¬(!w.params.followText "set-order" && (!t.plain&&decide (es.size>1)))=true):
  ZjZ P w s a (es.toList.map (·.2)) s.heap.objs.size { s with heap:=s.heap.push (ZhV (rawInt 0) a es.size ep) }:=by
 have hls:a<s.heap.objs.size:=Ym ho;have hfp:∀b∈[s.heap.objs.size,a],b=a\/s.heap.objs.size<=b:=fun b hb=>by
  simp only[Yn,YM,Yan]at hb;rcases hb with rfl|rfl
  .exact .inr (Yj _)
  .exact .inl rfl
 have hfl:∀b∈[s.heap.objs.size,a],b<(s.heap.push (ZhV (rawInt 0) a es.size ep)).objs.size:=fun b hb=>by
  rw[YJ];simp only[Yn,YM,Yan]at hb;rcases hb with rfl|rfl
  .exact Yaj _
  .exact Y0 hls
 cases hb:w.params.followText "set-order" with
 | true =>
  have hl:((pickOrder (w.params.setOrder a ep) es).toList.map (·.2)).length=es.size:=by rw[Yc,(Zb2 _ es).length_eq,Array.length_toList]
  refine⟨[s.heap.objs.size,a],fun i s'=>Zbr s'.heap s.heap.objs.size (.int (0:Nat) 0) i a es.size ep/\s'.heap.get? a=some o,(pickOrder (w.params.setOrder a ep) es).toList.map (·.2),fun A hA=>?_,⟨⟨_,Yl _ rfl,rfl,rfl⟩,Ye _ ho⟩,(Zb2 _ es).map _,fun b o e=>Ye _ e,rfl,rfl,rfl,hfp,hfl,Yj _,by rw[YJ];exact Yaf _,⟨_,Yl _ rfl,rfl⟩⟩;rw[hl];exact Zh3 hA hb (Yo hls) hd hf rfl
 | false =>
  have h1':t.led=true:=by
   rcases h1 with h|h
   .rw[hb]at h;cases h
   .exact h
  have hs1:es.size<=1:=by
   rcases h2 with h|h
   .lia
   .rw[hb,h]at hc;simp at hc;lia
  refine⟨[s.heap.objs.size,a],fun i s'=>∃j:Nat,Zbr s'.heap s.heap.objs.size (.int j 0) i a es.size ep/\s'.heap.get? a=some o/\(i=0->j=0)/\(i=1->∃q,t.place=#[q]/\j=q+1),es.toList.map (·.2),fun A hA=>?_,⟨0,⟨_,Yl _ rfl,rfl,rfl⟩,Ye _ ho,fun _=>rfl,fun z=>absurd z (by decide)⟩,.refl _,fun b o e=>Ye _ e,rfl,rfl,rfl,hfp,hfl,Yj _,by rw[YJ];exact Yaf _,⟨_,Yl _ rfl,rfl⟩⟩;rw[Yc,Array.length_toList];exact ZkT hA hb (Yo hls) hd hf h1' hs1 rfl
def ZkH(ho:s.heap.get? a=some o)(hx:o.ExactSet)(hd:o.data=.set es ep t)(hf:t.fits es.size=true)(hz:es.size<scanBound)(h1:w.params.followText "set-order"=true\/t.led=true)(h2:es.size=0\/t.plain=false)(k:∀I s',ZjZ P w s a (es.toList.map (·.2)) I s'->Q (.ref I) s'):wpAny (model P w) A (pyIter (.ref a)) Q E s:=by
 have hT:s.TypeIs (.ref a) "set":=⟨o,ho,hx.1⟩;refine wpAny_pyIter_slot hT F.slot_set_iter (YY F.slot_set_iter hT SI.e_iter ?_ (F.args_set_iter_1 _));unfold Builtin.«frozenset.__iter__»;refine Yb (m:=Builtin.Frozenset.slot0 "__iter__" _) (Yd ?_);unfold Builtin.Frozenset.sizeOf;refine Yb (Yb (wpAny_setEntries_of ho hd hf (Yd ?_)));refine Yb ?_;unfold setDrawn;refine Yb (wpAny_setState_of ho hd hf ?_);dsimp only;unfold setsByText;refine Yb (Yb (wpAny_askSetting (Yd (Yd ?_))));show wpAny _ _ (if(!w.params.followText "set-order" && (!t.plain&&decide (es.size>1)))=true then _ else _) _ _ _;by_cases hc:(!w.params.followText "set-order" && (!t.plain&&decide (es.size>1)))=true
 .rw[if_pos hc];refine Yb (Zf1 _ _ _ _ (by simp) fun pl d hp=>?_);unfold newTuple;refine Yb (YO ?_ ?_)
  .refine Yb (wpAny_setEpoch_of (o:=o) (Ye _ ho) hd hf ?_);unfold newFields;refine Yb (YO ?_ (by size_fits));refine Yd ⟨_,rfl,"set_iterator",_,⟨_,Yl _ rfl,rfl⟩,SI.s_next.lookup,k _ _ ?_⟩;have:=Zhk (P:=P) (w:=w) (d:=d) ho hd hf hp;have hsz:(s.heap.push { cls:=.type "tuple",data:=.seq (pl.map fun(z:Nat)=>rawInt (z:Int)).toArray }).objs.size=s.heap.objs.size+1:=YJ ..;rw[<- hsz]at this;exact this
  .show(pl.map fun(i:Nat)=>rawInt (i:Int)).toArray.size<=sizeLine;rw[Yr,Yc,hp.length_eq,Yav];exact fits_of_scanBound hz
 .rw[if_neg hc];refine Yb (Yd (Yb (wpAny_setEpoch_of ho hd hf ?_)));unfold newFields;refine Yb (YO ?_ (by size_fits));exact Yd ⟨_,rfl,"set_iterator",_,⟨_,Yl _ rfl,rfl⟩,SI.s_next.lookup,k _ _ (ZlA ho hd hf h1 h2 hc)⟩
variable{P:Program}{w:World}{A:Around}{E:Value->Shared->Prop}{s:Shared}{I a:Addr}{ks:List Str}
def ZbW.pushed(hS:ZbW P w h a ks):ZbW P w (h.push ob) a ks:=by
 obtain⟨o,es,ep,t,ho,r⟩:=hS;exact⟨o,es,ep,t,Ye _ ho,r⟩
def ZkC(h:ItemsOf (fun i v=>l[i]? = some v) acc l.length):acc.toList=l:=by
 apply Ych;intro i;rw[Yas];rcases Nat.lt_or_ge i l.length with g|g
 .have:=h.2 i (acc[i]'(by rw[h.1];exact g)) (by rw[YaC]);rw[this,YaC]
 .rw[Y3 g,Array.getElem?_eq_none (by rw[h.1];exact g)]
def Zjo(p:vs.Perm (strValues l)):∃l',vs=strValues l'/\l'.Perm l:=by
 have e:∀us:List Value,(us.map fun v=>((0:Int),v)).map (·.2)=us:=fun us=>by rw[Yai];exact List.map_id _
 obtain⟨l',h1,h2⟩:=Zde (es':=vs.map fun v=>((0:Int),v)) (es:=(strValues l).map fun v=>((0:Int),v)) (l:=l) (e _) (p.map _);exact⟨l',(e vs).symm.trans h1,h2⟩
def ZfJ(hh:A.handled=none)(hS:ZbW P w s.heap a ks)(k:∀s' (l:List (Str×Tok)),(l.map (·.1)).Perm ks->(∀b o,s.heap.get? b=some o->s'.heap.get? b=some o)->s'.gens=s.gens->s'.os=s.os->s.toks<=s'.toks->s.heap.objs.size<=s'.heap.objs.size->Q (strValues l) s'):wpAny (model P w) A (collect (.ref a)) Q E s:=by
 have hS1:ZbW P w (s.heap.push { cls:=.type "list",data:=.seq ([]:List Value).toArray }) a ks:=hS.pushed;obtain⟨o,es,ep,t,ho,hx,hd,he,⟨l,hl,hp⟩,hz,hf,h1,h2⟩:=hS1;have hls:a<s.heap.objs.size:=let⟨_,_,_,_,e,_⟩:=hS;Ym e;have hT:∀s1:Shared,s1.heap.get? a=some o->s1.TypeIs (.ref a) "set":=fun s1 e=>⟨o,e,hx.1⟩;unfold collect;refine Yb (wpAny_runValue (Yar F.entry_proto_collect ?_));rw[Yao F.plain_proto_collect _];show wpAny _ A.in1 (newList []>>=fun z=>again (.builtin "list.__iadd__" ⟨[z,.ref a],[]⟩)) _ _ s;refine Yb (YO ?_);refine Yd ⟨YaG Yci _,Yar F.entry_list_iadd ?_⟩;rw[Yao Yci _];show wpAny _ A.in1 (Builtin.List.listExtendWith (.ref s.heap.objs.size) (.ref a) (.ref s.heap.objs.size)) _ _ _;unfold Builtin.List.listExtendWith;refine Yb (Ya3 (hT _ ho) ?_);have z1:Builtin.List.listSameRef (.ref s.heap.objs.size) (.ref a)=false:=by simp[Builtin.List.listSameRef,Yay hls]
 have z2:(Value.type "set" == Value.type "list")=false:=by decide
 have z3:(Value.type "set" == Value.type "tuple")=false:=by decide
 simp only[z1,z2,z3,Bool.or_false,Y1,Yal];refine Yb (ZkH ho hx hd hf hz h1 h2 fun I s' hm=>?_);obtain⟨fp,St,vs,W,st,pv,hk,hg,hos,htk,hfa,hfl,hI,hsz,hIt⟩:=hm;have ho':=hk _ _ ho;refine Yb (YT ?_);unfold Builtin.List.listLengthHint;refine Yb (wpAny_specialOf (hT _ ho') F.slot_set_len.lookup ?_);wp_delta;refine Yb (YaY (b:=true) (hT _ ho') (by rw[isSubtype_type];kernel_rfl) ?_);show wpAny _ A.in1 (typeOf (Value.ref a)>>=_) _ _ _;refine Yb (Ya3 (hT _ ho') ?_);refine Yd ?_;rw[if_pos (by decide)];refine Yb (Ya7 ?_);generalize hH:s.heap.push { cls:=.type "list",data:=.seq ([]:List Value).toArray }=H at *;have hHs:H.objs.size=s.heap.objs.size+1:=by rw[<- hH,YJ]
 have hl0:s'.heap.get? s.heap.objs.size=some { cls:=.type "list",data:=.seq ([]:List Value).toArray }:=hk _ _ (hH▸Yl _ rfl);have hnf:s.heap.objs.size∉fp:=fun m=>by
  rcases hfa _ m with e|e
  .exact Yay hls e
  .exact absurd e (by show ¬H.objs.size<=_;rw[hHs];exact Nat.not_succ_le_self _)
 have hvl:vs.length<=sizeLine:=by
  rw[pv.length_eq,Yc,Array.length_toList];exact fits_of_scanBound hz
 refine Yb ?_;show wpAny _ A.in1 (updateSeq s.heap.objs.size (fun z=>z.push .none)>>=fun _=>updateSeq s.heap.objs.size (fun z=>z.pop)) _ _ _;refine Yb (Yaw hl0 rfl ?_);have u1:=YD (Obj.mapSeq (fun z=>z.push Value.none)) hl0 rfl;refine Yaw u1 rfl ?_;have u2:=YD (Obj.mapSeq (fun z=>z.pop)) u1 rfl;have oth:∀b o,b≠s.heap.objs.size->s'.heap.get? b=some o->((s'.heap.update s.heap.objs.size (Obj.mapSeq (fun z=>z.push Value.none))).update s.heap.objs.size (Obj.mapSeq (fun z=>z.pop))).get? b=some o:=fun b o hb e=>by
  rw[YF _ _ (Ne.symm hb),YF _ _ (Ne.symm hb)];exact e
 have st2:=(W A.in1 hh).frame 0 s' ((s'.heap.update s.heap.objs.size (Obj.mapSeq (fun z=>z.push Value.none))).update s.heap.objs.size (Obj.mapSeq (fun z=>z.pop))) s'.toks st (Yj _) fun b hb o e=>oth b o (fun z=>hnf (z▸hb)) e;refine Yd ⟨YaG Yb4 _,YbZ (W A.in1 hh) hvl _ hnf _ vs.length 0 _ _ _ rfl (Y2 _) st2 u2 (ItemsOf.nil _) fun s2 acc c hm hS2 hacc=>?_⟩;show wpAny _ A (load s.heap.objs.size>>=_) _ _ s2;refine Yb (wpAny_load hS2 ?_);obtain⟨l',e1,p1⟩:=Zjo (hl▸pv);have ea:=ZkC hacc;refine Yd ?_;rw[ea,e1];refine k s2 l' ((p1.map _).trans hp) (fun b o e=>?_) (hm.gens.trans hg) (hm.os.trans hos) (by rw[<- htk];exact hm.toks) (YaT (Ym hS2));have hbl:b<s.heap.objs.size:=Ym e;refine hm.heap b o (fun m=>?_) (oth b o (Yo hbl) (hk b o (hH▸Ye _ e)));rcases Yn.mp m with z|z
 .exact Yo hbl z
 .have:=Yp.mp z;rw[this]at hbl;exact absurd hI (by show ¬H.objs.size<=I;rw[hHs];exact Nat.not_le_of_lt (Y0 hbl))
variable{P:Program}{w:World}{A:Around}{E:Value->Shared->Prop}{s:Shared}{I a:Addr}{ks:List Str}
def Zbt:∀l:List (Str×Tok),StrsAre (strValues l) (l.map (·.1))
 | []=>.nil
 | p::l=>.cons p.1 p.2 (Zbt l)
def Zhw(hh:A.handled=none)(hS:ZbW P w s.heap a ks)(h64:ks.length<64)(k:∀s' D (out:Array Value) (zs:List Str) n,s.heap.objs.size<=D->StrsAre out.toList zs->zs.Perm ks->sortedS zs=true->s'.heap.get? D=some (seqObj "list" out n)->(∀b o,s.heap.get? b=some o->s'.heap.get? b=some o)->s'.gens=s.gens->s'.os=s.os->s.toks<=s'.toks->Q (.ref D) s'):
  wpAny (model P w) A (call (.builtin "sorted") [.ref a]) Q E s:=by
 refine Calls.call_function_entry kind_sorted plain_sorted entry_sorted (args_sorted1 _) ?_;unfold Builtin.«sorted»;refine Yb (m:=checkCount "sorted" 1 1 _) (Yd ?_);refine Yb (ZfJ hh hS fun s1 l hp hk hg hos htk hsl=>?_);have hS1:=Zbt l;have hlen:(strValues l).length<64:=by
  rw[strValues,Yc,<- Yc (f:=(·.1)),hp.length_eq];exact h64
 refine Yb (Yb1 ?_ (by exact YB (YaT hlen) (by decide)));have hoL:(s1.heap.push (seqObj "list" (strValues l).toArray 0)).get? s1.heap.objs.size=some (seqObj "list" (strValues l).toArray 0):=Yl _ rfl;refine Yb (YT (YY slot_list_sort ⟨_,hoL,rfl⟩ entry_list_sort (list_sort_treeK strKind_oneLt hoL hS1.keysOf (fun v1 v2 r e=>keyKind_strs (by rw[<- e];exact hS1)) hlen fun st' a1 a2=>⟨_,rfl,?_⟩) (args_list_sort _)));obtain⟨zs,b1,b2,b3⟩:=sorted_out_str hS1 a1 a2;obtain⟨n,hn⟩:=sortedHeap_at (out:=(arrOf st').map (·.2)) hoL;refine Yd ⟨_,rfl,k _ s1.heap.objs.size _ zs n hsl b1 (b2.trans hp) b3 hn (fun b o e=>?_) hg hos htk⟩;have e1:=hk b o e;have lt:=Ym e1;show(sortedHeap (s1.heap.push (seqObj "list" (strValues l).toArray 0)) s1.heap.objs.size (strValues l) _).get? b=some o;rw[sortedHeap_old (Yo lt) (by rw[size_push'];exact Y0 lt)];exact Ye _ e1
def ZkS{a b c:List Nat}(h:a<b)(k:¬c<b):a<c:=by
 rcases Decidable.em (a<c)with g|g
 .exact g
 .exact absurd (List.lt_of_le_of_lt (List.not_lt.mp g) h) k
def Zco:∀(l:List Str)(p:Str),risingS p l=true->∀x∈l,ltCps x.cps.toList p.cps.toList=false
 | [],p,_,x,hx=>by cases hx
 | y :: l,p,h,x,hx=>by
  have h':(!ltCps y.cps.toList p.cps.toList&&risingS y l)=true:=h
  rw[YU,Bool.not_eq_true']at h'
  rcases Yn.mp hx with rfl|hx
  .exact h'.1
  .have h3:=Zco l y h'.2 x hx
   rw[ltCps_eq]at h3 h' ⊢
   simp only[YaZ]at h3 h' ⊢
   exact fun z=>h3 (ZkS z h'.1)
def Zc8:∀ {l:List Str},risingS x l=true->sortedS l=true
 | [],_=>rfl
 | y :: l,h=>by
  have h':(!ltCps y.cps.toList x.cps.toList&&risingS y l)=true:=h
  rw[YU]at h'
  exact h'.2
def Zc5:∀ {a b:List Str},sortedS a=true->sortedS b=true->a.Perm b->a=b
 | [],b,_,_,p=>p.nil_eq
 | x::a,[],_,_,p=>absurd p.length_eq (by simp)
 | x :: a,y::b,ha,hb,p=>by
  have hx:∀z∈x::a,ltCps z.cps.toList x.cps.toList=false:=fun z hz=>by
   rcases Yn.mp hz with rfl|hz
   .rw[ltCps_eq];simp[List.lt_irrefl]
   .exact Zco a x ha z hz
  have hy:∀z∈y::b,ltCps z.cps.toList y.cps.toList=false:=fun z hz=>by
   rcases Yn.mp hz with rfl|hz
   .rw[ltCps_eq];simp[List.lt_irrefl]
   .exact Zco b y hb z hz
  have e:x=y:=by
   have h1:=hx y (p.mem_iff.mpr Yab);have h2:=hy x (p.mem_iff.mp Yab);rw[ltCps_eq,YaZ]at h1 h2;exact Str.toL_inj (List.le_antisymm (List.not_lt.mp h1) (List.not_lt.mp h2))
  subst e;rw[Zc5 (Zc8 ha) (Zc8 hb) ((List.perm_cons x).mp p)]
def ZgG(P:Program)(w:World)(a:Addr)(ks:List Str):HO:=.ext fun h=>ZbW P w h a ks
def ZfO(q:ZbW P w h a ks):ZaO P w H h a (ZgG P w a ks) :=
 ⟨q,let⟨o,_,_,_,e,_⟩:=q;⟨o,e⟩,fun h1 h2 ⟨o,es,ep,t,e,r⟩ k=>⟨o,es,ep,t,k o e,r⟩⟩
section
def rS0(P:Program)(w:World):List V->Hp->VK->Prop:=fun xs H Q=>xs=[]/\∀p,H p=none->Q (.ref p) (upd H p (ZgG P w p []))
def Zu1:Zaj X (.type "set") (rS0 X.prog X.w):=by
 intro pins s σ H xs us Q I r h;obtain⟨rfl,q⟩:=h;cases r;exact ZjU ⟨.ref s.heap.objs.size,_,I.laid (t':=s.toks) (fun _ _ e=>Ye _ e) (Yj _) (ZfO (Zmx (Yl _ rfl))),rfl,q _ I.fresh⟩
def rSL(P:Program)(w:World):List V->Hp->VK->Prop:=fun xs H Q=>∃l zs,xs=[.ref l]/\H l=some (.lst (zs.map V.str))/\zs.length+1<scanBound/\∀p,H p=none->Q (.ref p) (upd H p (ZgG P w p (ZbA zs zs.length)))
def ZuR(hc:X.calm=true):Zaj X (.type "set") (rSL X.prog X.w):=by
 intro pins s σ H xs us Q I r h;obtain⟨l,zs,rfl,hl,hz,q⟩:=h;obtain⟨u,rfl,ru⟩:=r.one;cases ru;obtain⟨hle,its,n,rv,hlen,e⟩:=I.lstM hl;rw[Yc]at hlen;obtain⟨tl,e1,e2⟩:=Zcc rv;subst e1;have hsz:(strValues tl).toArray.size=zs.length:=by rw[Yr,<- hlen]
 refine Zjk (I.ok.hd hc) (its:=(strValues tl).toArray) (zs:=zs) ⟨_,e,rfl,n,rfl⟩ (fun i v hv=>?_) hsz.symm (by rw[hsz];exact hz) fun h' tk ht hS hk=>⟨.ref s.heap.objs.size,_,I.laid (t':=tk) (fun b o z=>hk b o (Ym z) z) (Yj _) (ZfO (by rw[hsz]at hS;exact hS)),rfl,q _ I.fresh⟩;rw[List.getElem?_toArray,strValues,Yi]at hv;obtain⟨p,hp,rfl⟩:=YK.mp hv;exact⟨p.1,p.2,by rw[<- e2,Yi,hp];rfl,rfl⟩
def ZiM(d:Drawn)(I:Inv X pins σ H s):Inv X pins σ H { s with drawn:=d }:=⟨I.ok,I.os,I.bare,I.base,I.loc,I.cell,I.free,I.freeC,I.pin,I.hok,I.len⟩
def Zeo:∀ {vs:List Value} {zs:List Str},StrsAre vs zs->Z6 (zs.map V.str) vs
 | _,_,.nil=>.nil
 | _,_,.cons y t h=>.cons ⟨t,rfl⟩ (Zeo h)
def Zjy(P:Program)(w:World):List V->Hp->VK->Prop:=fun xs H Q=>∃a ks,xs=[.ref a]/\H a=some (ZgG P w a ks)/\ks.length<64/\∀D zs,H D=none->zs.Perm ks->sortedS zs=true->Q (.ref D) (upd H D (.lst (zs.map V.str)))
def Zeu(hc:X.calm=true):Zaj X (.builtin "sorted") (Zjy X.prog X.w):=by
 intro pins s σ H xs us Q I r h;obtain⟨a,ks,rfl,ha,h64,q⟩:=h;obtain⟨u,rfl,ru⟩:=r.one;cases ru;have hS:ZbW X.prog X.w s.heap a ks:=(I.hok a _ ha).1;refine Zhw (I.ok.hd hc) hS h64 fun s' D out zs n hD hv hp hs hd hk hg hos htk=>?_;obtain⟨h',g',d',tk',os'⟩:=s';cases(show g'=s.gens from hg);cases(show os'=s.os from hos);refine⟨.ref D,upd H D (.lst (zs.map V.str)),?_,rfl,q D zs (I.hok.fresh hD) hp hs⟩;have I2:=I.laid (a:=D) (o:=.lst (zs.map V.str)) (h':=h') (t':=tk') hk hD ⟨by rw[Yc,hp.length_eq];exact YB (YaT h64) (by decide),out.toList,n,Zeo hv,by rw[Array.toArray_toList];exact hd⟩;exact ZiM d' I2
variable{o e:Expr}{es:List Expr}{t:TA}
def ZpR(P:Program)(w:World)(to:TE)(t:TA):TE:=fun σ H Q=>to σ H fun x H1=>∃a ks,x=.ref a/\H1 a=some (ZgG P w a ks)/\t σ H1 fun vs H2=>∃z ks',vs=[.str z]/\H2 a=some (ZgG P w a ks')/\ks'.length+1<scanBound/\Q .non (upd H2 a (ZgG P w a (ZdJ ks' z)))
def ZiJ(ho:PE X o to)(ha:PA X (e::es) t)(h1:attributeBase o "add" X.env (eval o X.env)=eval o X.env:=by rfl)(h2:((backTo cpos (starEach (e::es) X.env)).all (fun x=>!x.1)&&(backToKw cpos (keywordEach [] X.env)).all (fun x=>x.1.isSome)&&decide ((e::es).length+([]:List Keyword).length+(if([]:List Keyword).isEmpty then 0 else 1)<30))=true:=by rfl)(h3:(apos.endLine==cpos.line)=true:=by rfl)(h4:starEach (e::es) X.env=(false,eval e X.env)::starEach es X.env:=by rfl)(h5:(backTo cpos (starEach es X.env)).any (·.1)=false:=by rfl):
  PE X (.Call (.Attribute o "add" apos) (e::es) [] cpos) (ZpR X.prog X.w to t):=by
 intro pins s σ H Q I h;refine wpAny_Call_method_late h1 h2 h3 rfl (thn (ho pins s σ H _ I h) fun v s1 h_q=>?_);obtain⟨x,H1,I1,r1,a,ks,ex,ha1,q1⟩:=h_q;subst ex;cases r1;have hS:ZbW X.prog X.w s1.heap a ks:=(I1.hok a _ ha1).1;refine⟨"set","set.add",F.plainAttrs_set,F.slot_set_add,F.type_set_add,hS.typeIs,fun b z=>?_,?_⟩
 .cases z;obtain⟨ob,_,_,_,eo,hx,_⟩:=hS;exact⟨ob,eo,hx.2.1⟩
 .have hA:=ha cpos pins s1 σ H1 _ I1 q1;rw[h4]at hA ⊢;refine Yap (by show(false||(backTo cpos (starEach es X.env)).any (·.1))=false;rw[h5]<;>rfl) (Calls.evalArgs_plain (thn hA fun us s2 h_q=>?_));obtain⟨vs,H2,I2,r2,z,ks',ev,ha2,hr,q2⟩:=h_q;subst ev;obtain⟨u,rfl,ru⟩:=r2.one;obtain⟨tk,rfl⟩:=ru;have hS2:ZbW X.prog X.w s2.heap a ks':=(I2.hok a _ ha2).1;refine ZlD hS2 hr fun h' sb hS'=>⟨.non,_,?_,rfl,q2⟩;refine I2.write (x:=a) (e:=a) (by rw[ha2];exact trivial) (.inl rfl) (fun b o hb ho=>(sb.2 b hb).trans ho) ?_ (ZfO hS');obtain⟨ob,_,_,_,eo,_⟩:=hS';exact⟨ob,eo⟩
end
section
variable{K:YFr}
def tS(P:Program)(w:World)(ks:List Str):AO:=.oth fun _ H a=>H a=some (ZgG P w a ks)
def HR.set{A:AHp}(g:HR K H A)(e:A a=some (tS P w ks)):H a=some (ZgG P w a ks):=(g a _ e).2.1
def ZpB(e:H a=some (ZgG P w a ks)):RO K H a (tS P w ks):=⟨⟨_,e⟩,e,fun H1 H2 h1 _ h2=>h2.trans h1⟩
def HR.newSet{A:AHp}(g:HR K H A)(e:H a=Option.none):HR K (upd H a (ZgG P w a ks)) (updA A a (tS P w ks)):=g.putO (Zat.upd_new e).kp (ZpB Zv)
def xS0(P:Program)(w:World):List U->AHp->AVK->Prop:=fun us A Q=>us=[]/\∀p,A p=none->Q (.ref p) (updA A p (tS P w []))
def ZrR:AbL K (rS0 P w) (xS0 P w):=fun xs us A H Q' Q r g h k=>by
 obtain⟨rfl,q⟩:=h
 cases r
 exact⟨rfl,fun p hp=>k _ _ _ _ (Zat.upd_new hp).kp (g.newSet hp) (.ref p) (q p (g.none hp))⟩
def xSL(P:Program)(w:World):List U->AHp->AVK->Prop:=fun us A Q=>∃l zs,us=[.ref l]/\A l=some (.lst (zs.map U.str))/\zs.length+1<scanBound/\∀p,A p=none->Q (.ref p) (updA A p (tS P w (ZbA zs zs.length)))
def ZoN:AbL K (rSL P w) (xSL P w):=fun xs us A H Q' Q r g h k=>by
 obtain⟨l,zs,rfl,hl,hz,q⟩:=h
 obtain⟨v,rfl,rv⟩:=r.inv1
 cases rv
 obtain⟨vs,h1,r1⟩:=g.list hl
 exact⟨l,zs,rfl,by rw[h1,r1.strs],hz,fun p hp=>k _ _ _ _ (Zat.upd_new hp).kp (g.newSet hp) (.ref p) (q p (g.none hp))⟩
def Zl9(P:Program)(w:World):List U->AHp->AVK->Prop:=fun us A Q=>∃a ks,us=[.ref a]/\A a=some (tS P w ks)/\ks.length<64/\∀D zs,A D=none->zs.Perm ks->sortedS zs=true->Q (.ref D) (updA A D (.lst (zs.map U.str)))
def ZcH:AbL K (Zjy P w) (Zl9 P w):=fun xs us A H Q' Q r g h k=>by
 obtain⟨a,ks,rfl,ha,hz,q⟩:=h
 obtain⟨v,rfl,rv⟩:=r.inv1
 cases rv
 exact⟨a,ks,rfl,g.set ha,hz,fun D zs hD hp hs=>k _ _ _ _ (Zat.upd_new hD).kp (g.newL hD RUs.of_strs) (.ref D) (q D zs (g.none hD) hp hs)⟩
def Zp5(P:Program)(w:World)(ao:AE)(l:AA):AE:=fun ρ A Q=>ao ρ A fun x A1=>∃a ks,x=.ref a/\A1 a=some (tS P w ks)/\l ρ A1 fun us A2=>∃z ks',us=[.str z]/\A2 a=some (tS P w ks')/\ks'.length+1<scanBound/\Q .non (updA A2 a (tS P w (ZdJ ks' z)))
def ZjI{t:TA}(ho:AbE K to ao)(hl:AbA K t l):AbE K (ZpR P w to t) (Zp5 P w ao l):=fun ρ A σ H Q' Q hs g wh k =>
 ho ρ A σ H _ _ hs g wh fun x A1 v1 H1 k1 g1 r1 hq0=>by
  obtain⟨a,ks,e1,e2,q⟩:=hq0
  subst e1
  cases r1
  refine⟨a,ks,rfl,g1.set e2,hl ρ A1 σ H1 _ _ (hs.same k1) g1 q fun us A2 vs H2 k2 g2 r2 h_q=>?_⟩
  obtain⟨z,ks',e3,e4,hz,q2⟩:=h_q
  subst e3
  obtain⟨v,rfl,rv⟩:=r2.inv1
  cases rv
  have h4:=g2.set e4
  have kp:Kp K H2 (upd H2 a (ZgG P w a (ZdJ ks' z))):=Kp.ext h4
  exact⟨z,ks',rfl,h4,hz,k _ _ _ _ (k1.trans (k2.trans kp)) (g2.putO kp (ZpB Zv)) .non q2⟩
variable{A:AHp}
def Zvz:xS0 P w [] A Q=∀p,A p=none->Q (.ref p) (updA A p (tS P w [])):=propext ⟨fun h=>h.2,fun h=>⟨rfl,h⟩⟩
def Zu2:xSL P w [.ref l] A Q=∃zs,A l=some (.lst (zs.map U.str))/\zs.length+1<scanBound/\∀p,A p=none->Q (.ref p) (updA A p (tS P w (ZbA zs zs.length))):=propext ⟨fun hq0=>by obtain⟨_,zs,e,h⟩:=hq0;cases e;exact⟨zs,h⟩,fun⟨zs,h⟩=>⟨l,zs,rfl,h⟩⟩
def Zir:Zl9 P w [.ref a] A Q=∃ks,A a=some (tS P w ks)/\ks.length<64/\∀D zs,A D=none->zs.Perm ks->sortedS zs=true->Q (.ref D) (updA A D (.lst (zs.map U.str))):=propext ⟨fun hq0=>by obtain⟨_,ks,e,h⟩:=hq0;cases e;exact⟨ks,h⟩,fun⟨ks,h⟩=>⟨a,ks,rfl,h⟩⟩
def Zme:Zp5 P w ao l ρ A Q=ao ρ A fun x A1=>∃a ks,x=.ref a/\A1 a=some (tS P w ks)/\l ρ A1 fun us A2=>∃z ks',us=[.str z]/\A2 a=some (tS P w ks')/\ks'.length+1<scanBound/\Q .non (updA A2 a (tS P w (ZdJ ks' z))):=rfl
end
def ZvP:List V->Hp->VK->Prop:=fun xs H Q=>∃a ys,xs=[.ref a,.ty "list"]/\H a=some (.lst ys)/\Q (.bl true) H
def Zt1:Zaj X (.builtin "isinstance") ZvP:=by
 intro pins s σ H xs us Q I r h;obtain⟨a,ys,rfl,hH,q⟩:=h;obtain⟨u,v,rfl,ru,rv⟩:=r.two;cases ru;cases(show v=Value.type "list" from rv);obtain⟨z,its,n,rr,hl,e⟩:=I.lstM hH;exact Y5 YbA I.kIn ⟨_,e,rfl⟩ (b:=true) (by unfold PySem.W.kitOne;rw[if_pos (by decide)]) (fun z=>nomatch z) fun tk=>⟨.bl true,H,I.tok _,rfl,q⟩
section
variable{K:YFr}
def Zvw:List U->AHp->AVK->Prop:=fun us A Q=>∃a ys,us=[.ref a,.ty "list"]/\A a=some (.lst ys)/\Q (.bl true) A
def Zqv:AbL K ZvP Zvw:=fun xs us A H Q' Q r g h k=>by
 obtain⟨a,ys,rfl,e,q⟩:=h
 cases r with
 | cons r1 r=>cases r with
  | cons r2 r =>
   cases r;cases r1;cases r2
   obtain⟨vs,h1,_⟩:=g.list e
   exact⟨a,vs,rfl,h1,k _ _ _ _ (.refl H) g (.bl true) q⟩
variable{A:AHp}
def ZpZ:Zvw [.ref a,.ty "list"] A Q=∃ys,A a=some (.lst ys)/\Q (.bl true) A:=propext ⟨fun hq0=>by obtain⟨_,ys,e,h⟩:=hq0;cases e;exact⟨ys,h⟩,fun⟨ys,h⟩=>⟨a,ys,rfl,h⟩⟩
end
def Rl.nms:Rl->List Str
 | .nothing=>[]
 | .bead _=>[]
 | .named c=>[c]
 | .or x y=>x.nms++y.nms
 | .by_ x y=>x.nms++y.nms
 | .hold _ x=>x.nms
def Rl.kids:Rl->List Rl
 | .or x y=>[x,y]
 | .by_ x y=>[x,y]
 | .hold _ x=>[x]
 | _=>[]
def Rl.nms_len:∀r:Rl,r.nms.length<=r.size
 | .nothing=>by simp[Rl.nms]
 | .bead _=>by simp[Rl.nms]
 | .named _=>by simp[Rl.nms,Rl.size]
 | .or x y=>by have:=x.nms_len;have:=y.nms_len;simp only[Rl.nms,Rl.size,Ys];lia
 | .by_ x y=>by have:=x.nms_len;have:=y.nms_len;simp only[Rl.nms,Rl.size,Ys];lia
 | .hold _ x=>by have:=x.nms_len;simp only[Rl.nms,Rl.size];lia
def Rl.nms_kids{r:Rl}(h:r.ci≠2):r.nms=(r.kids.map Rl.nms).flatten:=by cases r<;>simp_all [Rl.nms,Rl.kids,Rl.ci]
def Rl.kids_dep{r x:Rl}(h:x∈r.kids):x.dep+1<=r.dep/\x.size+1<=r.size:=by
 cases r<;>simp only[Rl.kids,Yn,YM,Yan]at h<;>simp only[Rl.dep,Rl.size]
 .rcases h with rfl|rfl<;>lia
 .rcases h with rfl|rfl<;>lia
 .subst h;lia
def Zfq(cs:Nat->Addr)(A:AHp):List Addr->List Rl->Prop
 | [],[]=>True
 | a::as,r::rs=>RlO cs A a r/\Zfq cs A as rs
 | _,_=>False
def Zfq.ext{A A':AHp}(e:Ext A A'):∀ {as:List Addr} {rs:List Rl},Zfq cs A as rs->Zfq cs A' as rs
 | [],[],_=>trivial
 | _::_,_::_,h=>⟨h.1.ext e,h.2.ext e⟩
theorem Zfq.get{A:AHp}:∀ {as:List Addr} {rs:List Rl} {k:Nat} {a:Addr},Zfq cs A as rs->as[k]? = some a->∃r,rs[k]? = some r/\RlO cs A a r
 | a::as,r::rs,0,b,h,e=>by simp at e;subst e;exact⟨r,rfl,h.1⟩
 | a::as,r::rs,k+1,b,h,e=>Zfq.get (k:=k) h.2 e
def Zfq.len{A:AHp}:∀ {as:List Addr} {rs:List Rl},Zfq cs A as rs->as.length=rs.length
 | [],[],_=>rfl
 | _::_,_::_,h=>congrArg (·+1) h.2.len
structure Ztr (r:Rl) (zs:List Str):Prop where
 so:sortedS zs=true
 nd:zs.Nodup
 mem:∀z,z∈zs↔z∈r.nms
 len:zs.length<=r.nms.length
def Zgw:x∈ZdJ ks z↔x∈ks\/x=z:=by
 unfold ZdJ;split
 .rename_i h;exact⟨.inl,fun q=>q.elim id fun e=>e▸h⟩
 .simp
def ZhS(h:ks.Nodup):(ZdJ ks z).Nodup:=by
 unfold ZdJ;split
 .exact h
 .rename_i g;rw[List.nodup_append];exact⟨h,by simp,fun a ha b hb e=>g (by rw[Yp.mp hb]at e;exact e▸ha)⟩
theorem Zb0(zs:List Str):∀i,i<=zs.length->(ZbA zs i).Nodup/\∀x,x∈ZbA zs i↔x∈zs.take i
 | 0,_=>by simp[ZbA]
 | i+1,h=>by
  obtain⟨h1,h2⟩:=Zb0 zs i (by lia)
  have e:zs[i]? = some (zs[i]'(by lia)):=Yg (by lia)
  rw[Zdy e]
  refine⟨ZhS h1,fun x=>?_⟩
  rw[Zgw,h2,List.take_succ_eq_append_getElem (by lia),Yz,Yp]
def Zft:∀ {a b:List Str},a.Nodup->b.Nodup->(∀z,z∈a↔z∈b)->a.Perm b
 | [],b,_,_,h=>by
  cases b with
  | nil=>exact .nil
  | cons y b=>exact absurd ((h y).mpr Yab) (by simp)
 | x :: a,b,ha,hb,h=>by
  have hx:x∈b:=(h x).mp Yab
  rw[Yae]at ha
  have p1:=List.perm_cons_erase hx
  refine((Zft ha.2 (hb.erase x) fun z=>?_).cons x).trans p1.symm
  rw[hb.mem_erase_iff]
  constructor
  .exact fun hz=>⟨fun e=>ha.1 (e▸hz),(h z).mp (Yad _ hz)⟩
  .rintro⟨hz1,hz2⟩
   exact(Yn.mp ((h z).mpr hz2)).resolve_left hz1
open PySem PySem.Spec PySem.W PyProof.Rows
section
open Classical in
def Zp9 (h:Heap) (d:PyData) (y:Value):Bool:=if q:∃ e as,Reads h y e as then PyData.eqv q.choose d else false
def Zif(r:Reads h y e as):Zp9 h d y=PyData.eqv e d:=by
 have q:∃e as,Reads h y e as:=⟨e,as,r⟩;unfold Zp9;rw[dif_pos q];obtain⟨bs,r2⟩:=q.choose_spec;rw[(reads_det (fun _ _ z _=>z) r r2).1]
end
def Zvv(neg:Bool)(K:YFr):R2:=fun x y H Q=>∃(l:Addr)(vs:List V)(ds:List PyData)(d:PyData),y=.ref l/\H l=some (.lst vs)/\ZeA K H ds vs/\Rep K H d x/\(∀e∈ds,e.canLay0=true/\e.depth<=190)/\d.canLay0=true/\Q (.bl (if neg then !ds.any (fun e=>PyData.eqv e d)else ds.any fun e=>PyData.eqv e d)) H
def ZnZ:∀(its:List Value)(ds:List PyData),its.length=ds.length->(∀(i:Nat)(y:Value),its[i]? = some y->∃e as,ds[i]? = some e/\Reads h y e as)->its.any (Zp9 h d)=ds.any fun e=>PyData.eqv e d:=by
 intro its;induction its with
 | nil=>intro ds hl _;cases ds with|nil=>rfl|cons _ _=>simp at hl
 | cons y ys ih =>
  intro ds hl ho;cases ds with
  | nil=>simp at hl
  | cons e es =>
   obtain⟨e',as,h1,ra⟩:=ho 0 y rfl;simp at h1;subst h1;rw[List.any_cons,List.any_cons,Zif ra,ih es (by simpa using hl) fun i y' hy=>ho (i+1) y' (by simpa using hy)]
section
def Zsc(hr:Zbb (k+1) X.A)(I:Inv X pins σ H s)(rx:Zau x v)(hH:H l=some (.lst vs))(hds:ZeA X.K H ds vs)(hd:Rep X.K H d x)(ho:∀e∈ds,e.canLay0=true/\e.depth<=190)(hdo:d.canLay0=true):
  ∃its:List Value,s.heap.IsList l its.toArray/\(∀y,y∈its.toArray->SeqAt.EqAt X.A.in1 s y v (Zp9 s.heap d y))/\its.toArray.any (Zp9 s.heap d)=ds.any fun e=>PyData.eqv e d:=by
 obtain⟨z,its,n,r,hl,e⟩:=I.lstM hH;obtain⟨bs,rb⟩:=Rep.reads I hd rx;have hun:=hr.un;have one:∀ {i:Nat} {y:Value},its[i]? = some y->∃e as,ds[i]? = some e/\Reads s.heap y e as:=by
  intro i y hy;obtain⟨w,hw,rel⟩:=ZmA r hy;obtain⟨e,h1,h2⟩:=hds.at hw;obtain⟨as,ra⟩:=Rep.reads I h2 rel;exact⟨e,as,h1,ra⟩
 refine⟨its,⟨_,e,rfl,_,rfl⟩,fun y hy=>?_,?_⟩
 .have hy':y∈its:=by simpa using hy
  obtain⟨i,hi⟩:=YbV.mp hy';obtain⟨e1,as,h1,ra⟩:=one hi;have hm:=ho e1 (Yk h1);rw[Zif ra];exact SeqAt.eqAt_reads e1 d _ s _ _ _ _ ra rb hm.1 hdo (by show X.A.units+1+_<cLine;have:=hm.2;lia)
 .rw[List.any_toArray];exact ZnZ its ds (by rw[<- r.length,hds.len]) fun i y=>one
def ZtN(hr:Zbb (k+1) X.A):OpR X (compareOp .In) (Zvv false X.K):=by
 intro pins s σ H x y v u Q I rx ry h;obtain⟨l,vs,ds,d,rfl,hH,hds,hd,ho,hdo,q⟩:=h;cases ry;obtain⟨its,h1,h2,h3⟩:=Zsc hr I rx hH hds hd ho hdo;refine SeqAt.in_listAt _ h1 h2 ?_;rw[h3];exact⟨.bl _,H,I,rfl,q⟩
end
section
variable{K:YFr}
def Zs6(neg:Bool):AR2:=fun w u A Q=>match u with
 | .ref l=>∃(xs:List U)(ds:List PyData)(d:PyData),A l=some (.lst xs)/\DUs A xs ds/\DU A w d/\(∀e∈ds,e.canLay0=true/\e.depth<=190)/\d.canLay0=true/\Q (.bl (if neg then !ds.any (fun e=>PyData.eqv e d)else ds.any fun e=>PyData.eqv e d)) A
 | _=>False
def Zm0:AbR K (Zvv neg K) (Zs6 neg):=fun x y u w A H Q' Q hu hw g h k=>by
 unfold Zs6 at h
 split at h
 .cases hw
  obtain⟨zs,ds,d,e,h1,h2,h3,h4,q⟩:=h
  obtain⟨vs,hH,r1⟩:=g.list e
  exact⟨_,vs,ds,d,rfl,hH,DUs.reps g h1 r1,DU.rep g h2 hu,h3,h4,k _ _ _ _ (.refl H) g (.bl _) q⟩
 .exact h.elim
end
section
variable{X:Cx}(P:Program)(w:World)(hP:X.prog=P)(hw:X.w=w)
include hP hw
def Zv3(hc:X.calm=true):Zaj X (.type "set") (rSL P w):=by subst hP hw;exact ZuR hc
def Zo1(hc:X.calm=true):Zaj X (.builtin "sorted") (Zjy P w):=by subst hP hw;exact Zeu hc
end
def Zmd(C:Addr)(m:Str)(asp:Zc7)(aa:AE)(l:AA):AE:=fun ρ A Q=>aa ρ A fun x A1=>∃a dx fs,x=.ref a/\A1 a=some (.ins C dx fs)/\fs.lookup m=none/\l ρ A1 fun us A2=>asp (x::us) A2 Q fun _ _ _=>False
def ZgO{K:YFr}{t:TA}(ha:AbE K ta aa)(hl:AbA K t l):AbE K (ZpS C m (Zcm K asp) [] E0 ta t) (Zmd C m asp aa l):=fun ρ A σ H Q' Q hs g w k =>
 ha ρ A σ H _ _ hs g w fun x A1 v1 H1 k1 g1 r1 hq0=>by
  obtain⟨a,dx,fs,e1,e2,e3,q⟩:=hq0
  subst e1
  cases r1
  obtain⟨gs,h1,h2⟩:=g1.ins e2
  exact⟨a,dx,gs,rfl,h1,h2.miss e3,hl ρ A1 σ H1 _ _ (hs.same k1) g1 q fun us A2 vs H2 k2 g2 r2 q2=>⟨.ref a::us,A2,Q',_,.cons (.ref a) (by rw[YN];exact r2),g2,q2,fun z A3 v3 H3 k3 h3 r3 q3=>k _ _ _ _ (k1.trans (k2.trans k3)) h3 r3 q3,fun _ _ _ _ _ _ _ _ _ _ _ z=>z.elim⟩⟩
def ZoL{A:AHp}:Zmd C m asp aa l ρ A Q=aa ρ A fun x A1=>∃a dx fs,x=.ref a/\A1 a=some (.ins C dx fs)/\fs.lookup m=none/\l ρ A1 fun us A2=>asp (x::us) A2 Q fun _ _ _=>False:=rfl
def Zns{frs:List (Str×Nat)}{A:AHp}:ZlX P w nt frs wi g tt tk tv ρ A Q=wi ρ A fun J A1=>∀l,A1 l=none->Zsu P w J g tt tk tv l Q (aCompStart nt frs ρ) (updA A1 l (dS P w 0 [])):=rfl
section
variable{α:Type}[DecidableEq α]
def Zaf:∀ {l m:List α},l.Nodup->(∀y∈l,y∈m)->l.length<=m.length
 | [],m,_,_=>Y2 _
 | a :: l,m,nd,h=>by
  rw[Yae]at nd
  have ha:a∈m:=h a (Yab ..)
  have:=Zaf (m:=m.erase a) nd.2 fun y hy=>(List.mem_erase_of_ne (fun e=>nd.1 (by rw[<- e];exact hy))).mpr (h y (Yad _ hy))
  rw[List.length_erase_of_mem ha]at this
  have:0<m.length:=List.length_pos_of_mem ha
  simp only[List.length_cons];lia
end
abbrev On:=Option Nat
def ZiE:On->On->On
 | none,y=>y
 | x,none=>x
 | some a,some b=>some (min a b)
def Zo9:On->On->On
 | some a,some b=>some (a+b)
 | _,_=>none
def ole(x y:On):Prop:=∀b,y=some b->∃a,x=some a/\a<=b
def Zbo(x:On):ole x x:=fun b h=>⟨b,h,Yj b⟩
def Zbg(h:ole x y)(k:ole y z):ole x z:=fun c hc=>by
 obtain⟨b,hb,l⟩:=k c hc
 obtain⟨a,ha,m⟩:=h b hb
 exact⟨a,ha,YB m l⟩
def ZcJ(h:ole x y)(k:ole y x):x=y:=by
 cases x with
 | none=>cases y with
  | none=>rfl
  | some b=>obtain⟨a,e,_⟩:=h b rfl;cases e
 | some a =>
  obtain⟨b,e,l⟩:=k a rfl;obtain⟨a',e',l'⟩:=h b e;cases e';rw[e,Nat.le_antisymm l' l]
def Zd7(x:On):ole x none:=fun _ h=>nomatch h
def ZiU(x y:On):ole (ZiE x y) x:=fun b h=>by
 subst h
 cases y with
 | none=>exact⟨b,rfl,Yj _⟩
 | some c=>exact⟨_,rfl,YbL _ _⟩
def Zjt(x y:On):ole (ZiE x y) y:=fun b h=>by
 subst h
 cases x with
 | none=>exact⟨b,rfl,Yj _⟩
 | some c=>exact⟨_,rfl,Nat.min_le_right _ _⟩
def Zh1(h:ole z x)(k:ole z y):ole z (ZiE x y):=fun b e=>by
 cases x with
 | none=>exact k b e
 | some a=>cases y with
  | none=>exact h b e
  | some c =>
   cases e
   rcases Nat.le_total a c with l|l
   .rw[YaO l];exact h a rfl
   .rw[Nat.min_eq_right l];exact k c rfl
def omin_one(h:ZiE x y=some b):x=some b\/y=some b:=by
 cases x with
 | none=>exact .inr h
 | some a=>cases y with
  | none=>exact .inl h
  | some c =>
   injection h with h
   rcases Nat.le_total a c with l|l
   .rw[YaO l]at h;exact .inl (by rw[h])
   .rw[Nat.min_eq_right l]at h;exact .inr (by rw[h])
def ZgL(h:Zo9 x y=some b):∃a c,x=some a/\y=some c/\a+c=b:=by
 cases x with
 | none=>cases h
 | some a=>cases y with
  | none=>cases h
  | some c=>exact⟨a,c,rfl,rfl,by injection h⟩
def Rl.lst(e:Str->On):Rl->On
 | .nothing=>some 0
 | .bead _=>some 1
 | .named z=>e z
 | .or x y=>ZiE (x.lst e) (y.lst e)
 | .by_ x y=>Zo9 (x.lst e) (y.lst e)
 | .hold k x=>if k<3 then some 0 else x.lst e
def Rl.lst_mono(h:∀z,ole (e z) (f z))(r:Rl):ole (r.lst e) (r.lst f):=by
 induction r with
 | nothing=>exact Zbo _
 | bead c=>exact Zbo _
 | named z=>exact h z
 | or x y i j=>exact Zh1 (Zbg (ZiU _ _) i) (Zbg (Zjt _ _) j)
 | by_ x y i j =>
  intro b hb;obtain⟨a,c,e1,e2,l⟩:=ZgL hb;obtain⟨a',e3,l3⟩:=i a e1;obtain⟨c',e4,l4⟩:=j c e2;exact⟨a'+c',by simp only[Rl.lst,e3,e4,Zo9],by lia⟩
 | hold k x i =>
  simp only[Rl.lst];split
  .exact Zbo _
  .exact i
def Rl.lst_dep(h:∀z,ole (e z) (f z)):∀ {r:Rl} {b:Nat},r.lst e=some b->r.lst e≠r.lst f->∃z a,e z=some a/\a<=b/\e z≠f z:=by
 intro r;induction r with
 | nothing=>intro b _ n;exact(n rfl).elim
 | bead c=>intro b _ n;exact(n rfl).elim
 | named z=>intro b hb n;exact⟨z,b,hb,Yj b,n⟩
 | or x y i j =>
  intro b hb n;by_cases hx:x.lst e=x.lst f
  .by_cases hy:y.lst e=y.lst f
   .exact(n (by simp only[Rl.lst,hx,hy])).elim
   .rcases omin_one hb with h1|h1
    .exfalso;refine n (ZcJ ((Rl.or x y).lst_mono h) ?_);show ole (ZiE (x.lst f) (y.lst f)) ((Rl.or x y).lst e);rw[hb,<- h1,hx];exact ZiU _ _
    .exact j h1 hy
  .rcases omin_one hb with h1|h1
   .exact i h1 hx
   .by_cases hy:y.lst e=y.lst f
    .exfalso;refine n (ZcJ ((Rl.or x y).lst_mono h) ?_);show ole (ZiE (x.lst f) (y.lst f)) ((Rl.or x y).lst e);rw[hb,<- h1,hy];exact Zjt _ _
    .exact j h1 hy
 | by_ x y i j =>
  intro b hb n;obtain⟨a,c,e1,e2,l⟩:=ZgL hb;by_cases hx:x.lst e=x.lst f
  .by_cases hy:y.lst e=y.lst f
   .exact(n (by simp only[Rl.lst,hx,hy])).elim
   .obtain⟨z,d,g1,g2,g3⟩:=j e2 hy;exact⟨z,d,g1,by lia,g3⟩
  .obtain⟨z,d,g1,g2,g3⟩:=i e1 hx;exact⟨z,d,g1,by lia,g3⟩
 | hold k x i =>
  intro b hb n;simp only[Rl.lst]at hb n;split at hb
  .rename_i hk;simp[hk]at n
  .rename_i hk;simp only[hk,Yal]at n;exact i hb n
def lv(F:Str->Option Rl):Nat->Str->On
 | 0,_=>none
 | t+1,z=>match F z with
  | some r=>r.lst (lv F t)
  | none=>none
theorem Zdm(F:Str->Option Rl):∀t z,ole (lv F (t+1) z) (lv F t z)
 | 0,z=>Zd7 _
 | t+1,z=>by
  show ole (match F z with|some r=>r.lst (lv F (t+1))|none=>none) (match F z with|some r=>r.lst (lv F t)|none=>none)
  cases F z with
  | none=>exact Zbo _
  | some r=>exact r.lst_mono (Zdm F t)
def Znf(F:Str->Option Rl)(z:Str):∀t,i<=t->ole (lv F t z) (lv F i z):=fun t h=>by
 induction h with
 | refl=>exact Zbo _
 | step _ ih=>exact Zbg (Zdm F _ z) ih
def Zkm(F:Str->Option Rl):∀t z b,lv F (t+1) z=some b->lv F (t+1) z≠lv F t z->∃l:List Str,l.length=t+1/\l.Nodup/\∀y∈l,(∃r,F y=some r)/\∃i a,i<=t/\a<=b/\lv F (i+1) y=some a:=by
 intro t;induction t with
 | zero =>
  intro z b hb n;refine⟨[z],rfl,by simp,fun y hy=>?_⟩;rw[Yp.mp hy];refine⟨?_,0,b,Yj _,Yj _,hb⟩;cases h:F z with
  | some r=>exact⟨r,rfl⟩
  | none=>simp only[lv,h]at hb;cases hb
 | succ t ih =>
  intro z b hb n;cases h:F z with
  | none=>simp only[lv,h]at hb;cases hb
  | some r =>
   have e1:∀s,lv F (s+1) z=r.lst (lv F s):=fun s=>by simp only[lv,h]
   have hb':=hb;have n':=n;rw[e1]at hb' n';rw[e1]at n';obtain⟨y,a,g1,g2,g3⟩:=Rl.lst_dep (Zdm F t) hb' n';obtain⟨l,l1,l2,l3⟩:=ih y a g1 g3;refine⟨z::l,by simp[l1],Yae.mpr ⟨fun hz=>?_,l2⟩,fun x hx=>?_⟩
   .obtain⟨_,i,c,hi,hc,hv⟩:=l3 z hz;have h1:=Znf F (i:=i+1) z (t+1) (by lia);obtain⟨d,hd,hd'⟩:=h1 c hv;refine n (ZcJ (Zdm F (t+1) z) ?_);rw[hb,hd];intro q e;cases e;exact⟨d,rfl,by lia⟩
   .rcases Yn.mp hx with rfl|hx
    .exact⟨⟨r,h⟩,t+1,b,Yj _,Yj _,hb⟩
    .obtain⟨q,i,c,hi,hc,hv⟩:=l3 x hx;exact⟨q,i,c,by lia,by lia,hv⟩
def Zje(F:Str->Option Rl){ns:List Str}(h:∀z r,F z=some r->z∈ns)(z:Str):lv F (ns.length+1) z=lv F ns.length z:=by
 refine Classical.byContradiction fun n=>?_;cases hb:lv F (ns.length+1) z with
 | none =>
  have:=Zdm F ns.length z;rw[hb]at this n;cases hc:lv F ns.length z with
  | none=>exact n hc.symm
  | some b=>obtain⟨a,e,_⟩:=this b hc;cases e
 | some b =>
  obtain⟨l,l1,l2,l3⟩:=Zkm F ns.length z b hb n;have:=Zaf l2 (m:=ns) fun y hy=>by obtain⟨⟨r,e⟩,_⟩:=l3 y hy;exact h y r e
  lia
theorem ZjX{t:Nat}(h:∀z,lv F (t+1) z=lv F t z):∀s,lv F (t+s)=lv F t
 | 0=>rfl
 | s+1=>by
  funext z
  have ih:=ZjX h s
  show lv F (t+s+1) z=_
  rw[<- h z]
  simp only[lv,ih]
def lV(F:Str->Option Rl)(n:Nat):Str->On:=lv F n
def Zq3{ns:List Str}(h:∀z r,F z=some r->z∈ns)(hz:F z=some r):r.lst (lV F ns.length)=lV F ns.length z:=by
 have:=Zje F h z;simp only[lv,hz]at this;exact this
def Ztf{ns:List Str}(h:∀z r,F z=some r->z∈ns){t:Nat}(ht:t<=ns.length)(e:∀z,lv F (t+1) z=lv F t z):lv F t=lV F ns.length:=by
 have:=ZjX e (ns.length-t);rw[Nat.add_sub_cancel' ht]at this;exact this.symm
def rmv(A:AHp)(f:Addr):AHp:=fun x=>if x=f then none else A x
def ZdR{A:AHp}:rmv A f f=none:=if_pos rfl
def Zce{A:AHp}(h:x≠f):rmv A f x=A x:=if_neg h
def Zck{A:AHp}{o:AO}:updA (rmv A f) f o=updA A f o:=by
 funext x;by_cases e:x=f
 .rw[e,Zc,Zc]
 .rw[Zn e,Zn e,Zce e]
def ZiB{A:AHp}{o:AO}(h:A f=some o):updA (rmv A f) f o=A:=by
 funext x;by_cases e:x=f
 .rw[e,Zc,h]
 .rw[Zn e,Zce e]
def Zcr{B A:AHp}(e:Ext B A)(h:B f=none):Ext B (rmv A f):=fun x o q=>by
 rw[Zce (fun z=>by rw[z,h]at q;cases q)]
 exact e x o q
def Za2{A B:AHp}(e:Ext A B)(h:B x=none):A x=none:=by
 cases q:A x with
 | none=>rfl
 | some o=>rw[e x o q]at h;cases h
section
variable{A:AHp}
def Zc2(items:List U)(p:Nat->Bool)(f:Nat->U)(T:ASt->Prop)(h0:T τ)(hl:A l=none)(hn:items.length<=100000)(hJ:∀ k A2,k<=items.length->Ext A A2->J k A2 items[k]?)(hs : ∀ k u τ A2,items[k]? = some u->T τ->Ext A A2->∀ (Cy:ASt->U->AHp->Prop) (Cn:ASt->AHp->Prop),(p k=true->∀ τ2 A3,T τ2->Ext A2 A3->Cy τ2 (f k) A3)->(p k=false->∀ τ2 A3,T τ2->Ext A2 A3->Cn τ2 A3) ->
   g u τ A2 fun τ2 A3=>tt τ2 A3 fun ok A4=>if ok=true then te τ2 A4 (Cy τ2)else Cn τ2 A4)(hd:∀B,Ext A B->B l=none->Q (.ref l) (updA B l (.lst (((List.range items.length).filter p).map f)))):aCL J g tt te l Q τ (updA A l (.lst [])):=by
 refine⟨fun i m τ A2=>m=items.length-i/\i<=items.length/\T τ/\∃B,Ext A B/\B l=none/\A2=updA B l (.lst (((List.range i).filter p).map f)),⟨_,rfl,Y2 _,h0,A,Ext.refl A,hl,rfl⟩,?_⟩;rintro i m τ A2 ⟨rfl,hi,ht,B,eB,hB,rfl⟩;have e2:Ext A (updA B l (.lst (((List.range i).filter p).map f))):=eB.trans (Ext.new hB);have j:=hJ i _ hi e2;by_cases hlt:i<items.length
 .have hu:items[i]? = some items[i]:=Yg hlt;rw[hu]at j;refine .inr ⟨_,j,hs i _ τ _ hu ht e2 _ _ (fun hp τ2 A3 ht2 e3=>⟨_,e3 _ _ Zc,?_,_,?_,rfl,hlt,ht2,rmv A3 l,Zcr (e2.trans e3) hl,ZdR,?_⟩) (fun hp τ2 A3 ht2 e3=>⟨_,?_,rfl,hlt,ht2,rmv A3 l,Zcr (e2.trans e3) hl,ZdR,?_⟩)⟩
  .have:(((List.range i).filter p).map f).length<=i:=by rw[Yc];exact YB (List.length_filter_le ..) (by simp)
   have:(100000:Nat)<sizeLine:=by decide
   lia
  .lia
  .rw[Zck,List.range_succ,Ybf,Yt];simp[hp]
  .lia
  .rw[Zck,List.range_succ,Ybf,Yt];simp only[hp,List.filter_cons,List.filter_nil,Y1,Yal,YaV,YN];exact((Zck (A:=A3)).symm.trans (ZiB (e3 _ _ Zc))).symm
 .have e:i=items.length:=by lia
  subst e;rw[Y3 (Yj _)]at j;exact .inl ⟨j,hd B eB hB⟩
def Zig(items:List U)(W:Nat->U->AHp->Prop)(T:ASt->Prop)(h0:T τ)(hl:A l=none)(hn:items.length<=100000)(hJ:∀k A2,k<=items.length->Ext A A2->J k A2 items[k]?)(hW:∀k v A1 B,(A1 l=none\/∃ys,A1 l=some (.lst ys))->(∀x o,x≠l->A1 x=some o->B x=some o)->W k v A1->W k v B)(hs:∀k u τ A2,items[k]? = some u->T τ->Ext A A2->∀Cy:ASt->U->AHp->Prop,(∀τ2 v A3,T τ2->Ext A2 A3->W k v A3->Cy τ2 v A3)->g u τ A2 fun τ2 A3=>te τ2 A3 (Cy τ2))(hd:∀B ys,Ext A B->B l=none->ys.length=items.length->(∀k y,ys[k]? = some y->W k y B)->Q (.ref l) (updA B l (.lst ys))):aCL J g ZfK te l Q τ (updA A l (.lst [])):=by
 refine⟨fun i m τ A2=>m=items.length-i/\i<=items.length/\T τ/\∃B ys,Ext A B/\B l=none/\ys.length=i/\(∀k y,ys[k]? = some y->W k y B)/\A2=updA B l (.lst ys),⟨_,rfl,Y2 _,h0,A,[],Ext.refl A,hl,rfl,fun k y h=>by simp at h,rfl⟩,?_⟩;rintro i m τ A2 ⟨rfl,hi,ht,B,ys,eB,hB,hy,hw,rfl⟩;have e2:Ext A (updA B l (.lst ys)):=eB.trans (Ext.new hB);have j:=hJ i _ hi e2;by_cases hlt:i<items.length
 .have hu:items[i]? = some items[i]:=Yg hlt;rw[hu]at j;refine .inr ⟨_,j,hs i _ τ _ hu ht e2 _ fun τ2 v A3 ht2 e3 w3=>⟨ys,e3 _ _ Zc,?_,items.length-(i+1),by lia,rfl,hlt,ht2,rmv A3 l,ys++[v],Zcr (e2.trans e3) hl,ZdR,by simp[hy],fun k y hk=>?_,Zck.symm⟩⟩
  .have:(100000:Nat)<sizeLine:=by decide
   lia
  .by_cases hk2:k<ys.length
   .rw[Y6 hk2]at hk;exact hW k y B _ (.inl hB) (fun x o hx q=>by rw[Zce hx];exact e3 _ _ (by rw[Zn hx];exact q)) (hw k y hk)
   .rw[YW (by lia)]at hk;obtain⟨h1,h2⟩:=Yh.mp hk;have hk3:k=i:=by simp at h1;lia
    subst hk3;simp only[hy,Ybg,List.getElem_cons_zero]at h2;subst h2;exact hW k v A3 _ (.inr ⟨ys,e3 _ _ Zc⟩) (fun x o hx q=>by rw[Zce hx];exact q) w3
 .have e:i=items.length:=by lia
  subst e;rw[Y3 (Yj _)]at j;exact .inl ⟨j,hd B ys eB hB hy hw⟩
def ZaH:∀ {kus:List (Str×U)},k∉kus.map (·.1)->Zct k u kus=kus++[(k,u)]
 | [],_=>rfl
 | (a,b)::r,h=>by
  rw[Yq,Yn,not_or]at h
  show(if a=k then(a,u)::r else(a,b)::Zct k u r)=_
  rw[if_neg (Ne.symm h.1),ZaH h.2]
  rfl
theorem ZaP{α β:Type}:∀ {xs:List α} {ys:List β},xs.length=ys.length->(xs.zip ys).map (·.1)=xs
 | [],[],_=>rfl
 | x::xs,y::ys,h=>by rw[List.zip_cons_cons,Yq,ZaP (by simpa using h)]
def Zfe(items:List U)(keys:List Str)(hk:keys.length=items.length)(nd:keys.Nodup)(W:Nat->U->AHp->Prop)(T:ASt->Prop)(h0:T τ)(hl:A l=none)(hn:items.length<=1000)(hJ:∀k A2,k<=items.length->Ext A A2->J k A2 items[k]?)(hW:∀k v A1 B,(A1 l=none\/∃ep kus,A1 l=some (dS P w ep kus))->(∀x o,x≠l->A1 x=some o->B x=some o)->W k v A1->W k v B)(hs:∀k u z τ A2,items[k]? = some u->keys[k]? = some z->T τ->Ext A A2->∀Cy:ASt->U->U->AHp->Prop,(∀τ2 v A3,T τ2->Ext A2 A3->W k v A3->Cy τ2 (.str z) v A3)->g u τ A2 fun τ2 A3=>tk τ2 A3 fun y A4=>tv τ2 A4 (Cy τ2 y))(hd:∀B vs ep,Ext A B->B l=none->vs.length=items.length->(∀k y,vs[k]? = some y->W k y B)->Q (.ref l) (updA B l (dS P w ep (keys.zip vs)))):Zsu P w J g ZfK tk tv l Q τ (updA A l (dS P w 0 [])):=by
 refine Zp8 items T h0 (fun i A2=>∃B vs ep,Ext A B/\B l=none/\vs.length=i/\(∀k y,vs[k]? = some y->W k y B)/\A2=updA B l (dS P w ep ((keys.take i).zip vs))) ⟨A,[],0,Ext.refl A,hl,rfl,fun k y h=>by simp at h,rfl⟩ (fun k A2 h1 ⟨B,vs,ep,eB,hB,_,_,e⟩=>hJ k A2 h1 (by rw[e];exact eB.trans (Ext.new hB))) ?_ ?_
 .rintro i u τ A2 hu ht ⟨B,vs,ep,eB,hB,hv,hw,rfl⟩ Cy hC;have hi:i<keys.length:=by rw[hk];exact(Yh.mp hu).1
  have hz:keys[i]? = some keys[i]:=Yg hi;have e2:Ext A (updA B l (dS P w ep ((keys.take i).zip vs))):=eB.trans (Ext.new hB);have hlen:(keys.take i).length=vs.length:=by rw[YL];lia
  refine hs i u keys[i] τ _ hu hz ht e2 _ fun τ2 v A3 ht2 e3 w3=>hC τ2 _ v A3 ep _ ht2 (e3 _ _ Zc) ?_ fun ep'=>⟨rmv A3 l,vs++[v],ep',Zcr (e2.trans e3) hl,ZdR,by simp[hv],fun k y hk=>?_,?_⟩
  .rw[List.length_zip,hlen,Nat.min_self,hv,Y8];lia
  .by_cases hk2:k<vs.length
   .rw[Y6 hk2]at hk;exact hW k y B _ (.inl hB) (fun x o hx q=>by rw[Zce hx];exact e3 _ _ (by rw[Zn hx];exact q)) (hw k y hk)
   .rw[YW (by lia)]at hk;obtain⟨h1,h2⟩:=Yh.mp hk;have hk3:k=i:=by simp at h1;lia
    subst hk3;simp only[hv,Ybg,List.getElem_cons_zero]at h2;subst h2;exact hW k v A3 _ (.inr ⟨_,_,e3 _ _ Zc⟩) (fun x o hx q=>by rw[Zce hx];exact q) w3
  .rw[Zck,ZaH,List.take_succ_eq_append_getElem hi,List.zip_append hlen]
   .rfl
   .rw[ZaP hlen];intro hm;obtain⟨j,hj,e⟩:=Yam.mp hm;rw[YL]at hj;rw[List.getElem_take]at e;have:=Zad nd (i:=j) (j:=i) (Yg (by lia)) (by rw[hz,e]);lia
 .rintro A2 ⟨B,vs,ep,eB,hB,hv,hw,rfl⟩;rw[<- hk,YZ];exact hd B vs ep eB hB hv hw
end
def Zgm(hc:X.calm=true):Zaj X (.builtin "any") (fun xs H Q=>∃(p:Addr)(bs:List Bool),xs=[.ref p]/\SqL X.K H p (bs.map V.bl)/\Q (.bl (bs.any id)) H):=by
 intro pins s σ H xs us Q I r h;obtain⟨p,bs,rfl,hl,q⟩:=h;obtain⟨u,rfl,ru⟩:=r.one;cases ru;obtain⟨its,rv,pl,hz⟩:=I.list hl;have hlen:its.toArray.size=bs.length:=by have:=rv.length;simp at this;simp;lia
 refine call_any_walk (YaS pl.isList ?_);have hne:p≠s.heap.objs.size:=Yo (by obtain⟨o,n,e,_⟩:=pl;exact Ym e);refine⟨s.heap.objs.size,_,_,_,_,_,fun i=>bs.getD i false,rfl,YbB (show X.A.in1.handled=none from I.ok.hd hc) s.heap.objs.size p hne its.toArray,⟨⟨_,Yl _ rfl,rfl,rfl⟩,pl.isList.at fun o e=>Ye _ e⟩,fun i v s' Q' E' hv hQ'=>?_,fun h' tk hk=>?_⟩
 .have hv':its[i]? = some v:=by simpa using hv
  have hi:i<bs.length:=by rw[<- hlen];simpa using(Yh.mp hv').1
  obtain⟨u,hu,ru⟩:=rv.get (show(bs.map V.bl)[i]? = some (.bl bs[i]) by rw[Yi,Yg hi];rfl);rw[hv']at hu;cases hu;cases ru;dsimp only at hQ';rw[YX,Yg hi]at hQ';exact YaR hQ'
 .have e:(List.range its.toArray.size).any (fun i=>bs.getD i false)=bs.any id:=by
   rw[hlen,Ybc,List.any_eq_true,List.any_eq_true];constructor
   .rintro⟨i,hi,e⟩;rw[YX,Yg (YaJ.mp hi)]at e;exact⟨_,YaX _,e⟩
   .rintro⟨b,hb,e⟩;obtain⟨i,hi,rfl⟩:=Yam.mp hb;exact⟨i,YaJ.mpr hi,by rw[YX,Yg hi];exact e⟩
  rw[e];exact⟨.bl _,H,I.kept (t':=tk) fun b o e=>hk b o (by simp;exact Yo (Ym e)) (Ye _ e),rfl,q⟩
def ZvT:List U->AHp->AVK->Prop:=fun us A Q=>∃a bs,us=[.ref a]/\A a=some (.lst (List.map U.bl bs))/\Q (.bl (bs.any id)) A
def ZmJ{K:YFr}:AbL K (fun xs H Q=>∃(p:Addr)(bs:List Bool),xs=[.ref p]/\SqL K H p (bs.map V.bl)/\Q (.bl (bs.any id)) H) ZvT:=fun xs us A H Q' Q r g h k=>by
 obtain⟨a,bs,rfl,e,h⟩:=h
 obtain⟨v,rfl,r'⟩:=r.inv1
 cases r'
 obtain⟨vs,h1,r1⟩:=g.list e
 exact⟨_,bs,rfl,SqL.of (by rw[h1,r1.bls]),k _ _ _ _ (.refl H) g (.bl _) h⟩
def Zue{A:AHp}:ZvT [.ref a] A Q=∃bs,A a=some (.lst (List.map U.bl bs))/\Q (.bl (bs.any id)) A:=propext ⟨fun hq0=>by obtain⟨_,bs,e,h⟩:=hq0;cases e;exact⟨bs,h⟩,fun⟨bs,h⟩=>⟨a,bs,rfl,h⟩⟩
def Zka{t e:AS}{A:AHp}(k:Bool)(h1:∀B:Bool->AHp->Prop,(∀A',Ext A A'->B k A')->c ρ A B)(h2:∀A',Ext A A'->if k=true then t D ρ A' else e D ρ A'):Zmb c t e D ρ A:=h1 _ h2
def ZbW.of(hS:ZbW P w h a ks):∃n,h.SetOf (strKind P w) a (fun z=>decide (z∈ks)) n:=by
 obtain⟨o,es,ep,t,e1,e2,e3,e4,⟨l,e5,pl⟩,e6,e7,_⟩:=hS;exact⟨_,o,es,ep,t,e1,e2,e3,e4,fun z=>by rw[Ya2,<- pl.mem_iff,<- Zeb e5 z];rfl,e6,e7,rfl⟩
section
def ZpF(P:Program)(w:World):R2:=fun x y H Q=>∃z a ks,x=.str z/\y=.ref a/\H a=some (ZgG P w a ks)/\Q (.bl (!decide (z∈ks))) H
def Zrs:OpR X (compareOp .NotIn) (ZpF X.prog X.w):=by
 intro pins s σ H x y v u Q I rx ry h;obtain⟨z,a,ks,rfl,rfl,e,q⟩:=h;obtain⟨t,rfl⟩:=rx;cases ry;obtain⟨n,hS⟩:=ZbW.of (I.hok a _ e).1;exact wpAny_notInSet_of (strKind_is X.prog X.w z t) rfl hS ⟨.bl _,H,I.tok _,rfl,q⟩
end
def Zrm(P:Program)(w:World):AR2:=fun x y A Q=>∃z a ks,x=.str z/\y=.ref a/\A a=some (tS P w ks)/\Q (.bl (!decide (z∈ks))) A
def Zn9{K:YFr}:AbR K (ZpF P w) (Zrm P w):=fun x y u v A H Q' Q hu hw g h k=>by
 obtain⟨z,a,ks,rfl,rfl,e,q⟩:=h
 cases hu;cases hw
 exact⟨z,a,ks,rfl,rfl,g.set e,k _ _ _ _ (.refl H) g (.bl _) q⟩
def Zsn{A:AHp}:Zrm P w (.str z) (.ref a) A Q=∃ks,A a=some (tS P w ks)/\Q (.bl (!decide (z∈ks))) A:=propext ⟨fun hq0=>by obtain⟨_,_,ks,x,y,h⟩:=hq0;cases x;cases y;exact⟨ks,h⟩,fun⟨ks,h⟩=>⟨_,_,ks,rfl,rfl,h⟩⟩
def Zcj.isN{K:YFr}(h:Zcj K l rt)(hL:∀c∈l,Cls K c)(hi:i<9)(js:List Nat)(hj:∀j∈js,j<9)(hn:l.length=9:=by rfl):Zsz K (csL l i) (js.map (csL l)) (js.any (i==·)):=by
 rw[<- hn]at hi;refine⟨hL _ (ZbT hi),ZgU h.fi (ZbT hi),h.sp,h.tk,ZgU h.mr (ZbT hi),?_⟩;induction js with
 | nil=>rfl
 | cons j js ih =>
  have ih:=ih fun k hk=>hj k (.tail _ hk);simp only[Yq,kitAny,h.kit hi (by rw[hn];exact hj j (.head _)),List.any_cons];cases(i==j)
  .exact ih
  .rfl
def Zcj.no{K:YFr}(h:Zcj K l rt)(hL:∀c∈l,Cls K c)(hi:i<9)(hj:j<9)(n:i≠j)(hn:l.length=9:=by rfl):IsC K (csL l i) (csL l j) false:=by
 have:=h.isC hL hi hj hn;rwa [Yv.mpr n]at this
def Zcj.yes{K:YFr}(h:Zcj K l rt)(hL:∀c∈l,Cls K c)(hi:i<9)(hj:j<9)(n:i=j)(hn:l.length=9:=by rfl):IsC K (csL l i) (csL l j) true:=by
 have:=h.isC hL hi hj hn;rwa [beq_iff_eq.mpr n]at this
def Zbk{α:Type}{a b c d:α}:[a,b,c,d].length<=sizeLine:=by show 4<=sizeLine;decide
def oU:On->U
 | none=>.non
 | some n=>.int n
def Zri:∀ {x y:On},oU x=oU y->x=y
 | none,none,_=>rfl
 | none,some b,h=>nomatch h
 | some a,none,h=>nomatch h
 | some a,some b,h=>by injection h with h;rw[Int.ofNat.inj h]
def Zui(x:On):flU (oU x):=by cases x with|none=>exact .inl rfl|some n=>exact .inr ⟨_,rfl⟩
def Zfa(ns:List Str)(e:Str->On):List (Str×U):=ns.map fun z=>(z,oU (e z))
theorem ZgR{α:Type}(f:Str->α):∀ {ns:List Str},z∈ns->(ns.map fun z=>(z,f z)).lookup z=some (f z)
 | a :: ns,h=>by
  by_cases e:z=a
  .rw[e,Yq,List.lookup_cons_self]
  .rw[Yq,List.lookup_cons,Yv.mpr e]
   exact ZgR f ((Yn.mp h).resolve_left e)
def ZeP(h:z∈ns):(Zfa ns e).lookup z=some (oU (e z)):=ZgR (fun z=>oU (e z)) h
theorem Zbi{α:Type}:∀ {kus:List (Str×α)},z∉kus.map (·.1)->kus.lookup z=none
 | [],_=>rfl
 | (a,b)::r,h=>by
  rw[Yq,Yn,not_or]at h
  rw[List.lookup_cons,Yv.mpr h.1]
  exact Zbi h.2
def ZnA:Zfa ns e=Zfa ns f↔∀z∈ns,e z=f z:=by
 unfold Zfa;rw[List.map_inj_left];exact⟨fun h z hz=>Zri (Prod.mk.inj (h z hz)).2,fun h z hz=>by rw[h z hz]⟩
def ZgV:(Zfa ns e).map (·.1)=ns:=by
 unfold Zfa;rw[Yai];exact List.map_id ns
def ZhR:∀p∈Zfa ns e,flU p.2:=fun p hp=>by
 obtain⟨z,_,rfl⟩:=YQ.mp hp
 exact Zui _
def Rl.kid_nms{r x:Rl}(h:x∈r.kids)(hz:z∈x.nms):z∈r.nms:=by
 cases r with
 | nothing=>cases h
 | bead c=>cases h
 | named c=>cases h
 | or a b =>
  rcases Yn.mp h with rfl|h
  .exact Y7 _ hz
  .rw[Yp.mp h]at hz;exact Yx _ hz
 | by_ a b =>
  rcases Yn.mp h with rfl|h
  .exact Y7 _ hz
  .rw[Yp.mp h]at hz;exact Yx _ hz
 | hold k a=>rw[Yp.mp h]at hz;exact hz
def Rl.hp(e:Str->On):Rl->Bool
 | .or x y=>x.hp e||y.hp e
 | .by_ x y=>x.hp e||y.hp e
 | .hold _ x=>decide (x.lst e=some 0)||x.hp e
 | _=>false
def Rl.lean(e:Str->On):Rl->List Str
 | .named z=>[z]
 | .or x y=>x.lean e++y.lean e
 | .by_ x y=>(if y.lst e=some 0 then x.lean e else[])++(if x.lst e=some 0 then y.lean e else[])
 | .hold _ x=>x.lean e
 | _=>[]
def Rl.lean_nms:∀ {r:Rl},z∈r.lean e->z∈r.nms:=by
 intro r;induction r with
 | nothing=>exact id
 | bead c=>exact id
 | named c=>exact id
 | or x y i j=>exact fun h=>(Yz.mp h).elim (fun h=>Y7 _ (i h)) fun h=>Yx _ (j h)
 | by_ x y i j =>
  intro h;refine(Yz.mp h).elim (fun h=>?_) fun h=>?_
  .split at h
   .exact Y7 _ (i h)
   .cases h
  .split at h
   .exact Yx _ (j h)
   .cases h
 | hold k x i=>exact i
def Rl.lean_len:∀r:Rl,(r.lean e).length<=r.size:=by
 intro r;induction r with
 | nothing=>exact Y2 _
 | bead c=>exact Y2 _
 | named c=>exact Yj _
 | or x y i j=>simp only[Rl.lean,Rl.size,Ys];lia
 | by_ x y i j =>
  simp only[Rl.lean,Rl.size,Ys];have h1:(if y.lst e=some 0 then x.lean e else[]).length<=(x.lean e).length:=by split<;>simp
  have h2:(if x.lst e=some 0 then y.lean e else[]).length<=(y.lean e).length:=by split<;>simp
  lia
 | hold k x i=>simp only[Rl.lean,Rl.size];lia
def Rl.kids_len(r:Rl):r.kids.length<=2:=by cases r<;>simp[Rl.kids]
def Zer{α β:Type}(f:α->β)(xs:List α)(d:α):(List.range xs.length).map (fun k=>f (xs[k]?.getD d))=xs.map f:=by
 apply Ych;intro k;rw[Yi,Yi];by_cases h:k<xs.length
 .rw[Ybp h,Yg h];simp[Yg h]
 .rw[Y3 (by simpa using h),Y3 (by simpa using h)];rfl
def fN:On->Bool:=fun x=>x.isSome
def Zn8:∀x y:On,∃ns:List Int,((List.range 2).filter fun k=>fN (([x,y][k]?).getD none)).map (fun k=>oU (([x,y][k]?).getD none))=ns.map U.int/\(ns=[]->oU (ZiE x y)=.non)/\∀m,m∈ns->(∀z∈ns,m<=z)->oU (ZiE x y)=.int m
 | none,none=>⟨[],rfl,fun _=>rfl,fun m h=>by cases h⟩
 | some a,none=>⟨[(a:Int)],rfl,(fun h=>by cases h),fun m h _=>by rw[Yp.mp h];rfl⟩
 | none,some a=>⟨[(a:Int)],rfl,(fun h=>by cases h),fun m h _=>by rw[Yp.mp h];rfl⟩
 | some a,some b=>by
  refine⟨[(a:Int),(b:Int)],rfl,(fun h=>by cases h),fun m h hm=>?_⟩
  have h1:=hm a (.head _)
  have h2:=hm b (.tail _ (.head _))
  show U.int ((min a b:Nat):Int)=_
  rcases Yn.mp h with rfl|h
  .rw[YaO (by lia)]
  .rw[Yp.mp h]at h1 ⊢
   rw[Nat.min_eq_right (by lia)]
def Zgh{A:AHp}{Q:AVK}(hl:A l=none)(hJ:∀k A2,k<=2->Ext A A2->J k A2 [oU x,oU y][k]?)(q:∀B,Ext A B->Q (oU (ZiE x y)) B):
  aCL J (Zdr 0) (aB (aOp Zod (ZmQ 0) (aC U.non))) (ZmQ 0) l (fun v A1=>∃p ns,v=.ref p/\A1 p=some (.lst (List.map U.int ns))/\(ns=[]->Q .non A1)/\∀m,m∈ns->(∀x∈ns,m<=x)->Q (.int m) A1) [none] (updA A l (.lst [])):=by
 obtain⟨ns,h1,h2,h3⟩:=Zn8 x y;refine ZmO [oU x,oU y] (fun k=>fN (([x,y][k]?).getD none)) (fun k=>oU (([x,y][k]?).getD none)) hl (show 2<=100000 by decide) hJ ?_ ⟨l,ns,rfl,by rw[Zc];exact congrArg (fun z=>some (AO.lst z)) h1,fun h=>h2 h▸q _ (Ext.new hl),fun m h4 h5=>h3 m h4 h5▸q _ (Ext.new hl)⟩;intro k u A2 hu e2 Cy Cn hy hn;obtain⟨v,hv,rfl⟩:∃v,[x,y][k]? = some v/\u=oU v:=by
  rcases k with _|_|k
  .exact⟨x,rfl,(YE hu).symm⟩
  .exact⟨y,rfl,(YE hu).symm⟩
  .cases hu
 rw[hv]at hy hn;refine⟨rfl,!(oU v).isNon,rfl,?_⟩;cases v with
 | none=>exact ZhM (by decide) (hn rfl)
 | some n=>exact Zfr rfl (hy rfl)
def Zl5(vs:List On):On:=vs.foldr Zo9 (some 0)
def Zf0:∀ {vs:List On},vs.any (·.isNone)=true->Zl5 vs=none
 | none::vs,_=>rfl
 | some a::vs,h=>by
  show Zo9 (some a) (Zl5 vs)=none
  rw[Zf0 (vs:=vs) h];rfl
def ZgE:∀ {vs:List On},vs.any (·.isNone)=false->∃ns:List Int,vs.map oU=ns.map U.int/\oU (Zl5 vs)=.int ns.sum
 | [],_=>⟨[],rfl,rfl⟩
 | none::vs,h=>nomatch h
 | some a::vs,h=>by
  obtain⟨ns,h1,h2⟩:=ZgE (vs:=vs) h
  refine⟨(a:Int)::ns,by rw[Yq,Yq,h1];rfl,?_⟩
  show oU (Zo9 (some a) (Zl5 vs))=_
  cases e:Zl5 vs with
  | none=>rw[e]at h2;cases h2
  | some b =>
   rw[e]at h2
   injection h2 with h2
   show U.int ((a+b:Nat):Int)=_
   rw[List.sum_cons,<- h2];rfl
def oD:On->PyData
 | none=>.none
 | some n=>.int n
def Zo2{A:AHp}{vs:List On}(h:A l=some (.lst (vs.map oU)))(q:Q (.bl (vs.any (·.isNone))) A):Zs6 false .non (.ref l) A Q:=by
 have h1:∀vs:List On,DUs A (vs.map oU) (vs.map oD)/\(∀e∈vs.map oD,e.canLay0=true/\e.depth<=190)/\((vs.map oD).any fun e=>PyData.eqv e .none)=vs.any (·.isNone):=fun vs=>by
  induction vs with
  | nil=>exact⟨.nil,by simp,rfl⟩
  | cons v vs ih =>
   obtain⟨i1,i2,i3⟩:=ih;cases v with
   | none=>exact⟨.cons .non i1,by rw[Yq];exact List.forall_mem_cons.mpr ⟨⟨rfl,by decide⟩,i2⟩,by rw[Yq,List.any_cons,List.any_cons,i3];rfl⟩
   | some n=>exact⟨.cons (.int _) i1,by rw[Yq];exact List.forall_mem_cons.mpr ⟨⟨rfl,by simp[PyData.depth,oD]⟩,i2⟩,by rw[Yq,List.any_cons,List.any_cons,i3];rfl⟩
 obtain⟨g1,g2,g3⟩:=h1 vs;refine⟨_,_,_,h,g1,.non,g2,rfl,?_⟩;rw[if_neg (by decide),g3];exact q
def Rl.hp1(e:Str->On):Rl->Bool
 | .hold _ x=>decide (x.lst e=some 0)
 | _=>false
def Rl.hp_kids(e:Str->On)(r:Rl):r.hp e=(r.hp1 e||(r.kids.map fun x=>x.hp e).any id):=by
 cases r<;>simp[Rl.hp,Rl.hp1,Rl.kids]
def ZvQ:R2:=fun x y H Q=>∃i,y=.int i/\(x=.non/\Q (.bl false) H\/∃j,x=.int j/\Q (.bl (decide (j=i))) H)
def Zh0:OpR X (compareOp .Eq) ZvQ:=by
 intro pins s σ H x y v u Q I rx ry h;obtain⟨i,rfl,h⟩:=h;rcases h with⟨rfl,q⟩|⟨j,rfl,q⟩
 .cases rx;obtain⟨t,rfl⟩:=ry;exact PySem.EqNone.eq_none_int (ZS I q rfl)
 .exact ZvM pins s σ H (.int j) (.int i) v u Q I rx ry q
def Zvc:AR2:=fun u w A Q=>∃(v:On)(n:Nat),u=oU v/\w=.int n/\Q (.bl (decide (v=some n))) A
def ZeV{K:YFr}:AbR K ZvQ Zvc:=fun x y u w A H Q' Q hu hw g h k=>by
 obtain⟨v,n,rfl,rfl,q⟩:=h
 cases hw
 cases v with
 | none=>cases hu;exact⟨_,rfl,.inl ⟨rfl,k _ _ _ _ (.refl H) g (.bl _) q⟩⟩
 | some m =>
  cases hu
  refine⟨_,rfl,.inr ⟨_,rfl,k _ _ _ _ (.refl H) g (.bl _) ?_⟩⟩
  have e:decide ((m:Int)=(n:Int))=decide (some m=some n):=decide_eq_decide.mpr ⟨fun h=>by rw[Int.ofNat.inj h],fun h=>by rw[YE h]⟩
  rw[e]
  exact q
def eq0{A:AHp}(q:Q (.bl (decide (v=some 0))) A):Zvc (oU v) (.int 0) A Q:=⟨v,0,rfl,rfl,q⟩
open PySem PySem.W
def ZoE{A:AHp}(items:List U)(Pv:Nat->List U->AHp->Prop)(h0:Pv 0 [] A)(hn:items.length<=100000)(hl:∀k ys A2,Pv k ys A2->ys.length<=k)(hJ:∀k ys A2,k<=items.length->Pv k ys A2->J k A2 items[k]?)(hs:∀k u ys A2,items[k]? = some u->Pv k ys A2->∀(Cy:AVK)(Cn:AHp->Prop),(∀y A3,A3 l=some (.lst ys)->Pv (k+1) (ys++[y]) (updA A3 l (.lst (ys++[y])))->Cy y A3)->(∀A3,Pv (k+1) ys A3->Cn A3)->tt (some u::fr) A2 fun ok A3=>if ok=true then te (some u::fr) A3 Cy else Cn A3)(hd:∀ys A2,Pv items.length ys A2->Q (.ref l) A2):aCL J (Zdr 0) tt te l Q (x0::fr) A:=by
 refine⟨fun i m τ A2=>m=items.length-i/\i<=items.length/\(∃x,τ=x::fr)/\∃ys,Pv i ys A2,⟨_,rfl,Y2 _,⟨_,rfl⟩,_,h0⟩,?_⟩;rintro i m τ A2 ⟨rfl,hi,⟨x,rfl⟩,ys,hp⟩;have j:=hJ i ys A2 hi hp;by_cases hlt:i<items.length
 .have hu:items[i]? = some items[i]:=Yg hlt;rw[hu]at j;refine .inr ⟨_,j,?_⟩;rw[Zpm];exact hs i _ ys A2 hu hp _ _ (fun y A3 h1 h2=>⟨ys,h1,Z2 (by have:=hl i ys A2 hp;lia),items.length-(i+1),by lia,rfl,hlt,⟨_,rfl⟩,_,h2⟩) fun A3 h2=>⟨items.length-(i+1),by lia,rfl,hlt,⟨_,rfl⟩,_,h2⟩
 .have e:i=items.length:=by lia
  subst e;rw[Y3 (Yj _)]at j;exact .inl ⟨j,hd ys A2 hp⟩
open PySem PySem.W PySem.Spec PyProof.Rows
structure TX0 (HK:Params->YFr) (P:Program) (w:World) (K:YFr) (mg:Str->Option Value) (base:Heap):Prop where
 eK:K=HK w.params
 ns:∃h:Heap,K.In h/\h.Ns mainGlobals mg
def hFd(st:Stmt)(x q:Str)(pm:Value)(c:Nat):FuncData:=fnOf x q (Zee st) (ZaQ st) (ZN st) .none .none .none pm none (.ref c) .none
def hF(f t ln ac fl m:Nat)(b:Bool)(st:Stmt)(x q:Str)(pm:Value):List (Addr×Obj) :=
 [(f-1,bif b then ZqC x q t ln ac fl (f-6) (f-5) (some (f-4)) (some (f-3)) (f-2) m (m+1)else ZqC x q t ln ac fl (f-4) (f-3) none none (f-2) m (m+1)),(f,⟨.type "function",none,.func (hFd st x q pm (f-1)),#[]⟩)]
def hCl(a:Nat)(x:Str)(mro subs:List Value)(d:Option Value)(t:Nat)(b:String):Addr×Obj :=
 (a,Obj.mk (.type "type") none (.cls (ClassData.mk x (mro.take 1) (.ref a::mro) (a-1) x true [] subs false none false)) #[d,none,some (.str x t),some (.str x (t+8)),some (.builtin b),some (.bool true)])
structure FR (P:Program) (w:World) (K:YFr) (mg:Str->Option Value) (base:Heap) (fa:Addr) (d:FuncData) (st:Stmt) (x q:Str) (ps N:List Str):Prop where
 f : Fun K x q st fa d
 b : Zb7 K d ps []
 s : Zao N ps (ZN st)
structure FM (P:Program) (w:World) (K:YFr) (mg:Str->Option Value) (base:Heap) (fa:Addr) (d:FuncData) (st:Stmt) (x q:Str) (ps N:List Str):Prop extends FR P w K mg base fa d st x q ps N where
 m : mg x=some (.ref fa)
def Zuv{α:Type}{P:List α->Prop}(h:∀a b c d e,P [a,b,c,d,e]):∀us:List α,us.length=5->P us:=fun us e=>by
 cases us with
 | nil=>simp at e
 | cons a us=>exact ZsV (P:=fun us=>P (a::us)) (h a) us (by simpa using e)
def Zvh{α:Type}{P:List α->Prop}(h:∀a b c d e f,P [a,b,c,d,e,f]):∀us:List α,us.length=6->P us:=fun us e=>by
 cases us with
 | nil=>simp at e
 | cons a us=>exact Zuv (P:=fun us=>P (a::us)) (h a) us (by simpa using e)
section
variable{K:YFr}
def TX0.mp(T:TX0 HK P w K mg base){φ:YFr->Prop}(h:∀p,φ (HK p)):φ K:=T.eK▸h _
def TX0.g(T:TX0 HK P w K mg base)(n:Str)(v:Value)(h:∀p,nsIn (HK p) mainGlobals n=some (some v):=by intro;kernel_rfl):mg n=some v:=by
 obtain⟨_,X,G⟩:=T.ns;exact mg_of X G (T.mp (φ:=fun K=>nsIn K mainGlobals n=_) h)
def TX0.no(T:TX0 HK P w K mg base)(n:Str)(h:∀p,nsIn (HK p) mainGlobals n=some none:=by intro;kernel_rfl):mg n=none:=by
 obtain⟨_,X,G⟩:=T.ns;exact mg_none_of X G (T.mp (φ:=fun K=>nsIn K mainGlobals n=_) h)
def TX0.fr(T:TX0 HK P w K mg base)(f:Addr)(st:Stmt)(x q:Str)(pm:Value)(ps N:List Str)(h:∀p,((HK p).lookup f,codeIn (HK p) (.ref (f-1)) q,keepIn (HK p) (.ref f))=(some ⟨.type "function",none,.func (hFd st x q pm (f-1)),#[]⟩,true,true):=by intro;kernel_rfl)(hb:∀us:List Value,us.length=ps.length->bindArgs (hFd st x q pm (f-1)) ⟨us,[]⟩=pure (ps.zip us):=by first|(refine Zub ?_;intros;rfl)|(refine ZsS ?_;intros;rfl)|(refine Zt3 ?_;intros;rfl)|(refine ZsV ?_;intros;rfl)|(refine Zuv ?_;intros;rfl)|(refine Zvh ?_;intros;rfl)|(refine ZsJ ?_;rfl))(s:Zao N ps (ZN st):=by exact⟨rfl,rfl,rfl,by decide +kernel,rfl,by decide +kernel,by decide +kernel⟩):FR P w K mg base f (hFd st x q pm (f-1)) st x q ps N:=by
 have e:=T.mp (φ:=fun K=>(K.lookup f,codeIn K (.ref (f-1)) q,keepIn K (.ref f))=_) h;rw[Prod.mk.injEq,Prod.mk.injEq]at e;exact⟨ZpY e.1 e.2.1 e.2.2,.all hb,s⟩
def TX0.fm(T:TX0 HK P w K mg base)(f:Addr)(st:Stmt)(x:Str)(pm:Value)(ps N:List Str)(h:∀p,((HK p).lookup f,codeIn (HK p) (.ref (f-1)) x,keepIn (HK p) (.ref f))=(some ⟨.type "function",none,.func (hFd st x x pm (f-1)),#[]⟩,true,true):=by intro;kernel_rfl)(hm:∀p,nsIn (HK p) mainGlobals x=some (some (.ref f)):=by intro;kernel_rfl)(hb:∀us:List Value,us.length=ps.length->bindArgs (hFd st x x pm (f-1)) ⟨us,[]⟩=pure (ps.zip us):=by first|(refine Zub ?_;intros;rfl)|(refine ZsS ?_;intros;rfl)|(refine Zt3 ?_;intros;rfl)|(refine ZsV ?_;intros;rfl)|(refine Zuv ?_;intros;rfl)|(refine Zvh ?_;intros;rfl)|(refine ZsJ ?_;rfl))(s:Zao N ps (ZN st):=by exact⟨rfl,rfl,rfl,by decide +kernel,rfl,by decide +kernel,by decide +kernel⟩):FM P w K mg base f (hFd st x x pm (f-1)) st x x ps N:=⟨T.fr f st x x pm ps N h hb s,T.g x _ hm⟩
def TX0.na(T:TX0 HK P w K mg base)(C:Addr)(x:Str)(h:∀p,findIn (HK p) (.ref C) x=some none:=by intro;kernel_rfl):ZaE K C x:=T.mp (φ:=fun K=>ZaE K C x) h
def TX0.me(T:TX0 HK P w K mg base)(C:Addr)(x:Str)(f:Addr)(h:∀p,(findIn (HK p) (.ref C) x,isFn (HK p) (.ref f),keepIn (HK p) (.ref f))=(some (some (.ref f)),true,true):=by intro;kernel_rfl):Zpb K C x f:=by
 have e:=T.mp (φ:=fun K=>(findIn K (.ref C) x,isFn K (.ref f),keepIn K (.ref f))=_) h;rw[Prod.mk.injEq,Prod.mk.injEq]at e;exact⟨e.1,e.2.1,e.2.2⟩
def TX0.cl(T:TX0 HK P w K mg base)(C:Addr)(h:∀p,(plainGet (HK p) C Str.empty,hasDictIn (HK p) C,plainOver (HK p) C,findIn (HK p) (.ref C) "__setattr__")=(true,true,true,some (some (.builtin "object.__setattr__"))):=by intro;kernel_rfl):Cls K C:=by
 have e:=T.mp (φ:=fun K=>(plainGet K C Str.empty,hasDictIn K C,plainOver K C,findIn K (.ref C) "__setattr__")=_) h;rw[Prod.mk.injEq,Prod.mk.injEq,Prod.mk.injEq]at e;exact⟨e.1,e.2.1,e.2.2.1,e.2.2.2⟩
def TX0.mk'(T:TX0 HK P w K mg base)(C f:Addr)(h:∀p,(makesIn (HK p) C,findIn (HK p) (.ref C) "__init__",isFn (HK p) (.ref f),keepIn (HK p) (.ref C))=(true,some (some (.ref f)),true,true):=by intro;kernel_rfl):Mk K C f:=by
 have e:=T.mp (φ:=fun K=>(makesIn K C,findIn K (.ref C) "__init__",isFn K (.ref f),keepIn K (.ref C))=_) h;rw[Prod.mk.injEq,Prod.mk.injEq,Prod.mk.injEq]at e;exact⟨e.1,e.2.1,e.2.2.1,e.2.2.2⟩
def TX0.mk0(T:TX0 HK P w K mg base)(C:Addr)(h:∀p,(makesIn (HK p) C,findIn (HK p) (.ref C) "__init__",keepIn (HK p) (.ref C))=(true,some (some (.builtin "object.__init__")),true):=by intro;kernel_rfl):Mk0 K C:=by
 have e:=T.mp (φ:=fun K=>(makesIn K C,findIn K (.ref C) "__init__",keepIn K (.ref C))=_) h;rw[Prod.mk.injEq,Prod.mk.injEq]at e;exact⟨e.1,e.2.1,e.2.2⟩
def TX0.kt(T:TX0 HK P w K mg base)(C:Addr)(v:Value)(b:Bool)(h:∀p,kitOne (HK p) (.ref C) v=some b:=by intro;kernel_rfl):kitOne K (.ref C) v=some b:=T.mp (φ:=fun K=>kitOne K (.ref C) v=some b) h
def TX0.xc(T:TX0 HK P w K mg base)(C f:Addr)(h:∀p,XCl (HK p) C f:=by exact fun _=>⟨by kernel_rfl,by kernel_rfl,by kernel_rfl,by kernel_rfl,by kernel_rfl,by kernel_rfl,by kernel_rfl,by kernel_rfl,by kernel_rfl,by kernel_rfl⟩):XCl K C f:=T.mp (φ:=fun K=>XCl K C f) h
def TX0.xb(T:TX0 HK P w K mg base)(C:Addr)(h:∀p,Zlw (HK p) C:=by exact fun _=>⟨by kernel_rfl,by kernel_rfl,by kernel_rfl⟩):Zlw K C:=T.mp (φ:=fun K=>Zlw K C) h
def TX0.xg(T:TX0 HK P w K mg base)(C:Addr)(h:∀p,ZkW (HK p) C:=by exact fun _=>⟨by kernel_rfl,by kernel_rfl,by kernel_rfl,by kernel_rfl,by kernel_rfl,by kernel_rfl,by kernel_rfl,by kernel_rfl⟩):ZkW K C:=T.mp (φ:=fun K=>ZkW K C) h
def TX0.ca(T:TX0 HK P w K mg base)(C D:Addr)(b:Bool)(h:∀p,ZaG (HK p) C D b:=by exact fun _=>⟨by kernel_rfl,by kernel_rfl,by kernel_rfl,by kernel_rfl,by kernel_rfl⟩):ZaG K C D b:=T.mp (φ:=fun K=>ZaG K C D b) h
def TX0.it(T:TX0 HK P w K mg base)(l:List Addr)(C:Addr)(h:∀p,Zcj (HK p) l C:=by exact fun _=>⟨by kernel_rfl,by kernel_rfl,by kernel_rfl,by kernel_rfl,by kernel_rfl,by kernel_rfl⟩):Zcj K l C:=T.mp (φ:=fun K=>Zcj K l C) h
variable{f:Addr}{st:Stmt}
abbrev FR.Ok(_:FR P w K mg base f d st x q ps N)(CX:CXT)(k:Nat)(sp:Sp):Prop:=ZbB P w K mg base CX k f d ps sp
def FR.okA(F:FR P w K mg base f d st x q ps N)(hs:ZN st=sc)(hb:ZaQ st=body)(hB : ∀ {cdv:Value} {A:Around} {outer:List Env} {s:Shared} {H:Hp} {E:XK},Zao N ps sc->Zbb k (A.deeper (envOfC q sc s.heap.objs.size f cdv)) ->
   ∃t,PSs (Zds CX0 P w K mg base N q sc f cdv A outer s H E).nox body t/\AbS K t as)(hS:∀us A Q,asp us A Q->us.length=ps.length/\as { nx:=fun _ A'=>Fg Q .non A',rt:=Fg Q } (aStart N us) A):ZbB P w K mg base CX0 (k+1) f d ps (Zar K asp) :=
 Fun.okA F.f hs hb F.s (fun S _ _ _ _ _ _ r=>hB S r) hS
def FR.okX{as:AXK->AS}(F:FR P w K mg base f d st x q ps N)(hs:ZN st=sc)(hb:ZaQ st=body)(hB : ∀ {cdv:Value} {A:Around} {outer:List Env} {s:Shared} {H:Hp} {E:XK} {X':AXK},Zao N ps sc->Zbb k (A.deeper (envOfC q sc s.heap.objs.size f cdv))->ZhO K H X' E ->
   ∃t,PSs ((Zds (CXX P w) P w K mg base N q sc f cdv A outer s H E).wish (XF (Zds (CXX P w) P w K mg base N q sc f cdv A outer s H E) E)) body t/\AbS K t (as X'))(hS:∀us A Q X',asp us A Q X'->us.length=ps.length/\as X' { nx:=fun _ A'=>Fg Q .non A',rt:=Fg Q } (aStart N us) A):ZbB P w K mg base (CXX P w) (k+1) f d ps (Zcm K asp) :=
 Fun.okX F.f hs hb F.s (fun S _ _ _ _ _ _ _ r e=>hB S r e) hS
end
section
variable{st:Stmt}{t:TA}{es:List Expr}{id ty:String}
def FM.pc(F:FM X.prog X.w X.K X.mg X.base fa fd st x q ps N)(G:ZbB X.prog X.w X.K X.mg X.base CX0 j fa fd ps sp)(hr:Zbb k X.A)(ha:PA X (e::es) t)(hjk:j<=k:=by first|decide|lia)(hg:Gl X x:=by rfl)(hdb:(x==("__debug__":Str))=false:=by decide)(he:starEach (e::es) X.env=(false,eval e X.env)::starEach es X.env:=by rfl)(hpl:(backTo pos (starEach es X.env)).any (·.1)=false:=by rfl):
  PE X (.Call (.Name x p) (e::es) [] pos) (ZoO sp [] E0 t):=ZoG (G.mono hjk) hr hg F.m F.f.kp F.b .nil Zbs ha hdb he hpl
def Zac(hc:Zaj X (.builtin id) r)(hm:X.mg x=none)(ha:PA X (e::es) t)(hg:Gl X x:=by rfl)(hv:bootBuiltins x=some (.builtin id):=by decide +kernel)(hn:x≠"__name__":=by decide)(hdb:(x==("__debug__":Str))=false:=by decide)(he:starEach (e::es) X.env=(false,eval e X.env)::starEach es X.env:=by rfl)(hpl:(backTo pos (starEach es X.env)).any (·.1)=false:=by rfl):PE X (.Call (.Name x p) (e::es) [] pos) (tCB r t):=Zks hc hg hm hv ha hn hdb he hpl
def ZdT(hc:Zaj X (.type ty) r)(hm:X.mg x=none)(ha:PA X (e::es) t)(hg:Gl X x:=by rfl)(hv:bootBuiltins x=some (.type ty):=by decide +kernel)(hn:x≠"__name__":=by decide)(hdb:(x==("__debug__":Str))=false:=by decide)(he:starEach (e::es) X.env=(false,eval e X.env)::starEach es X.env:=by rfl)(hpl:(backTo pos (starEach es X.env)).any (·.1)=false:=by rfl):PE X (.Call (.Name x p) (e::es) [] pos) (tCB r t):=Zie hc hg hm hv ha hn hdb he hpl
def MOk.mn{K:YFr}(F:MOk P w K mg base CX j m tbl)(h:j<=k:=by first|decide|lia):MOk P w K mg base CX k m tbl:=F.mono h
def ZbB.mn{K:YFr}(F:ZbB P w K mg base CX j fa fd ps sp)(h:j<=k:=by first|decide|lia):ZbB P w K mg base CX k fa fd ps sp:=F.mono h
end
section
def ZfX(hl:s.heap.IsList l (strValues tl).toArray)(h64:tl.length<64)(k:∀h' D (out:Array Value) (zs:List Str) n,s.heap.objs.size<=D->StrsAre out.toList zs->zs.Perm (tl.map (·.1))->sortedS zs=true->h'.get? D=some (seqObj "list" out n)->(∀b o,s.heap.get? b=some o->h'.get? b=some o)->Q (.ref D) { s with heap:=h' }):
  wpAny (model P w) A (call (.builtin "sorted") [.ref l]) Q E s:=by
 refine Calls.call_function_entry kind_sorted plain_sorted entry_sorted (args_sorted1 _) ?_;unfold Builtin.«sorted»;refine Yb (m:=checkCount "sorted" 1 1 _) (Yd ?_);have hS1:=Zbt tl;have hlen:(strValues tl).length<64:=by rw[strValues,Yc];exact h64
 refine Yb (collect_list hl (show _ from ?_) (by rw[Y8];lia));refine Yb (Yb1 (show _ from ?_) (by exact YB (YaT hlen) (by decide)));have s0:=Yac (s.heap.push (seqObj "list" #[] 0)) s.heap.objs.size (Obj.mapSeq (·++(strValues tl).toArray));have hk1:∀p o,s.heap.get? p=some o->((s.heap.push (seqObj "list" #[] 0)).update s.heap.objs.size (Obj.mapSeq (·++(strValues tl).toArray))).get? p=some o:=fun p o q =>
  (s0.2 p (Yo (Ym q))).trans (Ye _ q)
 have hsz:s.heap.objs.size<=((s.heap.push (seqObj "list" #[] 0)).update s.heap.objs.size (Obj.mapSeq (·++(strValues tl).toArray))).objs.size:=by
  rw[s0.1,size_push'];lia
 generalize(s.heap.push (seqObj "list" #[] 0)).update s.heap.objs.size (Obj.mapSeq (·++(strValues tl).toArray))=h1 at hk1 hsz ⊢;have hoL:(h1.push (seqObj "list" (strValues tl).toArray 0)).get? h1.objs.size=some (seqObj "list" (strValues tl).toArray 0):=Yl _ rfl;refine Yb (YT (YY slot_list_sort ⟨_,hoL,rfl⟩ entry_list_sort (list_sort_treeK strKind_oneLt hoL hS1.keysOf (fun v1 v2 r e=>keyKind_strs (by rw[<- e];exact hS1)) hlen fun st' a1 a2=>⟨_,rfl,?_⟩) (args_list_sort _)));obtain⟨zs,b1,b2,b3⟩:=sorted_out_str hS1 a1 a2;obtain⟨n,hn⟩:=sortedHeap_at (out:=(arrOf st').map (·.2)) hoL;refine Yd ⟨_,rfl,k _ h1.objs.size _ zs n hsz b1 b2 b3 hn (fun b o e=>?_)⟩;have e1:=hk1 b o e;have lt:=Ym e1;show(sortedHeap (h1.push (seqObj "list" (strValues tl).toArray 0)) h1.objs.size (strValues tl) _).get? b=some o;rw[sortedHeap_old (Yo lt) (by rw[size_push'];exact Y0 lt)];exact Ye _ e1
end
section
def ZlT:List V->Hp->VK->Prop:=fun xs H Q=>∃l ks,xs=[.ref l]/\H l=some (.lst (ks.map V.str))/\ks.length<64/\∀D zs,H D=none->zs.Perm ks->sortedS zs=true->Q (.ref D) (upd H D (.lst (zs.map V.str)))
def ZnO:Zaj X (.builtin "sorted") ZlT:=by
 intro pins s σ H xs us Q I r h;obtain⟨l,ks,rfl,hl,h64,q⟩:=h;obtain⟨u,rfl,ru⟩:=r.one;cases ru;obtain⟨hle,its,n,rv,hlen,e⟩:=I.lstM hl;rw[Yc]at hlen;obtain⟨tl,e1,e2⟩:=Zcc rv;subst e1;have hsz:tl.length=ks.length:=by rw[<- e2,Yc]
 refine ZfX (tl:=tl) ⟨_,e,rfl,n,rfl⟩ (by lia) fun h' D out zs n hD hv hp hs hd hk=>?_;rw[e2]at hp;exact⟨.ref D,upd H D (.lst (zs.map V.str)),I.laid (a:=D) (o:=.lst (zs.map V.str)) (h':=h') (t':=s.toks) hk hD ⟨by rw[Yc,hp.length_eq];exact YB (YaT h64) (by decide),out.toList,n,Zeo hv,by rw[Array.toArray_toList];exact hd⟩,rfl,q D zs (I.hok.fresh hD) hp hs⟩
end
section
variable{K:YFr}
def ZlJ:List U->AHp->AVK->Prop:=fun us A Q=>∃l ks,us=[.ref l]/\A l=some (.lst (List.map U.str ks))/\ks.length<64/\∀D zs,A D=none->zs.Perm ks->sortedS zs=true->Q (.ref D) (updA A D (.lst (zs.map U.str)))
def Zkh:AbL K ZlT ZlJ:=fun xs us A H Q' Q r g h k=>by
 obtain⟨l,ks,rfl,hl,hz,q⟩:=h
 obtain⟨v,rfl,rv⟩:=r.inv1
 cases rv
 obtain⟨vs,h1,r1⟩:=g.list hl
 exact⟨l,ks,rfl,by rw[h1,r1.strs],hz,fun D zs hD hp hs=>k _ _ _ _ (Zat.upd_new hD).kp (g.newL hD RUs.of_strs) (.ref D) (q D zs (g.none hD) hp hs)⟩
def ZnG{A:AHp}:ZlJ [.ref l] A Q=∃ks,A l=some (.lst (List.map U.str ks))/\ks.length<64/\∀D zs,A D=none->zs.Perm ks->sortedS zs=true->Q (.ref D) (updA A D (.lst (zs.map U.str))):=propext ⟨fun hq0=>by obtain⟨_,ks,e,h⟩:=hq0;cases e;exact⟨ks,h⟩,fun⟨ks,h⟩=>⟨l,ks,rfl,h⟩⟩
end
def Zfw(K:YFr)(C:Addr)(f:Str):Sp:=fun vs H Q _=>∃x p ys,vs=[.ref x,.ref p]/\H x=some (XO x C none)/\Sq K H p ys/\∀l,H l=none->∀dx,upd H l (.lst ys) dx=none->dx≠x->Q .non (upd (upd (upd H l (.lst ys)) dx (.xd [(f,.ref l)])) x (XO x C (some dx)))
def Zid(C:Addr)(f:Str)(X':AXK)(l:AA):AS:=fun _ ρ A=>l ρ A fun us A1=>∃p zs,us=[.ref p]/\A1 p=some (.lst zs)/\∀l',A1 l'=none->X' C [(f,.ref l')] (updA A1 l' (.lst zs))
section
variable{K:YFr}
def ZkV{st:Stmt}(X:XCl K C g)(n:ZaE K C fl)(hp:ps.length=2)(hN:N=ps)(h : ∀ cdv A outer s H E,Zbb 0 (A.deeper (envOfC qual sc s.heap.objs.size f cdv))->PSs (Zds CX0 P w K mg base N qual sc f cdv A outer s H E).nox (ZaQ st)
   (ZsA (ZkN (Zur K (ZdW (Zjh 0) (ZdW (tC (.str m)) ZkZ)))) (Zoa K (Zjh 0) (tCB (ZdY K) (ZdW (Zjh 1) ZkZ)) fl)))(Fn:Fun K x qual st f fd)(hs:ZN st=sc)(S:Zao N ps (ZN st)):
  ZbB P w K mg base CX0 1 f fd ps (Zfw K C fl):=by
 have hσ:∀a b:V,L2.start N [a,b]=[some a,some b]:=fun a b=>by
  unfold L2.start;rw[hN,hp];rfl
 refine Fn.ok2 hs rfl S (fun vs H Q E hq0=>by obtain⟨x,p,ys,e,_⟩:=hq0;rw[e,hp];rfl) fun _ cdv A outer s H vs Q E hr ⟨y,p,ys,e,hx,hq,q⟩=>⟨_,h cdv A outer s H E hr,?_⟩;subst e;rw[hσ];refine⟨_,rfl,⟨y,C,g,_,rfl,hx,X,⟨_,rfl,ys,hq,fun l hl=>⟨_,rfl,y,C,g,rfl,?_,X,n,fun dx hd hne=>q l hl dx hd hne⟩⟩⟩⟩;rw[Zr fun e=>by rw[e,hl]at hx;cases hx];exact hx
def Ziw{E:XK}{t:TA}(hE:ZhO K H0 X' E)(hl:AbA K t l):AbS K (Zji K H0 C (Zfw K C f) E t) (Zid C f X' l):=fun ρ A σ H D' D hs g h k=>by
 refine hl ρ A σ H _ _ hs g h fun us A1 vs H1 k1 g1 r1 ⟨p,zs,e,hp,hx⟩ k0 x hn=>?_
 subst e
 obtain⟨v,rfl,rv⟩:=r1.inv1
 cases rv
 obtain⟨ys,h1,r2⟩:=g1.list hp
 have hpx:p≠x:=fun e=>by rw[e,hn]at h1;cases h1
 refine⟨x,p,ys,rfl,Zv,.inl (SqL.of (by rw[Zr hpx];exact h1)),fun l hl dx hd hne=>⟨rfl,dx,Zv,?_⟩⟩
 have hlx:l≠x:=fun e=>by rw[e,Zv]at hl;cases hl
 rw[Zr hlx]at hl
 have hdl:dx≠l:=fun e=>by rw[e,Zv]at hd;cases hd
 rw[Zr hdl,Zr hne]at hd
 have e : rmH (upd (upd (upd (upd H1 x (XO x C none)) l (.lst ys)) dx (.xd [(f,.ref l)])) x (XO x C (some dx))) x=upd (upd H1 l (.lst ys)) dx (.xd [(f,.ref l)]):=by
  funext b;by_cases h1:b=x
  .rw[h1,Zb5,Zr hne.symm,Zr hlx.symm,hn]
  .rw[ZeI h1,Zr h1];by_cases h2:b=dx
   .rw[h2,Zv,Zv]
   .rw[Zr h2,Zr h2];by_cases h3:b=l
    .rw[h3,Zv,Zv]
    .rw[Zr h3,Zr h3,Zr h1]
 rw[e];have sl:=Zat.upd_new (o:=.lst ys) hl;have hd':upd H1 l (.lst ys) dx=none:=by rw[Zr hdl];exact hd
 have sm:=Zat.upd_new (o:=.xd [(f,.ref l)]) hd';have gl:=g1.newL hl r2;exact hE C dx [(f,.ref l)] [(f,.ref l)] (updA A1 l (.lst zs)) _ ((k0.trans sl.kp).trans sm.kp) (gl.grow sm) (gl.none hd') Zv ⟨rfl,.one (.ref l)⟩ (hx l (g1.none hl))
def Zlg{A:AHp}:Zid C f X' l D ρ A=l ρ A fun us A1=>∃p zs,us=[.ref p]/\A1 p=some (.lst zs)/\∀l',A1 l'=none->X' C [(f,.ref l')] (updA A1 l' (.lst zs)):=rfl
end
section
variable{t:Expr}{rest:List ExceptHandler}
def Zfx{n:Option Str}(h:wpAny (model P w) (A.mark (some (.ref e))) (eval t env) (fun c s1=>c=.ref D/\(∃ ob,s1.heap.get? e=some ob/\ob.cls=.ref C)/\Zlr (model P w) s1.heap C D false /\
   wpAny (model P w) A (handleBy (.ref e) env rest) Q E s1) (fun _ _=>False) s):
  wpAny (model P w) A (handleBy (.ref e) env (.ExceptHandler (some t) n (b0::su) pos::rest)) Q E s:=by
 refine wpAny_handleBy_cons (codeAny_handlers_test (YG h (fun c s1 q=>?_) fun _ _ x=>x.elim)) (by intro q;cases q);obtain⟨rfl,⟨ob,he,hc⟩,hx,hk⟩:=q;exact ZeY he hc hx hk
end
abbrev TH:=Zez->St->Hp->Addr->Addr->Prop
def thN:TH:=fun _ _ _ _ _=>False
def thC(K:YFr)(D:Addr)(j:Nat)(th:TS)(r:TH):TH:=fun Dn σ H' C dx=>ZaG K C D true/\(∀a,H' a=none->th (Dn.goes j) (σ.set j (some (.ref a))) (upd H' a (XT a C dx)))\/ZaG K C D false/\r Dn σ H' C dx
def Zsg(tb:TSX)(r:TH):TS:=fun Dn σ H=>tb Dn σ H fun c dxo H'=>∃C dx,c=.ref C/\dxo=some dx/\r Dn σ H' C dx
def PH(X:Cx)(hs:List ExceptHandler)(r:TH):Prop:=∀(pins:List (Addr×Obj))(σ:St)(Dn:Zez)(R:Value->Prop)(a:Addr)(s3:Shared),ZhK X pins σ (fun c dxo H'=>∃C dx,c=.ref C/\dxo=some dx/\r Dn σ H' C dx) False R a s3->wpAny (model X.prog X.w) X.A (handleBy (.ref a) X.env hs) (SP X pins Dn) X.xe s3
section
variable{x n:Str}{es:List Expr}{t:TA}
def ZpE:PH X [] thN:=by
 rintro pins σ Dn R a s3 ⟨H3,I3,C,dx,ob,vs,g1,g2,g3,g4,g5,g6,st,C',dx',ec,ed,q⟩;exact q.elim
def Zea(B:Bod X)(hN:X.N.Nodup)(hj:X.N[j]? = some n)(hk:X.env.kindOf n=some .local)(hg:Gl X x)(hm:X.mg x=some (.ref D))(hsu:∀a,PSs (X.mkd a) (b0::su) th)(hr:PH X hs r)(hdb:(x==("__debug__":Str))=false:=by decide):
  PH X (.ExceptHandler (some (.Name x px)) (some n) (b0::su) hp::hs) (thC X.K D j th r):=by
 intro pins σ Dn R a s3 f3;have f3':=f3;obtain⟨H3,I3,C,dx,ob,vs,g1,g2,g3,g4,g5,g6,st,C',dx',ec,ed,q⟩:=f3;cases ec;cases ed;rcases q with⟨hcc,q⟩|⟨hcc,q⟩
 .refine Ze4 (C:=C) (Za0 (X:=X.mkd a) I3.mkd hg hm ⟨rfl,⟨ob,g3,g4⟩,hcc.at I3.kIn,?_⟩ hdb);have f3'':ZhK X pins σ (fun c dxo H'=>∃C dx,c=.ref C/\dxo=some dx/\∀a,H' a=none->th (Dn.goes j) (σ.set j (some (.ref a))) (upd H' a (XT a C dx))) False R a s3:=⟨H3,I3,C,dx,ob,vs,g1,g2,g3,g4,g5,g6,st,C,dx,rfl,rfl,q⟩;refine Zcq B f3'' fun s4 f4=>?_;obtain⟨H4,I4,C4,dx4,ob4,vs4,n4,hn4,o4,c4,d4,w4,_,C'',dx'',ec',ed',q⟩:=f4;cases ec';cases ed';have I5:=I4.remember hn4 n4 o4 c4 d4 w4;exact ZcF (v:=.ref a) I5 hN hj (.inl hk) rfl (fun s5 I6=>YG (hsu a pins s5 _ _ (Dn.goes j) I6.mkd (q a hn4)) (fun f s' z=>(z.unmkd I3.ok).goes hN hj hk) fun _ _ z=>False.elim z) (.inr hk)
 .exact Zfx (C:=C) (Za0 (X:=X.mkd a) I3.mkd hg hm ⟨rfl,⟨ob,g3,g4⟩,hcc.at I3.kIn,hr pins σ Dn R a s3 ⟨H3,I3,C,dx,ob,vs,g1,g2,g3,g4,g5,g6,st,C,dx,rfl,rfl,q⟩⟩ hdb)
def ZoJ(B:Bod X)(hb:PSX X sts tb)(hh:PH X (h0::hs) r):PS X (.Try sts (h0::hs) [] [] pos) (Zsg tb r):=by
 intro pins s σ H Dn I h;refine wpAny_Try_except (YG (hb pins s σ H _ _ I h) (fun fl s1 q1=>?_) fun ev s1 hx=>?_)
 .cases fl with
  | next=>exact YaM q1
  | brk=>exact q1
  | cont=>exact q1
  | ret u=>exact q1
 .obtain⟨H1,s0,I0,a,H',rfl,hos,hg',u,hok,f⟩:=hx;have I1:=I0.call' (ch:=[]) hos u hok hg' fun b hb=>absurd hb (by simp);have f1:ZhK X pins σ _ False (Zpf X) a s1:=⟨H',I1,f.weak (fun b hb=>I0.newA hb) (fun z=>z) fun v hv=>.inl hv⟩;exact ZcK B f1 fun s2 f2=>Zcq B f2 fun s3 f3=>hh pins σ Dn _ a s3 f3
def ZmI(C:Addr)(sp:Sp)(t:TA):TX:=fun σ H Q E=>t σ H fun vs H1=>∀x dx,H1 x=none->H1 dx=none->dx≠x->sp (.ref x::vs) (upd (upd H1 dx (.own x)) x (.ins C dx [])) (fun v H2=>v=.non/\Q (.ref x) H2) E
def ZfZ(M:Mk X.K C f)(F:ZbB X.prog X.w X.K X.mg X.base (CXX X.prog X.w) k f fd ps sp)(hr:Zbb (k+1) X.A)(hg:Gl X x)(hm:X.mg x=some (.ref C))(hb:Zb7 X.K fd ps [])(ha:PA X.nox (e::es) t)(hdb:(x==("__debug__":Str))=false:=by decide)(he:starEach (e::es) X.env=(false,eval e X.env)::starEach es X.env:=by rfl)(hpl:(backTo pos (starEach es X.env)).any (·.1)=false:=by rfl):
  PEX X (.Call (.Name x p) (e::es) [] pos) (ZmI C sp t):=by
 intro pins s σ H Q E I h;refine Yah (Za0 I hg hm (Yaz (h₀:=X.base) I.ok.mod.kin M.kp (YG (ha pos pins s σ H _ (I.wish _) h) (fun us s1 ⟨vs,H1,I1,r,q⟩=>⟨I1.kIn,?_⟩) fun _ _ z=>False.elim z) he hpl) hdb);have I1:=I1.unwish;have hq:=q (s1.heap.objs.size+1) s1.heap.objs.size (I1.hok.fresh (Yaf _)) (I1.hok.fresh (Yj _)) (Yo (Yaj _));have I2:=Inv.made (C:=C) I1;have r2:Z6 (V.ref (s1.heap.objs.size+1)::vs) (Value.ref (s1.heap.objs.size+1)::us):=.cons rfl r;have hl:(Value.ref (s1.heap.objs.size+1)::us).length=ps.length:=by
  have e:=r2.length;rw[F.len _ _ _ _ hq]at e;exact e.symm
 refine YaD (ZgC (f:=f) I1.kIn M.makes M.init (beq_iff_eq.mp M.fn) (Yat (F.run _ X.stack _ _ ⟨Value.ref (s1.heap.objs.size+1)::us,[]⟩ (Value.ref (s1.heap.objs.size+1)::us) _ _ E (hr.make C us [])
  (I2.env0.make C us []) (by have:=hb _ (Value.ref (s1.heap.objs.size+1)::us) I2.kIn (by rw[YN];exact hl);rwa [YN]at this) r2 hq) fun r s' hq'=>?_))
 cases r with
 | error e=>exact⟨_,_,I2,hq'⟩
 | ok fl =>
  cases fl with
  | ret u =>
   obtain⟨v,H',I3,rv,ev,q3⟩:=I2.after hq';subst ev;exact⟨rv,⟨V.ref (s1.heap.objs.size+1),H',I3,rfl,q3⟩⟩
  | next=>exact False.elim hq'
  | brk=>exact False.elim hq'
  | cont=>exact False.elim hq'
end
abbrev AHd:=ZaL->ASt->AHp->Addr->List (Str×U)->Prop
def ahN:AHd:=fun _ _ _ _ _=>False
def ahC(K:YFr)(D:Addr)(j:Nat)(ah:AS)(r:AHd):AHd:=fun Dn ρ A' C fs=>ZaG K C D true/\(∀a dx,A' a=none->A' dx=none->a≠dx->ah (Dn.goes j) (ρ.set j (some (.ref a))) (updA (updA A' dx (oXd fs)) a (oX C dx)))\/ZaG K C D false/\r Dn ρ A' C fs
def ZqJ(ab:ASX)(r:AHd):AS:=fun Dn ρ A=>ab Dn ρ A fun C fs A'=>r Dn ρ A' C fs
def AbH(K:YFr)(t:TH)(r:AHd):Prop:=∀ρ A' σ H' D' Dn C dx fs gs,RSt K H' ρ σ->HR K H' A'->A' dx=none->H' dx=some (.xd gs)->RFs K H' fs gs->ZkB K H' D' Dn->r D' ρ A' C fs->t Dn σ H' C dx
def ZlP(C:Addr)(asp:Zc7)(l:AA):AX:=fun ρ A Q X'=>l ρ A fun us A1=>∀x dx,A1 x=none->asp (.ref x::us) (updA A1 x (.ins C dx [])) (fun u A2=>u=.non/\Q (.ref x) A2) X'
section
variable{K:YFr}{t:TA}
def Ztu:AbH K thN ahN:=fun _ _ _ _ _ _ _ _ _ _ _ _ _ _ _ _ q=>q
def Zk1(hh:AbS K th ah)(hr:AbH K r ar):AbH K (thC K D j th r) (ahC K D j ah ar):=fun ρ A' σ H' D' Dn C dx fs gs hs g n' d' rf k q=>by
 rcases q with⟨c,q⟩|⟨c,q⟩
 .refine .inl ⟨c,fun a ha=>?_⟩
  have hne:a≠dx:=fun e=>by rw[e,d']at ha;cases ha
  have sm:=Zat.upd_new (o:=XT a C dx) ha
  have k2:Kp K H' _:=sm.kp
  exact hh _ _ _ _ _ _ (RSt.set (.ref a) j (hs.same k2)) (g.newX d' rf ha) (q a dx (g.none ha) n' hne) ((k.same k2).goes j)
 .exact .inr ⟨c,hr ρ A' σ H' D' Dn C dx fs gs hs g n' d' rf k q⟩
def ZnS(hx:ZuP K tb ab)(hr:AbH K r ar):AbS K (Zsg tb r) (ZqJ ab ar):=fun ρ A σ H D' Dn hs g w k =>
 hx ρ A σ H _ _ _ _ hs g w k fun C dx fs gs A' H' k' g' n' d' rf q=>⟨C,dx,rfl,rfl,hr ρ A' σ H' D' Dn C dx fs gs (hs.same k') g' n' d' rf (k.same k') q⟩
def Zf4(hl:AbA K t l):AbX K (ZmI C (Zcm K asp) t) (ZlP C asp l):=fun ρ A σ H Q' X' Q E hs g w k kx =>
 hl ρ A σ H _ _ hs g w fun us A1 vs H1 k1 g1 r1 q1 x dx hx hdx hne=>by
  have s1:Zat H1 (upd H1 dx (.own x)):=Zat.upd_new hdx
  have hx':upd H1 dx (.own x) x=none:=by rw[Zr (Ne.symm hne)];exact hx
  have s2:Zat (upd H1 dx (.own x)) (upd (upd H1 dx (.own x)) x (.ins C dx [])):=Zat.upd_new hx'
  have g2:HR K (upd (upd H1 dx (.own x)) x (.ins C dx [])) (updA A1 x (.ins C dx [])):=(g1.grow s1).putO s2.kp ⟨[],Zv,rfl,.nil⟩
  refine⟨.ref x::us,_,_,X',.cons (.ref x) (r1.same (s1.kp.trans s2.kp)),g2,q1 x dx (g1.none hx),fun u A3 v3 H3 k3 g3 r3 ⟨e,q3⟩=>?_,kx.same (k1.trans (s1.kp.trans s2.kp))⟩
  subst e
  cases r3
  exact⟨rfl,k _ _ _ _ (k1.trans ((s1.kp.trans s2.kp).trans k3)) g3 (.ref x) q3⟩
variable{A:AHp}
def Zsh:ZlP C asp l ρ A Q X'=l ρ A fun us A1=>∀x dx,A1 x=none->asp (.ref x::us) (updA A1 x (.ins C dx [])) (fun u A2=>u=.non/\Q (.ref x) A2) X':=rfl
def ZqB:ZqJ ab ar Dn ρ A=ab Dn ρ A fun C fs A'=>ar Dn ρ A' C fs:=rfl
def Zwm:ahN Dn ρ A C fs=False:=rfl
def Zv5:ahC K D j ah ar Dn ρ A C fs=(ZaG K C D true/\(∀a dx,A a=none->A dx=none->a≠dx->ah (Dn.goes j) (ρ.set j (some (.ref a))) (updA (updA A dx (oXd fs)) a (oX C dx)))\/ZaG K C D false/\ar Dn ρ A C fs):=rfl
end
def Zmh(C:Addr)(asp:Zc7)(l:AA):AE:=fun ρ A Q=>l ρ A fun us A1=>∀x dx,A1 x=none->asp (.ref x::us) (updA A1 x (.ins C dx [])) (fun u A2=>u=.non/\Q (.ref x) A2) fun _ _ _=>False
section
variable{K:YFr}{t:TA}
def ZkI(hl:AbA K t l):AbE K (Zm5 C (Zcm K asp) [] E0 t) (Zmh C asp l):=fun ρ A σ H Q' Q hs g w k =>
 hl ρ A σ H _ _ hs g w fun us A1 vs H1 k1 g1 r1 q1 x dx hx hdx hne=>by
  have s1:Zat H1 (upd H1 dx (.own x)):=Zat.upd_new hdx
  have hx':upd H1 dx (.own x) x=none:=by rw[Zr (Ne.symm hne)];exact hx
  have s2:Zat (upd H1 dx (.own x)) (upd (upd H1 dx (.own x)) x (.ins C dx [])):=Zat.upd_new hx'
  have g2:HR K (upd (upd H1 dx (.own x)) x (.ins C dx [])) (updA A1 x (.ins C dx [])):=(g1.grow s1).putO s2.kp ⟨[],Zv,rfl,.nil⟩
  refine⟨.ref x::us,_,_,_,.cons (.ref x) (by rw[YN];exact r1.same (s1.kp.trans s2.kp)),g2,q1 x dx (g1.none hx),fun u A3 v3 H3 k3 g3 r3 ⟨e,q3⟩=>?_,fun _ _ _ _ _ _ _ _ _ _ _ z=>z.elim⟩
  subst e
  cases r3
  exact⟨rfl,k _ _ _ _ (k1.trans ((s1.kp.trans s2.kp).trans k3)) g3 (.ref x) q3⟩
def Zuj{A:AHp}:Zmh C asp l ρ A Q=l ρ A fun us A1=>∀x dx,A1 x=none->asp (.ref x::us) (updA A1 x (.ins C dx [])) (fun u A2=>u=.non/\Q (.ref x) A2) fun _ _ _=>False:=rfl
end
def rmF{α:Type}(z:Str)(kvs:List (Str×α)):List (Str×α):=kvs.filter fun p=>decide (p.1≠z)
def Zor(z:Str)(kvs:List (Str×α)):(rmF z kvs).length<=kvs.length:=List.length_filter_le _ _
def KV.rm(r:KV kvs vs)(k:Str):KV (rmF k kvs) (without vs k):=by
 unfold KV at r;induction r with
 | nil=>exact .nil
 | @cons p q ps qs h t ih =>
  obtain⟨p1,p2⟩:=p;obtain⟨q1,q2⟩:=q;obtain⟨h1,h2⟩:=h;simp only at h1 h2;subst h1;unfold rmF without at ih ⊢;by_cases e:p1=k
  .rw[List.filter_cons_of_neg (by simp[e]),List.filter_cons_of_neg (by simp[e])];exact ih
  .rw[List.filter_cons_of_pos (by simp[e]),List.filter_cons_of_pos (by simp[e])];exact .cons ⟨rfl,h2⟩ ih
theorem RFs.rm{K:YFr}:∀ {kus:List (Str×U)} {kvs:List (Str×V)},RFs K H kus kvs->RFs K H (rmF k kus) (rmF k kvs)
 | [],[],_=>⟨rfl,.nil⟩
 | [],_::_,h=>nomatch h.1
 | _::_,[],h=>nomatch h.1
 | (a, u)::kus,(b,v)::kvs,⟨h1,h2⟩=>by
  rw[Yq,Yq]at h1
  injection h1 with h3 h4
  simp only at h3
  subst h3
  cases h2 with
  | cons r1 r2 =>
  have ih:=RFs.rm (k:=k) (K:=K) (H:=H) ⟨h4,r2⟩
  unfold rmF at ih ⊢
  by_cases e:a=k
  .rw[List.filter_cons_of_neg (by simp[e]),List.filter_cons_of_neg (by simp[e])]
   exact ih
  .rw[List.filter_cons_of_pos (by simp[e]),List.filter_cons_of_pos (by simp[e])]
   exact⟨by rw[Yq,Yq,ih.1],.cons r1 ih.2⟩
section
variable{o e:Expr}{es:List Expr}{t:TA}
def ZlI(P:Program)(w:World)(to:TE)(t:TA):TE:=fun σ H Q=>to σ H fun x H1=>∃a ep kvs,x=.ref a/\H1 a=some (DQ P w a ep kvs)/\t σ H1 fun vs H2=>∃z ep' kvs' v,vs=[.str z]/\H2 a=some (DQ P w a ep' kvs')/\kvs'.lookup z=some v/\∀ep2,Q v (upd H2 a (DQ P w a ep2 (rmF z kvs')))
def ZlE(ho:PE X o to)(ha:PA X (e::es) t)(h1:attributeBase o "pop" X.env (eval o X.env)=eval o X.env:=by rfl)(h2:((backTo cpos (starEach (e::es) X.env)).all (fun x=>!x.1)&&(backToKw cpos (keywordEach [] X.env)).all (fun x=>x.1.isSome)&&decide ((e::es).length+([]:List Keyword).length+(if([]:List Keyword).isEmpty then 0 else 1)<30))=true:=by rfl)(h3:(apos.endLine==cpos.line)=true:=by rfl)(h4:starEach (e::es) X.env=(false,eval e X.env)::starEach es X.env:=by rfl)(h5:(backTo cpos (starEach es X.env)).any (·.1)=false:=by rfl):
  PE X (.Call (.Attribute o "pop" apos) (e::es) [] cpos) (ZlI X.prog X.w to t):=by
 intro pins s σ H Q I h;refine wpAny_Call_method_late h1 h2 h3 rfl (thn (ho pins s σ H _ I h) fun v s1 h_q=>?_);obtain⟨x,H1,I1,r1,a,ep,kvs,ex,ha1,q1⟩:=h_q;subst ex;cases r1;obtain⟨_,_,vs1,_,dd⟩:=ZaT I1 ha1;refine⟨"dict","dict.pop",F.plainAttrs_dict,F.slot_dict_pop,F.type_dict_pop,dd.dictOf.typeIs,dd.dictOf.mapOf.noDict,?_⟩;have hA:=ha cpos pins s1 σ H1 _ I1 q1;rw[h4]at hA ⊢;refine Yap (by show(false||(backTo cpos (starEach es X.env)).any (·.1))=false;rw[h5]<;>rfl) (Calls.evalArgs_plain (thn hA fun us s2 h_q=>?_));obtain⟨vs,H2,I2,r2,z,ep',kvs',v,ev,ha2,hv,q2⟩:=h_q;subst ev;obtain⟨h0,hz,vs2,r,dd2⟩:=ZaT I2 ha2;obtain⟨u,rfl,ru⟩:=r2.one;obtain⟨tk,rfl⟩:=ru;have hl:=r.look z;rw[hv]at hl;obtain⟨v',hv',rv⟩:∃v',valueAt vs2 z=some v'/\Zau v v':=by
  cases hx:valueAt vs2 z with
  | none=>rw[hx]at hl;exact(show False from hl).elim
  | some w'=>rw[hx]at hl;exact⟨w',rfl,hl⟩
 refine call_meetsIn F.slot_dict_pop dd2.dictOf.typeIs F.entry_dict_pop (F.args_dict_pop_2 _ _) (meets_dict_pop_there (strKind X.prog X.w) a (strKind_is X.prog X.w z tk) [] (.inl rfl) rfl) ⟨_,v',dd2.dictOf,by rw[<- Paired.length r];exact hz,hv',fun h' dd' hs=>?_⟩;obtain⟨ep2,dd'⟩:=dd'.dictAt;have e1:∃o,h'.get? a=some o:=let⟨o,_,e,_⟩:=dd';⟨o,e⟩;exact⟨v,_,I2.write (x:=a) (e:=a) (by rw[ha2];trivial) (.inl rfl) (fun c u hc z=>(hs.2 c hc).trans z) e1 (DQp.ok ⟨⟨h0,YB (Zor z kvs') hz⟩,_,r.rm z,dd'⟩),rv,q2 ep2⟩
end
section
variable{K:YFr}
def Zmy(P:Program)(w:World)(ao:AE)(l:AA):AE:=fun ρ A Q=>ao ρ A fun x A1=>∃a ep kus,x=.ref a/\A1 a=some (dS P w ep kus)/\l ρ A1 fun us A2=>∃z ep' kus' u,us=[.str z]/\A2 a=some (dS P w ep' kus')/\kus'.lookup z=some u/\∀ep2,Q u (updA A2 a (dS P w ep2 (rmF z kus')))
def ZkU{t:TA}(ho:AbE K to ao)(hl:AbA K t l):AbE K (ZlI P w to t) (Zmy P w ao l):=fun ρ A σ H Q' Q hs g wh k =>
 ho ρ A σ H _ _ hs g wh fun x A1 v1 H1 k1 g1 r1 hq0=>by
  obtain⟨a,ep,kus,e1,e2,q⟩:=hq0
  subst e1
  cases r1
  obtain⟨kvs,h1,rr⟩:=Zbn g1 e2
  refine⟨a,ep,kvs,rfl,h1,hl ρ A1 σ H1 _ _ (hs.same k1) g1 q fun us A2 vs H2 k2 g2 r2 h_q=>?_⟩
  obtain⟨z,ep',kus',u,e3,e4,hu,q2⟩:=h_q
  subst e3
  obtain⟨v,rfl,rv⟩:=r2.inv1
  cases rv
  obtain⟨kvs',h2,rr'⟩:=Zbn g2 e4
  obtain⟨v,hv,rv⟩:=rr'.look hu
  refine⟨z,ep',kvs',v,rfl,h2,hv,fun ep2=>?_⟩
  have kp:Kp K H2 (upd H2 a (DQ P w a ep2 (rmF z kvs'))):=Kp.ext h2
  exact k _ _ _ _ (k1.trans (k2.trans kp)) (g2.putO kp (Ziy Zv (rr'.rm.same kp))) (rv.same kp) (q2 ep2)
def ZoC{A:AHp}:Zmy P w ao l ρ A Q=ao ρ A fun x A1=>∃a ep kus,x=.ref a/\A1 a=some (dS P w ep kus)/\l ρ A1 fun us A2=>∃z ep' kus' u,us=[.str z]/\A2 a=some (dS P w ep' kus')/\kus'.lookup z=some u/\∀ep2,Q u (updA A2 a (dS P w ep2 (rmF z kus'))):=rfl
end
section
def ZqO(P:Program)(w:World):List V->Hp->VK->Prop:=fun xs H Q=>∃a ks,xs=[.ref a]/\H a=some (ZgG P w a ks)/\Q (.int ks.length) H
def Zp1:Zaj X (.builtin "len") (ZqO X.prog X.w):=by
 intro pins s σ H xs us Q I r h;obtain⟨a,ks,rfl,ha,q⟩:=h;obtain⟨u,rfl,ru⟩:=r.one;cases ru;have hS:ZbW X.prog X.w s.heap a ks:=(I.hok a _ ha).1;obtain⟨o,es,ep,t,e1,ex,ed,el,⟨l,hl1,hl2⟩,hsz,hf,_⟩:=hS;have hn:es.size=ks.length:=by
  have:=congrArg List.length hl1;rw[Yc,strValues,Yc,Array.length_toList]at this;rw[this,<- hl2.length_eq,Yc]
 refine call_len_set e1 ex ed hf (by rw[show scanBound=4096 from rfl]at hsz;lia) ⟨.int _,H,I.tok _,⟨_,rfl⟩,?_⟩;rw[hn];exact q
end
section
variable{K:YFr}
def Zqg(P:Program)(w:World):List U->AHp->AVK->Prop:=fun us A Q=>∃a ks,us=[.ref a]/\A a=some (tS P w ks)/\Q (.int ks.length) A
def Zm3:AbL K (ZqO P w) (Zqg P w):=fun xs us A H Q' Q r g h k=>by
 obtain⟨a,ks,rfl,ha,q⟩:=h
 obtain⟨v,rfl,rv⟩:=r.inv1
 cases rv
 exact⟨a,ks,rfl,g.set ha,k _ _ _ _ (.refl H) g (.int _) q⟩
def Zq0{A:AHp}:Zqg P w [.ref a] A Q=∃ks,A a=some (tS P w ks)/\Q (.int ks.length) A:=propext ⟨fun hq0=>by obtain⟨_,ks,e,h⟩:=hq0;cases e;exact⟨ks,h⟩,fun⟨ks,h⟩=>⟨a,ks,rfl,h⟩⟩
end
end L2
namespace My
open PySem L2
local macro_rules | `(tactic| walk_at "d") => do
 let ls <- ("ZrK Zpm Zqz ZqI ZuK Zpr q_c Zwh Zv7 Zwp ZsL Zux Zv1 Ztg ZuU Zre Ztx Zpx Zny Zt8 Ztp Zwn ZqU ZkA Zsa Zwe ZsR Zwb Zrc ZtW ZqD Zua Zt9 ZtM ZtV Ztm ZsI Zoc Zs9 ZtA Zwa Ztc Zun Zuo Ztj ZpM ZrF ZoY ZpI Zr2 ZpP ZrH Zp0 Zwk ZsM ZuF Zup Ztt ZuG ZuS Zug ZtK Zuq Zs7 ZqP ZpD Zp6 Zpu Zsl Zs4 ZtR Ztk Zum ZtB ZqH Zr8 ZrZ ZrQ ZrX Zs1 Zpg Zpn ZoW Zrg Znk Zrh Zon Zs0 ZuJ Zs8 Zs5 ZuE ZsQ Ztd Zqq ZsG ZsO Zqj Zrb Zsj ZrE ZrW ZpQ ZtX Zuf ZuL ZtL Ztv ZsX ZuN ZpC Zty ZuB Zrj Zro Zpp ZtC Zsb Zt2 Ztl Zs2 ZpJ Zry Zqa ZqV Zr1 Zr7 Znj Zv2 Ztn Zr3 Zsi Zpe Zvz Zu2 Zir Zme ZpZ Zus Zna ZtJ Zue Zsn Zns Zot ZnP ZmZ Zrx Zoe Zsp ZuV Zlx Zo4 Zrf Znz Zth ZoL Zt7 Zqr Zvz Zu2 Zir Zme ZpZ Zoo ZrP Zso Znr Znn Zq0 ZoC Zsh ZqB Zwm Zv5 Zlg Zuj ZnG".splitOn " ").toArray.mapM fun s => `(Lean.Parser.Tactic.simpLemma| ↓$(Lean.mkIdent (.mkSimple s)):ident)
 `(tactic| (try simp only [$ls,*,List.set_cons_zero,List.set_cons_succ,List.cons_append,List.nil_append]))
local macro_rules | `(tactic| walk_at "g") => `(tactic| (walk_at "d"; (try simp only [↓ZsZ, ↓ZtZ]); walk_at "d"))
local macro_rules | `(tactic| walk_at "s") => `(tactic| (simp only [L2.aStart, Yq, YaV, List.length_cons, List.length_nil, List.replicate, List.cons_append, List.nil_append, Nat.reduceAdd, Nat.reduceSub]))
local macro_rules | `(tactic| walk_at "o") => `(tactic| (refine ⟨rfl, ?_⟩; walk_at "s"; walk_at "d"))
local macro_rules | `(tactic| walk_at "c") => `(tactic| (try simp only [L2.aCompStart, List.replicate, Yq, YaV, List.getElem?_cons_zero, List.getElem?_cons_succ, Option.join_some, List.cons_append, List.nil_append]))
local macro_rules | `(tactic| walk_at "f") => `(tactic| ((conv => lhs; whnf); (conv => lhs; whnf)))
def top(i:Nat):Stmt:=PySem.Challenge.pw_figurebook_k09_whole_sound_or_round.main.body.getD i (.Pass ⟨0,0,0,0⟩)
def hm0:Value:=.str "figurebook.rules" 314
def hm1:Value:=.str "law_figurebook_k09_whole_sound_or_round" 896
def hm2:Value:=.str "figurebook.books" 699
def hm3:Value:=.str "figurebook.errors" 194
def hKl(P:Params):List (Addr×Obj):=[[(2,(Obj.mk .none none (.dict #[] 0) #[])),
 (3,hNs 57 [ZD P "__name__" 165 hm1,ZD P "__doc__" 166 .none,ZD P "__package__" 167 .none,ZD P "__loader__" 168 (.builtin "__main__.__loader__#opaque"),ZD P "__spec__" 169 .none,ZD P "__annotations__" 170 (.ref 6),ZD P "__builtins__" 171 (.ref 4),ZD P "__file__" 173 (.str "/claim/cut.py" 172),ZD P "__cached__" 174 .none,ZD P "_wall" 193 (.ref 21),ZD P "FigureError" 213 (.ref 31),ZD P "Twice" 238 (.ref 51),ZD P "NoClass" 263 (.ref 70),ZD P "Hollow" 288 (.ref 89),ZD P "Round" 313 (.ref 108),ZD P "Rule" 352 (.ref 134),ZD P "Nothing" 375 (.ref 155),ZD P "Bead" 407 (.ref 181),ZD P "Or" 448 (.ref 214),ZD P "By" 489 (.ref 247),ZD P "Row" 528 (.ref 280),ZD P "Bag" 567 (.ref 313),ZD P "Choice" 606 (.ref 346),ZD P "Ring" 645 (.ref 379),ZD P "Named" 684 (.ref 412),ZD P "term_text" 691 (.ref 421),ZD P "factor_text" 698 (.ref 428),ZD P "Book" 809 (.ref 513),ZD P "rules_by_name" 819 (.ref 524),ZD P "leasts_by_name" 825 (.ref 529),ZD P "least_of" 831 (.ref 534),ZD P "refuse_hollow_parts" 841 (.ref 541),ZD P "has_hollow_part" 847 (.ref 546),ZD P "leans_by_name" 853 (.ref 551),ZD P "leaning_names" 863 (.ref 558),ZD P "leaning_parts" 869 (.ref 563),ZD P "refuse_rounds" 875 (.ref 568),ZD P "round_from" 884 (.ref 575),ZD P "spoken_names" 895 (.ref 582),ZD P "_law_cell" 905 (.ref 589),ZD P "_law_words" 911 (.ref 594),ZD P "_law_colour" 918 (.ref 601),ZD P "_law_object" 926 (.ref 608),ZD P "_law_least" 932 (.ref 613),ZD P "_law_leasts" 944 (.ref 620),ZD P "_law_leaning" 953 (.ref 627),ZD P "_law_inside" 962 (.ref 634),ZD P "_law_hollow_part" 971 (.ref 641),ZD P "_law_goes_round" 977 (.ref 646),ZD P "_law_verdict" 983 (.ref 651),ZD P "_law_is_round" 996 (.ref 658),ZD P "_law_asked" 1002 (.ref 663),ZD P "_law_wild_op" 1015 (.ref 670),ZD P "_law_wild" 1026 (.ref 677),ZD P "_law_told_right" 1032 (.ref 682),ZD P "_law_mix" 1042 (.ref 689),ZD P "law" 1048 (.ref 694)])],
 hF 21 187 1 1 3 191 true (top 0) "_wall" "_wall" (.str "__main__" 164),
 [(30,hNs 3 [ZD P "__module__" 203 hm3,ZD P "__firstlineno__" 207 (.int 5 206),ZD P "__static_attributes__" 208 (.ref 29),ZD P "__weakref__" 210 (.ref 32),ZD P "__doc__" 211 .none]),
 hCl 31 "FigureError" [.type "ValueError",.type "Exception",.type "BaseException",.type "object"] [.ref 51,.ref 70,.ref 89,.ref 108] (some (.ref 22)) 196 "ValueError.__new__",
 (50,hNs 2 [ZD P "__module__" 221 hm3,ZD P "__firstlineno__" 225 (.int 7 224),ZD P "__init__" 233 (.ref 48),ZD P "__static_attributes__" 235 (.ref 49),ZD P "__doc__" 236 .none]),
 hCl 51 "Twice" [.ref 31,.type "ValueError",.type "Exception",.type "BaseException",.type "object"] [] (some (.ref 35)) 214 "ValueError.__new__"],
 hF 67 251 14 2 3 256 true (Zx (top 4) 0) "__init__" "NoClass.__init__" hm3,
 [(69,hNs 2 [ZD P "__module__" 246 hm3,ZD P "__firstlineno__" 250 (.int 12 249),ZD P "__init__" 258 (.ref 67),ZD P "__static_attributes__" 260 (.ref 68),ZD P "__doc__" 261 .none]),
 hCl 70 "NoClass" [.ref 31,.type "ValueError",.type "Exception",.type "BaseException",.type "object"] [] (some (.ref 54)) 239 "ValueError.__new__"],
 hF 86 276 19 2 3 281 true (Zx (top 5) 0) "__init__" "Hollow.__init__" hm3,
 [(88,hNs 2 [ZD P "__module__" 271 hm3,ZD P "__firstlineno__" 275 (.int 17 274),ZD P "__init__" 283 (.ref 86),ZD P "__static_attributes__" 285 (.ref 87),ZD P "__doc__" 286 .none]),
 hCl 89 "Hollow" [.ref 31,.type "ValueError",.type "Exception",.type "BaseException",.type "object"] [] (some (.ref 73)) 264 "ValueError.__new__"],
 hF 105 301 24 2 3 306 true (Zx (top 6) 0) "__init__" "Round.__init__" hm3,
 [(107,hNs 2 [ZD P "__module__" 296 hm3,ZD P "__firstlineno__" 300 (.int 22 299),ZD P "__init__" 308 (.ref 105),ZD P "__static_attributes__" 310 (.ref 106),ZD P "__doc__" 311 .none]),
 hCl 108 "Round" [.ref 31,.type "ValueError",.type "Exception",.type "BaseException",.type "object"] [] (some (.ref 92)) 289 "ValueError.__new__"],
 hF 124 328 30 1 3 332 true (Zx (top 8) 0) "inside" "Rule.inside" hm0,
 hF 131 335 33 1 3 342 true (Zx (top 8) 1) "names" "Rule.names" hm0,
 [(133,hNs 4 [ZD P "__module__" 323 hm0,ZD P "__firstlineno__" 327 (.int 28 326),ZD P "inside" 334 (.ref 124),ZD P "names" 344 (.ref 131),ZD P "__static_attributes__" 345 (.ref 132),ZD P "__dict__" 347 (.ref 135),ZD P "__weakref__" 349 (.ref 136),ZD P "__doc__" 350 .none]),
 hCl 134 "Rule" [.type "object"] [.ref 155,.ref 181,.ref 214,.ref 247,.ref 280,.ref 313,.ref 346,.ref 379,.ref 412] none 316 "object.__new__",
 (154,hNs 2 [ZD P "__module__" 360 hm0,ZD P "__firstlineno__" 364 (.int 39 363),ZD P "told" 371 (.ref 152),ZD P "__static_attributes__" 372 (.ref 153),ZD P "__doc__" 373 .none]),
 hCl 155 "Nothing" [.ref 134,.type "object"] [] (some (.ref 139)) 353 "object.__new__"],
 hF 171 388 45 2 3 393 true (Zx (top 10) 0) "__init__" "Bead.__init__" hm0,
 [(180,hNs 2 [ZD P "__module__" 383 hm0,ZD P "__firstlineno__" 387 (.int 43 386),ZD P "__init__" 395 (.ref 171),ZD P "told" 402 (.ref 178),ZD P "__static_attributes__" 404 (.ref 179),ZD P "__doc__" 405 .none]),
 hCl 181 "Bead" [.ref 134,.type "object"] [] (some (.ref 158)) 376 "object.__new__"],
 hF 197 420 52 3 3 426 true (Zx (top 11) 0) "__init__" "Or.__init__" hm0,
 hF 204 429 56 1 3 433 true (Zx (top 11) 1) "inside" "Or.inside" hm0,
 [(213,hNs 2 [ZD P "__module__" 415 hm0,ZD P "__firstlineno__" 419 (.int 50 418),ZD P "__init__" 428 (.ref 197),ZD P "inside" 435 (.ref 204),ZD P "told" 442 (.ref 211),ZD P "__static_attributes__" 445 (.ref 212),ZD P "__doc__" 446 .none]),
 hCl 214 "Or" [.ref 134,.type "object"] [] (some (.ref 184)) 408 "object.__new__"],
 hF 230 461 63 3 3 467 true (Zx (top 12) 0) "__init__" "By.__init__" hm0,
 hF 237 470 67 1 3 474 true (Zx (top 12) 1) "inside" "By.inside" hm0,
 [(246,hNs 2 [ZD P "__module__" 456 hm0,ZD P "__firstlineno__" 460 (.int 61 459),ZD P "__init__" 469 (.ref 230),ZD P "inside" 476 (.ref 237),ZD P "told" 483 (.ref 244),ZD P "__static_attributes__" 486 (.ref 245),ZD P "__doc__" 487 .none]),
 hCl 247 "By" [.ref 134,.type "object"] [] (some (.ref 217)) 449 "object.__new__"],
 hF 263 502 74 2 3 507 true (Zx (top 13) 0) "__init__" "Row.__init__" hm0,
 hF 270 510 77 1 3 514 true (Zx (top 13) 1) "inside" "Row.inside" hm0,
 [(279,hNs 2 [ZD P "__module__" 497 hm0,ZD P "__firstlineno__" 501 (.int 72 500),ZD P "__init__" 509 (.ref 263),ZD P "inside" 516 (.ref 270),ZD P "told" 523 (.ref 277),ZD P "__static_attributes__" 525 (.ref 278),ZD P "__doc__" 526 .none]),
 hCl 280 "Row" [.ref 134,.type "object"] [] (some (.ref 250)) 490 "object.__new__"],
 hF 296 541 84 2 3 546 true (Zx (top 14) 0) "__init__" "Bag.__init__" hm0,
 hF 303 549 87 1 3 553 true (Zx (top 14) 1) "inside" "Bag.inside" hm0,
 [(312,hNs 2 [ZD P "__module__" 536 hm0,ZD P "__firstlineno__" 540 (.int 82 539),ZD P "__init__" 548 (.ref 296),ZD P "inside" 555 (.ref 303),ZD P "told" 562 (.ref 310),ZD P "__static_attributes__" 564 (.ref 311),ZD P "__doc__" 565 .none]),
 hCl 313 "Bag" [.ref 134,.type "object"] [] (some (.ref 283)) 529 "object.__new__"],
 hF 329 580 94 2 3 585 true (Zx (top 15) 0) "__init__" "Choice.__init__" hm0,
 hF 336 588 97 1 3 592 true (Zx (top 15) 1) "inside" "Choice.inside" hm0,
 [(345,hNs 2 [ZD P "__module__" 575 hm0,ZD P "__firstlineno__" 579 (.int 92 578),ZD P "__init__" 587 (.ref 329),ZD P "inside" 594 (.ref 336),ZD P "told" 601 (.ref 343),ZD P "__static_attributes__" 603 (.ref 344),ZD P "__doc__" 604 .none]),
 hCl 346 "Choice" [.ref 134,.type "object"] [] (some (.ref 316)) 568 "object.__new__"],
 hF 362 619 104 2 3 624 true (Zx (top 16) 0) "__init__" "Ring.__init__" hm0,
 hF 369 627 107 1 3 631 true (Zx (top 16) 1) "inside" "Ring.inside" hm0,
 [(378,hNs 2 [ZD P "__module__" 614 hm0,ZD P "__firstlineno__" 618 (.int 102 617),ZD P "__init__" 626 (.ref 362),ZD P "inside" 633 (.ref 369),ZD P "told" 640 (.ref 376),ZD P "__static_attributes__" 642 (.ref 377),ZD P "__doc__" 643 .none]),
 hCl 379 "Ring" [.ref 134,.type "object"] [] (some (.ref 349)) 607 "object.__new__"],
 hF 395 658 114 2 3 663 true (Zx (top 17) 0) "__init__" "Named.__init__" hm0,
 hF 402 666 117 1 3 670 true (Zx (top 17) 1) "names" "Named.names" hm0,
 [(411,hNs 2 [ZD P "__module__" 653 hm0,ZD P "__firstlineno__" 657 (.int 112 656),ZD P "__init__" 665 (.ref 395),ZD P "names" 672 (.ref 402),ZD P "told" 679 (.ref 409),ZD P "__static_attributes__" 681 (.ref 410),ZD P "__doc__" 682 .none]),
 hCl 412 "Named" [.ref 134,.type "object"] [] (some (.ref 382)) 646 "object.__new__"],
 hF 440 713 133 2 3 716 false (Zx (top 21) 0) "__init__" "Book.__init__" hm2,
 hF 447 719 141 1 3 723 true (Zx (top 21) 1) "names" "Book.names" hm2,
 hF 468 742 151 2 3 747 true (Zx (top 21) 4) "least" "Book.least" hm2,
 hF 475 750 155 2 3 755 true (Zx (top 21) 5) "leans" "Book.leans" hm2,
 hF 510 790 172 2 3 795 true (Zx (top 21) 10) "need_class" "Book.need_class" hm2,
 [(512,hNs 4 [ZD P "__module__" 708 hm2,ZD P "__firstlineno__" 712 (.int 131 711),ZD P "__init__" 718 (.ref 440),ZD P "names" 725 (.ref 447),ZD P "rule" 733 (.ref 454),ZD P "hollow" 741 (.ref 461),ZD P "least" 749 (.ref 468),ZD P "leans" 757 (.ref 475),ZD P "speaks" 765 (.ref 482),ZD P "rings" 773 (.ref 489),ZD P "choices" 781 (.ref 496),ZD P "spoken_rules" 789 (.ref 503),ZD P "need_class" 797 (.ref 510),ZD P "__static_attributes__" 802 (.ref 511),ZD P "__dict__" 804 (.ref 514),ZD P "__weakref__" 806 (.ref 515),ZD P "__doc__" 807 .none]),
 hCl 513 "Book" [.type "object"] [] none 701 "object.__new__"],
 hF 524 810 175 1 3 817 true (top 22) "rules_by_name" "rules_by_name" hm2,
 hF 529 820 186 1 3 823 false (top 23) "leasts_by_name" "leasts_by_name" hm2,
 hF 534 826 193 2 3 829 false (top 24) "least_of" "least_of" hm2,
 hF 541 832 206 2 3 839 true (top 25) "refuse_hollow_parts" "refuse_hollow_parts" hm2,
 hF 546 842 210 2 3 845 false (top 26) "has_hollow_part" "has_hollow_part" hm2,
 hF 551 848 214 2 3 851 false (top 27) "leans_by_name" "leans_by_name" hm2,
 hF 558 854 216 2 3 861 true (top 28) "leaning_names" "leaning_names" hm2,
 hF 563 864 223 2 3 867 false (top 29) "leaning_parts" "leaning_parts" hm2,
 hF 568 870 228 1 3 873 false (top 30) "refuse_rounds" "refuse_rounds" hm2,
 hF 575 876 236 2 3 882 true (top 31) "round_from" "round_from" hm2,
 hF 582 885 242 2 3 893 true (top 32) "spoken_names" "spoken_names" hm2,
 hF 589 898 252 2 3 903 true (top 34) "_law_cell" "_law_cell" hm1,
 hF 594 906 256 2 3 909 false (top 35) "_law_words" "_law_words" hm1,
 hF 601 912 265 1 3 916 true (top 36) "_law_colour" "_law_colour" hm1,
 hF 608 919 267 1 3 924 true (top 37) "_law_object" "_law_object" hm1,
 hF 613 927 286 2 3 930 false (top 38) "_law_least" "_law_least" hm1,
 hF 620 933 302 1 3 942 true (top 39) "_law_leasts" "_law_leasts" hm1,
 hF 627 945 310 2 3 951 true (top 40) "_law_leaning" "_law_leaning" hm1,
 hF 634 954 321 1 3 960 true (top 41) "_law_inside" "_law_inside" hm1,
 hF 641 963 327 2 3 969 true (top 42) "_law_hollow_part" "_law_hollow_part" hm1,
 hF 646 972 332 2 3 975 false (top 43) "_law_goes_round" "_law_goes_round" hm1,
 hF 651 978 341 1 3 981 false (top 44) "_law_verdict" "_law_verdict" hm1,
 hF 658 984 358 2 3 994 true (top 45) "_law_is_round" "_law_is_round" hm1,
 hF 663 997 369 1 3 1000 false (top 46) "_law_asked" "_law_asked" hm1,
 hF 670 1003 393 3 3 1013 true (top 47) "_law_wild_op" "_law_wild_op" hm1,
 hF 677 1016 408 2 3 1024 true (top 48) "_law_wild" "_law_wild" hm1,
 hF 682 1027 418 1 3 1030 false (top 49) "_law_told_right" "_law_told_right" hm1,
 hF 689 1033 430 1 3 1040 true (top 50) "_law_mix" "_law_mix" hm1,
 hF 694 1043 435 1 3 1046 false (top 51) "law" "law" hm1].flatten
def hK(P:Params):YFr:=hKl P
abbrev TX(P:Program)(w:World)(K:YFr)(mg:Str->Option Value)(base:Heap):=TX0 hK P w K mg base
def Zse:Addr:=134
def ZaC:Addr:=155
def ZbM:Addr:=181
def ZiD:Addr:=214
def Zjg:Addr:=247
def ZcC:Addr:=280
def ZcB:Addr:=313
def Zav:Addr:=346
def Zbv:Addr:=379
def Zba:Addr:=412
def a_Book:Addr:=513
def Zap:Addr:=70
def a_Hollow:Addr:=89
def a_Round:Addr:=108
def ZaS:Addr:=31
def Zc0:Addr:=51
abbrev cS:=csL [ZaC,ZbM,Zba,ZiD,Zjg,ZcC,ZcB,Zav,Zbv]
variable{P:Program}{w:World}{K:YFr}{mg:Str->Option Value}{base:Heap}(T:TX P w K mg base)
def TX.F_q1:=T.fr 67 (Zx (top 4) 0) "__init__" "NoClass.__init__" hm3 ["self","name"] ["self","name"]
def TX.K_NoClass:=T.xc Zap 67
def TX.F_q2:=T.fr 86 (Zx (top 5) 0) "__init__" "Hollow.__init__" hm3 ["self","name"] ["self","name"]
def TX.K_Hollow:=T.xc a_Hollow 86
def TX.F_q8:=T.fr 105 (Zx (top 6) 0) "__init__" "Round.__init__" hm3 ["self","circle"] ["self","circle"]
def TX.K_Round:=T.xc a_Round 105
def TX.F_qp:=T.fr 124 (Zx (top 8) 0) "inside" "Rule.inside" hm0 ["self"] ["self"]
def TX.F_qz:=T.fr 131 (Zx (top 8) 1) "names" "Rule.names" hm0 ["self"] ["self","found","rule","name"]
def TX.F_qe:=T.fr 171 (Zx (top 10) 0) "__init__" "Bead.__init__" hm0 ["self","colour"] ["self","colour"]
def TX.K_Bead:=T.mk' ZbM 171
def TX.F_qs:=T.fr 197 (Zx (top 11) 0) "__init__" "Or.__init__" hm0 ["self","one","other"] ["self","one","other"]
def TX.K_Or:=T.mk' ZiD 197
def TX.F_j5:=T.fr 204 (Zx (top 11) 1) "inside" "Or.inside" hm0 ["self"] ["self"]
def TX.W_j5:=T.me ZiD "inside" 204
def TX.F_qr:=T.fr 230 (Zx (top 12) 0) "__init__" "By.__init__" hm0 ["self","one","other"] ["self","one","other"]
def TX.K_By:=T.mk' Zjg 230
def TX.F_j3:=T.fr 237 (Zx (top 12) 1) "inside" "By.inside" hm0 ["self"] ["self"]
def TX.W_j3:=T.me Zjg "inside" 237
def TX.F_qn:=T.fr 263 (Zx (top 13) 0) "__init__" "Row.__init__" hm0 ["self","part"] ["self","part"]
def TX.K_Row:=T.mk' ZcC 263
def TX.F_qy:=T.fr 270 (Zx (top 13) 1) "inside" "Row.inside" hm0 ["self"] ["self"]
def TX.W_qy:=T.me ZcC "inside" 270
def TX.F_qm:=T.fr 296 (Zx (top 14) 0) "__init__" "Bag.__init__" hm0 ["self","part"] ["self","part"]
def TX.K_Bag:=T.mk' ZcB 296
def TX.F_qw:=T.fr 303 (Zx (top 14) 1) "inside" "Bag.inside" hm0 ["self"] ["self"]
def TX.W_qw:=T.me ZcB "inside" 303
def TX.F_q5:=T.fr 329 (Zx (top 15) 0) "__init__" "Choice.__init__" hm0 ["self","part"] ["self","part"]
def TX.K_Choice:=T.mk' Zav 329
def TX.F_qf:=T.fr 336 (Zx (top 15) 1) "inside" "Choice.inside" hm0 ["self"] ["self"]
def TX.W_qf:=T.me Zav "inside" 336
def TX.F_qd:=T.fr 362 (Zx (top 16) 0) "__init__" "Ring.__init__" hm0 ["self","part"] ["self","part"]
def TX.K_Ring:=T.mk' Zbv 362
def TX.F_qo:=T.fr 369 (Zx (top 16) 1) "inside" "Ring.inside" hm0 ["self"] ["self"]
def TX.W_qo:=T.me Zbv "inside" 369
def TX.F_q6:=T.fr 395 (Zx (top 17) 0) "__init__" "Named.__init__" hm0 ["self","name"] ["self","name"]
def TX.K_Named:=T.mk' Zba 395
def TX.F_qq:=T.fr 402 (Zx (top 17) 1) "names" "Named.names" hm0 ["self"] ["self"]
def TX.W_qq:=T.me Zba "names" 402
def TX.F_qb:=T.fr 440 (Zx (top 21) 0) "__init__" "Book.__init__" hm2 ["self","pairs"] ["self","pairs"]
def TX.K_Book:=T.mk' a_Book 440
def TX.F_j0:=T.fr 447 (Zx (top 21) 1) "names" "Book.names" hm2 ["self"] ["self"]
def TX.W_j0:=T.me a_Book "names" 447
def TX.F_qu:=T.fr 468 (Zx (top 21) 4) "least" "Book.least" hm2 ["self","name"] ["self","name"]
def TX.W_qu:=T.me a_Book "least" 468
def TX.F_qv:=T.fr 475 (Zx (top 21) 5) "leans" "Book.leans" hm2 ["self","name"] ["self","name"]
def TX.W_qv:=T.me a_Book "leans" 475
def TX.F_q4:=T.fr 510 (Zx (top 21) 10) "need_class" "Book.need_class" hm2 ["self","name"] ["self","name"]
def TX.W_q4:=T.me a_Book "need_class" 510
def TX.F_qa:=T.fm 524 (top 22) "rules_by_name" hm2 ["pairs"] ["pairs","found","name","rule"]
def TX.F_q7:=T.fm 529 (top 23) "leasts_by_name" hm2 ["rule_by"] ["rule_by","leasts","anew"]
def TX.F_j6:=T.fm 534 (top 24) "least_of" hm2 ["rule","leasts"] ["rule","leasts","within"]
def TX.F_q0:=T.fm 541 (top 25) "refuse_hollow_parts" hm2 ["rule_by","leasts"] ["rule_by","leasts","name","rule"]
def TX.F_q3:=T.fm 546 (top 26) "has_hollow_part" hm2 ["rule","leasts"] ["rule","leasts"]
def TX.F_qh:=T.fm 551 (top 27) "leans_by_name" hm2 ["rule_by","leasts"] ["rule_by","leasts"]
def TX.F_qi:=T.fm 558 (top 28) "leaning_names" hm2 ["rule","leasts"] ["rule","leasts","found","part"]
def TX.F_qc:=T.fm 563 (top 29) "leaning_parts" hm2 ["rule","leasts"] ["rule","leasts","sides"]
def TX.F_qg:=T.fm 568 (top 30) "refuse_rounds" hm2 ["leans_by"] ["leans_by","left","leaning","kept"]
def TX.F_qx:=T.fm 575 (top 31) "round_from" hm2 ["name","leaning"] ["name","leaning","gone"]
def TX.F_qj:=T.fm 582 (top 32) "spoken_names" hm2 ["name","rule_by"] ["name","rule_by","found","waiting","one"]
def TX.F_je:=T.fm 589 (top 34) "_law_cell" hm1 ["_law_script","_law_k"] ["_law_script","_law_k"]
def TX.F_jc:=T.fm 594 (top 35) "_law_words" hm1 ["_law_cell_here","_law_many"] ["_law_cell_here","_law_many","_law_letters","_law_stem","_law_at","_law_found","_law_k","_law_sign"]
def TX.F_ja:=T.fm 601 (top 36) "_law_colour" hm1 ["_law_cell_here"] ["_law_cell_here"]
def TX.F_j8:=T.fm 608 (top 37) "_law_object" hm1 ["_law_rule"] ["_law_rule","_law_one"]
def TX.F_jb:=T.fm 613 (top 38) "_law_least" hm1 ["_law_rule","_law_least_here"] ["_law_rule","_law_least_here","_law_one","_law_other"]
def TX.F_j9:=T.fm 620 (top 39) "_law_leasts" hm1 ["_law_rules"] ["_law_rules","_law_least_here","_law_turn","_law_name","_law_rule","_law_found"]
def TX.F_j4:=T.fm 627 (top 40) "_law_leaning" hm1 ["_law_rule","_law_least_here"] ["_law_rule","_law_least_here","_law_found"]
def TX.F_j7:=T.fm 634 (top 41) "_law_inside" hm1 ["_law_rule"] ["_law_rule","_law_found","_law_part"]
def TX.F_q9:=T.fm 641 (top 42) "_law_hollow_part" hm1 ["_law_rule","_law_least_here"] ["_law_rule","_law_least_here","_law_one"]
def TX.F_ql:=T.fm 646 (top 43) "_law_goes_round" hm1 ["_law_rules","_law_least_here"] ["_law_rules","_law_least_here","_law_left","_law_name","_law_rule","_law_turn"]
def TX.F_j2:=T.fm 651 (top 44) "_law_verdict" hm1 ["_law_pairs"] ["_law_pairs","_law_rules","_law_name","_law_rule","_law_unknown","_law_least_here"]
def TX.F_qt:=T.fm 658 (top 45) "_law_is_round" hm1 ["_law_circle","_law_pairs"] ["_law_circle","_law_pairs","_law_rules","_law_name","_law_rule","_law_least_here","_law_k"]
def TX.F_jd:=T.fm 663 (top 46) "_law_asked" hm1 ["_law_pairs"] ["_law_pairs","_law_told","_law_circle","_law_kinds","e","_law_words_here"]
def TX.F_j1:=T.fm 670 (top 47) "_law_wild_op" hm1 ["_law_stack","_law_cell_here","_law_names"] ["_law_stack","_law_cell_here","_law_names","_law_kind","_law_turn","_law_bead","_law_other"]
def TX.F_jf:=T.fm 677 (top 48) "_law_wild" hm1 ["_law_cells","_law_names"] ["_law_cells","_law_names","_law_stack","_law_cell_here","_law_other"]
def TX.F_qk:=T.fm 682 (top 49) "_law_told_right" hm1 ["_law_pairs"] ["_law_pairs","_law_rules","_law_name","_law_rule","_law_least_here","_law_book"]
def TX.F_jg:=T.fm 689 (top 50) "_law_mix" hm1 ["_law_script"] ["_law_script","_law_made","_law_k","_law_cell_here"]
def TX.F_jh:=T.fm 694 (top 51) "law" hm1 ["_law_script"] ["_law_script","_law_many","_law_names","_law_cells","_law_pairs","_law_at","_law_dealt","_law_due","_law_told"]
def TX.m_Nothing:=T.g "Nothing" (.ref ZaC)
def TX.L_Nothing:=T.cl ZaC
def TX.K_Nothing:=T.mk0 ZaC
def TX.W_Nothing_inside:=T.me ZaC "inside" 124
def TX.W_Nothing_names:=T.me ZaC "names" 131
def TX.m_Bead:=T.g "Bead" (.ref ZbM)
def TX.L_Bead:=T.cl ZbM
def TX.W_Bead_inside:=T.me ZbM "inside" 124
def TX.W_Bead_names:=T.me ZbM "names" 131
def TX.N_Bead_colour:=T.na ZbM "colour"
def TX.m_Or:=T.g "Or" (.ref ZiD)
def TX.L_Or:=T.cl ZiD
def TX.W_Or_names:=T.me ZiD "names" 131
def TX.N_Or_one:=T.na ZiD "one"
def TX.N_Or_other:=T.na ZiD "other"
def TX.m_By:=T.g "By" (.ref Zjg)
def TX.L_By:=T.cl Zjg
def TX.W_By_names:=T.me Zjg "names" 131
def TX.N_By_one:=T.na Zjg "one"
def TX.N_By_other:=T.na Zjg "other"
def TX.m_Row:=T.g "Row" (.ref ZcC)
def TX.L_Row:=T.cl ZcC
def TX.W_Row_names:=T.me ZcC "names" 131
def TX.N_Row_part:=T.na ZcC "part"
def TX.m_Bag:=T.g "Bag" (.ref ZcB)
def TX.L_Bag:=T.cl ZcB
def TX.W_Bag_names:=T.me ZcB "names" 131
def TX.N_Bag_part:=T.na ZcB "part"
def TX.m_Choice:=T.g "Choice" (.ref Zav)
def TX.L_Choice:=T.cl Zav
def TX.W_Choice_names:=T.me Zav "names" 131
def TX.N_Choice_part:=T.na Zav "part"
def TX.m_Ring:=T.g "Ring" (.ref Zbv)
def TX.L_Ring:=T.cl Zbv
def TX.W_Ring_names:=T.me Zbv "names" 131
def TX.N_Ring_part:=T.na Zbv "part"
def TX.m_Named:=T.g "Named" (.ref Zba)
def TX.L_Named:=T.cl Zba
def TX.W_Named_inside:=T.me Zba "inside" 124
def TX.N_Named_name:=T.na Zba "name"
def TX.m_Book:=T.g "Book" (.ref a_Book)
def TX.L_Book:=T.cl a_Book
def TX.N_Book_rule_by:=T.na a_Book "rule_by"
def TX.N_Book_least_by:=T.na a_Book "least_by"
def TX.N_Book_leans_by:=T.na a_Book "leans_by"
def TX.N_Book_speaks_by:=T.na a_Book "speaks_by"
def TX.m_NoClass:=T.g "NoClass" (.ref Zap)
def TX.m_Hollow:=T.g "Hollow" (.ref a_Hollow)
def TX.m_Round:=T.g "Round" (.ref a_Round)
def TX.m_FigureError:=T.g "FigureError" (.ref ZaS)
def TX.m_Twice:=T.g "Twice" (.ref Zc0)
def TX.XB:=T.xb ZaS
def TX.N_NoClass_name:=T.na Zap "name"
def TX.N_Hollow_name:=T.na a_Hollow "name"
def TX.N_Round_circle:=T.na a_Round "circle"
def TX.Y_Hollow_FigureError:=T.ca a_Hollow ZaS true
def TX.Y_Round_FigureError:=T.ca a_Round ZaS true
def TX.Y_Hollow_Twice:=T.ca a_Hollow Zc0 false
def TX.Y_Hollow_NoClass:=T.ca a_Hollow Zap false
def TX.Y_Hollow_Hollow:=T.ca a_Hollow a_Hollow true
def TX.Y_Round_Twice:=T.ca a_Round Zc0 false
def TX.Y_Round_NoClass:=T.ca a_Round Zap false
def TX.Y_Round_Hollow:=T.ca a_Round a_Hollow false
def TX.Y_Round_Round:=T.ca a_Round a_Round true
def TX.X_Hollow:=T.xg a_Hollow
def TX.X_Round:=T.xg a_Round
def TX.XI_0:=T.kt a_Hollow (.ref Zc0) false
def TX.XI_1:=T.kt a_Hollow (.ref Zap) false
def TX.XI_2:=T.kt a_Hollow (.ref a_Hollow) true
def TX.XI_3:=T.kt a_Hollow (.ref a_Round) false
def TX.XI_4:=T.kt a_Hollow (.type "ValueError") true
def TX.XI_5:=T.kt a_Round (.ref Zc0) false
def TX.XI_6:=T.kt a_Round (.ref Zap) false
def TX.XI_7:=T.kt a_Round (.ref a_Hollow) false
def TX.XI_8:=T.kt a_Round (.ref a_Round) true
def TX.XI_9:=T.kt a_Round (.type "ValueError") true
def TX.IT:=T.it [ZaC,ZbM,Zba,ZiD,Zjg,ZcC,ZcB,Zav,Zbv] Zse
def TX.n_ValueError:=T.no "ValueError"
def TX.n_any:=T.no "any"
def TX.n_enumerate:=T.no "enumerate"
def TX.n_isinstance:=T.no "isinstance"
def TX.n_len:=T.no "len"
def TX.n_list:=T.no "list"
def TX.n_min:=T.no "min"
def TX.n_range:=T.no "range"
def TX.n_set:=T.no "set"
def TX.n_sorted:=T.no "sorted"
def TX.n_sum:=T.no "sum"
def TX.n_tuple:=T.no "tuple"
def Zbd(C:Addr)(f:Str):ASp:=fun us A Q=>∃(x dx:Addr)(u:U),us=[.ref x,u]/\A x=some (.ins C dx [])/\Q .non (updA A x (.ins C dx [(f,u)]))
def ZeL(C:Addr):ASp:=fun us A Q=>∃(x dx:Addr)(u v:U),us=[.ref x,u,v]/\A x=some (.ins C dx [])/\Q .non (updA A x (.ins C dx [("one",u),("other",v)]))
def Zkb:Zct a u []=[(a,u)]:=rfl
def Zu6:Zct "other" v [(("one":Str),u)]=[(("one":Str),u),(("other":Str),v)]:=by
 have:("one":Str)≠"other":=by decide +kernel
 simp[Zct,this]
section
include T
def Zlh:T.F_qe.Ok CX0 1 (Zar K (Zbd ZbM "colour")):=by
 apply T.F_qe.okA;walk_at "f";exact fun S hr=>⟨_,(Zh (Za6 (pv 0) (pv 1) rfl)),(ZaF Za Za)⟩;rintro us A Q ⟨x,dx,u,rfl,hx,q⟩;walk_at "o";refine⟨x,_,dx,_,rfl,hx,T.L_Bead,T.N_Bead_colour,by decide,?_⟩;rw[Zkb];exact fg q
def Zjq:T.F_q6.Ok CX0 1 (Zar K (Zbd Zba "name")):=by
 apply T.F_q6.okA;walk_at "f";exact fun S hr=>⟨_,(Zh (Za6 (pv 0) (pv 1) rfl)),(ZaF Za Za)⟩;rintro us A Q ⟨x,dx,u,rfl,hx,q⟩;walk_at "o";refine⟨x,_,dx,_,rfl,hx,T.L_Named,T.N_Named_name,by decide,?_⟩;rw[Zkb];exact fg q
def ZoR:T.F_qn.Ok CX0 1 (Zar K (Zbd ZcC "part")):=by
 apply T.F_qn.okA;walk_at "f";exact fun S hr=>⟨_,(Zh (Za6 (pv 0) (pv 1) rfl)),(ZaF Za Za)⟩;rintro us A Q ⟨x,dx,u,rfl,hx,q⟩;walk_at "o";refine⟨x,_,dx,_,rfl,hx,T.L_Row,T.N_Row_part,by decide,?_⟩;rw[Zkb];exact fg q
def Zob:T.F_qm.Ok CX0 1 (Zar K (Zbd ZcB "part")):=by
 apply T.F_qm.okA;walk_at "f";exact fun S hr=>⟨_,(Zh (Za6 (pv 0) (pv 1) rfl)),(ZaF Za Za)⟩;rintro us A Q ⟨x,dx,u,rfl,hx,q⟩;walk_at "o";refine⟨x,_,dx,_,rfl,hx,T.L_Bag,T.N_Bag_part,by decide,?_⟩;rw[Zkb];exact fg q
def Zhx:T.F_q5.Ok CX0 1 (Zar K (Zbd Zav "part")):=by
 apply T.F_q5.okA;walk_at "f";exact fun S hr=>⟨_,(Zh (Za6 (pv 0) (pv 1) rfl)),(ZaF Za Za)⟩;rintro us A Q ⟨x,dx,u,rfl,hx,q⟩;walk_at "o";refine⟨x,_,dx,_,rfl,hx,T.L_Choice,T.N_Choice_part,by decide,?_⟩;rw[Zkb];exact fg q
def Zkd:T.F_qd.Ok CX0 1 (Zar K (Zbd Zbv "part")):=by
 apply T.F_qd.okA;walk_at "f";exact fun S hr=>⟨_,(Zh (Za6 (pv 0) (pv 1) rfl)),(ZaF Za Za)⟩;rintro us A Q ⟨x,dx,u,rfl,hx,q⟩;walk_at "o";refine⟨x,_,dx,_,rfl,hx,T.L_Ring,T.N_Ring_part,by decide,?_⟩;rw[Zkb];exact fg q
def Zql:T.F_qs.Ok CX0 1 (Zar K (ZeL ZiD)):=by
 apply T.F_qs.okA
 walk_at "f"
 exact fun S hr=>⟨_,(Ze (Za6 (pv 0) (pv 1) rfl)
   (Zh (Za6 (pv 0) (pv 2) rfl))),(Zj (ZaF Za Za)
   (ZaF Za Za))⟩
 rintro us A Q ⟨x,dx,u,v,rfl,hx,q⟩
 walk_at "o"
 refine⟨x,_,dx,_,rfl,hx,T.L_Or,T.N_Or_one,by decide,x,_,dx,_,rfl,Zc,T.L_Or,T.N_Or_other,by show(1:Nat)<1000;decide,?_⟩
 rw[ZK,Zkb,Zu6]
 exact fg q
def Zqh:T.F_qr.Ok CX0 1 (Zar K (ZeL Zjg)):=by
 apply T.F_qr.okA
 walk_at "f"
 exact fun S hr=>⟨_,(Ze (Za6 (pv 0) (pv 1) rfl)
   (Zh (Za6 (pv 0) (pv 2) rfl))),(Zj (ZaF Za Za)
   (ZaF Za Za))⟩
 rintro us A Q ⟨x,dx,u,v,rfl,hx,q⟩
 walk_at "o"
 refine⟨x,_,dx,_,rfl,hx,T.L_By,T.N_By_one,by decide,x,_,dx,_,rfl,Zc,T.L_By,T.N_By_other,by show(1:Nat)<1000;decide,?_⟩
 rw[ZK,Zkb,Zu6]
 exact fg q
end
def lk1{a b:Str}{u v:U}:List.lookup a [(a,u),(b,v)]=some u:=by simp[List.lookup]
def lk2{a b:Str}{u v:U}(h:(b==a)=false):List.lookup b [(a,u),(b,v)]=some v:=by simp[List.lookup,h]
def Zk7{ts:List Str}(h:x∉ts):inU (.str x) (ts.map U.str)=false:=by
 unfold inU inV;rw[List.any_eq_false];intro y hy;simp only[YQ]at hy;obtain⟨_,⟨z,hz,rfl⟩,rfl⟩:=hy;simp only[U.toV,eqV];intro e;have:z=x:=by simpa using e
 exact h (this▸hz)
def lkp{a:Str}{u:U}:List.lookup a [(a,u)]=some u:=by simp[List.lookup]
section
include T
def Zl0(n:Nat):T.F_j8.Ok CX0 (n+4) (Zar K (Zd8 cS n)):=by
 induction n with
 | zero=>exact Za7 T.F_j8.f T.F_j8.s ZtP
 | succ n G_j8 =>
  have G_qe:=Zlh T;have G_q6:=Zjq T;have G_qs:=Zql T;have G_qr:=Zqh T;have G_qn:=ZoR T;have G_qm:=Zob T;have G_q5:=Zhx T;have G_qd:=Zkd T;apply T.F_j8.okA;walk_at "f";exact fun S hr=>⟨_,(Ze (ZQ (Zp (ZaV hr) (ZI ZaI (pv 0) Zl (fun _ _=>rfl)) ZF (ZE _)) (Zh (Zt (ZqR T.K_Nothing (by rfl) T.m_Nothing))) Zz)
   (Ze (ZQ (Zp (ZaV hr) (ZI ZaI (pv 0) Zl (fun _ _=>rfl)) ZF (ZE _)) (Zh (Zt (Zbp T.K_Bead G_qe.mn hr (by rfl) T.m_Bead T.F_qe.b .nil Zbs (Zb (ZI ZaI (pv 0) Zl (fun _ _=>rfl)) Zg)))) Zz)
   (Ze (ZQ (Zp (ZaV hr) (ZI ZaI (pv 0) Zl (fun _ _=>rfl)) ZF (ZE _)) (Zh (Zt (Zbp T.K_Named G_q6.mn hr (by rfl) T.m_Named T.F_q6.b .nil Zbs (Zb (ZI ZaI (pv 0) Zl (fun _ _=>rfl)) Zg)))) Zz)
   (Ze (ZC (i:=1) S.nd rfl (Or.inl rfl) (T.F_j8.pc G_j8 hr (Zb (ZI ZaI (pv 0) Zl (fun _ _=>rfl)) Zg)))
   (Ze (ZQ (Zp (ZaV hr) (ZI ZaI (pv 0) Zl (fun _ _=>rfl)) ZF (ZE _)) (Zh (Zt (Zbp T.K_Or G_qs.mn hr (by rfl) T.m_Or T.F_qs.b .nil Zbs (Zb (pv 1) (Zb (T.F_j8.pc G_j8 hr (Zb (ZI ZaI (pv 0) Zl (fun _ _=>rfl)) Zg)) Zg))))) Zz)
   (Ze (ZQ (Zp (ZaV hr) (ZI ZaI (pv 0) Zl (fun _ _=>rfl)) ZF (ZE _)) (Zh (Zt (Zbp T.K_By G_qr.mn hr (by rfl) T.m_By T.F_qr.b .nil Zbs (Zb (pv 1) (Zb (T.F_j8.pc G_j8 hr (Zb (ZI ZaI (pv 0) Zl (fun _ _=>rfl)) Zg)) Zg))))) Zz)
   (Ze (ZQ (Zp (ZaV hr) (ZI ZaI (pv 0) Zl (fun _ _=>rfl)) ZF (ZE _)) (Zh (Zt (Zbp T.K_Row G_qn.mn hr (by rfl) T.m_Row T.F_qn.b .nil Zbs (Zb (pv 1) Zg)))) Zz)
   (Ze (ZQ (Zp (ZaV hr) (ZI ZaI (pv 0) Zl (fun _ _=>rfl)) ZF (ZE _)) (Zh (Zt (Zbp T.K_Bag G_qm.mn hr (by rfl) T.m_Bag T.F_qm.b .nil Zbs (Zb (pv 1) Zg)))) Zz)
   (Ze (ZQ (Zp (ZaV hr) (ZI ZaI (pv 0) Zl (fun _ _=>rfl)) ZF (ZE _)) (Zh (Zt (Zbp T.K_Choice G_q5.mn hr (by rfl) T.m_Choice T.F_q5.b .nil Zbs (Zb (pv 1) Zg)))) Zz)
   (Zh (Zt (Zbp T.K_Ring G_qd.mn hr (by rfl) T.m_Ring T.F_qd.b .nil Zbs (Zb (pv 1) Zg))))))))))))),(Zj (Zas (Zo (Zk ZaN (Zk ZM Za Zm) ZL)) (Zs Zp4) Zy)
   (Zj (Zas (Zo (Zk ZaN (Zk ZM Za Zm) ZL)) (Zs (Zby (Zd (Zk ZM Za Zm) Zf))) Zy)
   (Zj (Zas (Zo (Zk ZaN (Zk ZM Za Zm) ZL)) (Zs (Zby (Zd (Zk ZM Za Zm) Zf))) Zy)
   (Zj (Zu (Zw (Zd (Zk ZM Za Zm) Zf)) Zi)
   (Zj (Zas (Zo (Zk ZaN (Zk ZM Za Zm) ZL)) (Zs (Zby (Zd Za (Zd (Zw (Zd (Zk ZM Za Zm) Zf)) Zf)))) Zy)
   (Zj (Zas (Zo (Zk ZaN (Zk ZM Za Zm) ZL)) (Zs (Zby (Zd Za (Zd (Zw (Zd (Zk ZM Za Zm) Zf)) Zf)))) Zy)
   (Zj (Zas (Zo (Zk ZaN (Zk ZM Za Zm) ZL)) (Zs (Zby (Zd Za Zf))) Zy)
   (Zj (Zas (Zo (Zk ZaN (Zk ZM Za Zm) ZL)) (Zs (Zby (Zd Za Zf))) Zy)
   (Zj (Zas (Zo (Zk ZaN (Zk ZM Za Zm) ZL)) (Zs (Zby (Zd Za Zf))) Zy)
   (Zs (Zby (Zd Za Zf))))))))))))⟩
  rintro us A Q ⟨r,rfl,hd,q⟩;refine⟨rfl,?_⟩;walk_at "s";cases r with
  | nothing =>
   unfold Rl.toU;walk_at "g";exact ZX rfl fun x dx hx=>fg (q _ x (Ext.new hx) ⟨dx,Zc⟩)
  | bead c =>
   unfold Rl.toU;walk_at "g";exact ZA (by decide +kernel) (ZX rfl fun x dx hx=>⟨x,dx,_,rfl,Zc,rfl,by rw[ZK];exact fg (q _ x (Ext.new hx) ⟨dx,Zc⟩)⟩)
  | named c =>
   unfold Rl.toU;walk_at "g";exact ZA (by decide +kernel) (ZA (by decide +kernel) (ZX rfl fun x dx hx=>⟨x,dx,_,rfl,Zc,rfl,by rw[ZK];exact fg (q _ x (Ext.new hx) ⟨dx,Zc⟩)⟩))
  | or x y =>
   unfold Rl.toU;walk_at "g";simp only[Rl.dep]at hd;refine ZA (by decide +kernel) (ZA (by decide +kernel) (ZA (by decide +kernel) (⟨x,rfl,by lia,fun B1 b1 e1 h1=>?_⟩)));walk_at "g";refine ZX rfl ⟨y,rfl,by lia,fun B2 b2 e2 h2 x3 dx hx=>⟨x3,dx,_,_,rfl,Zc,rfl,?_⟩⟩;rw[ZK];exact fg (q _ x3 ((e1.trans e2).trans (Ext.new hx)) ⟨dx,b1,b2,Zc,(h1.ext e2).ext (Ext.new hx),h2.ext (Ext.new hx)⟩)
  | by_ x y =>
   unfold Rl.toU;walk_at "g";simp only[Rl.dep]at hd;refine ZA (by decide +kernel) (ZA (by decide +kernel) (ZA (by decide +kernel) (⟨x,rfl,by lia,fun B1 b1 e1 h1=>?_⟩)));walk_at "g";refine ZA (by decide +kernel) (ZX rfl ⟨y,rfl,by lia,fun B2 b2 e2 h2 x3 dx hx=>⟨x3,dx,_,_,rfl,Zc,rfl,?_⟩⟩);rw[ZK];exact fg (q _ x3 ((e1.trans e2).trans (Ext.new hx)) ⟨dx,b1,b2,Zc,(h1.ext e2).ext (Ext.new hx),h2.ext (Ext.new hx)⟩)
  | hold k x =>
   unfold Rl.toU;walk_at "g";simp only[Rl.dep]at hd;have hk:∀z∈(["nothing","bead","name","or","by"]:List Str),decide (ZaA k=z)=false:=fun z hz=>Yw (Zlm k hz);refine ZA (hk _ (by decide +kernel)) (ZA (hk _ (by decide +kernel)) (ZA (hk _ (by decide +kernel)) ⟨x,rfl,by lia,fun B1 b1 e1 h1=>?_⟩));walk_at "g";refine ZA (hk _ (by decide +kernel)) (ZA (hk _ (by decide +kernel)) ?_);have q':∀(C:Addr)(b dx:Addr),B1 b=none->cS (5+min k 3)=C->Fg Q (.ref b) (updA (updA B1 b (.ins C dx [])) b (.ins C dx [("part",.ref b1)])):=fun C b dx hb e=>by
    subst e;rw[ZK];exact fg (q _ b (e1.trans (Ext.new hb)) ⟨dx,b1,Zc,h1.ext (Ext.new hb)⟩)
   clear hk q;rcases k with _|_|_|k
   .exact ZX (by decide +kernel) fun b dx hb=>⟨b,dx,_,rfl,Zc,rfl,q' _ b dx hb rfl⟩
   .exact ZA (by decide +kernel) (ZX (by decide +kernel) fun b dx hb=>⟨b,dx,_,rfl,Zc,rfl,q' _ b dx hb rfl⟩)
   .exact ZA (by decide +kernel) (ZA (by decide +kernel) (ZX (by decide +kernel) fun b dx hb=>⟨b,dx,_,rfl,Zc,rfl,q' _ b dx hb rfl⟩))
   .rw[show ZaA (k+1+1+1)=ZaA 3 from rfl];exact ZA (by decide +kernel) (ZA (by decide +kernel) (ZA (by decide +kernel) fun b dx hb=>⟨b,dx,_,rfl,Zc,rfl,q' _ b dx hb (by rw[Nat.min_eq_right (by lia)];rfl)⟩))
end
def Zaq(cs:Nat->Addr)(i:Nat):ASp:=fun us A Q=>∃(a:Addr)(r:Rl),us=[.ref a]/\RlO cs A a r/\r.ci=i/\∀l ps,A l=none->Zfq cs A ps r.kids->Q (.ref l) (updA A l (.lst (ps.map U.ref)))
def Zkr(cs:Nat->Addr):ASp:=fun us A Q=>∃(a:Addr)(r:Rl),us=[.ref a]/\RlO cs A a r/\r.kids=[]/\∀l ps,A l=none->Zfq cs A ps r.kids->Q (.ref l) (updA A l (.lst (ps.map U.ref)))
def ZaJ(cs:Nat->Addr)(n i:Nat):ASp:=fun us A Q=>∃(a:Addr)(r:Rl),us=[.ref a]/\RlO cs A a r/\r.ci=i/\r.dep<=n/\r.size<=60/\∀B l zs,Ext A B->A l=none->B l=some (.lst (zs.map U.str))->Ztr r zs->Q (.ref l) B
def Zg1(cs:Nat->Addr)(n:Nat):ASp:=fun us A Q=>∃(a:Addr)(r:Rl),us=[.ref a]/\RlO cs A a r/\r.ci≠2/\r.dep<=n/\r.size<=60/\∀B l zs,Ext A B->A l=none->B l=some (.lst (zs.map U.str))->Ztr r zs->Q (.ref l) B
def ZlS(cs:Nat->Addr)(sp:Nat->ASp):List (Addr×ASp):=(List.range 9).map fun i=>(cs i,sp i)
def ZgS(r:Rl):(cs r.ci,sp r.ci)∈ZlS cs sp:=YQ.mpr ⟨r.ci,YaJ.mpr r.ci_lt,rfl⟩
def ZvA(h:∀i,i<9->∃f fd ps,Cls K (cs i)/\Zpb K (cs i) m f/\ZbB P w K mg base CX0 k f fd ps (Zar K (sp i))/\Zb7 K fd ps []):MOk P w K mg base CX0 k m ((ZlS cs sp).map fun p=>(p.1,Zar K p.2)):=fun C s hin=>by
 obtain⟨p,hp,e⟩:=YQ.mp hin
 obtain⟨i,hi,e2⟩:=YQ.mp hp
 subst e2
 cases e
 exact h i (YaJ.mp hi)
def Zk2:(("names":Str))∉(["colour","name","one","other","part"]:List Str):=by decide +kernel
def Zbz:(("inside":Str))∉(["colour","name","one","other","part"]:List Str):=by decide +kernel
def rmA(A:AHp)(f:Addr):AHp:=fun x=>if x=f then none else A x
def ZnK(h:A f=some o):updA (rmA A f) f o=A:=by
 funext x;unfold updA rmA;by_cases e:x=f
 .rw[if_pos e,e,h]
 .rw[if_neg e,if_neg e]
def Zrd:rmA A f f=none:=if_pos rfl
def ZmG(h:x≠f):rmA A f x=A x:=if_neg h
def Zo0(e:Ext B A)(h:B f=none):Ext B (rmA A f):=fun x o q=>by
 rw[ZmG (fun z=>by rw[z,h]at q;cases q)]
 exact e x o q
def Zgy(e:Ext A B)(h:B x=none):A x=none:=by
 cases q:A x with
 | none=>rfl
 | some o=>rw[e x o q]at h;cases h
structure ZrA (ks:List Str) (ds:List Str) (n:Nat):Prop where
 nd:ks.Nodup
 mem:∀z,z∈ks↔z∈ds
 len:ks.length<=n
def ZrA.add(h:ZrA ks ds n):ZrA (ZdJ ks z) (ds++[z]) (n+1):=⟨ZhS h.nd,fun x=>by rw[Zgw,h.mem,Yz,Yp],YB (Zgd ks z) (Nat.succ_le_succ h.len)⟩
def Zgj(hr:RlO cs A a r)(q:∀l ps,A l=none->Zfq cs A ps r.kids->Q (.ref l) (updA A l (.lst (ps.map U.ref)))):∃b dx fs C asp,U.ref a=.ref b/\A b=some (.ins C dx fs)/\(C,asp)∈ZlS cs (Zaq cs)/\fs.lookup (Str.ofString "inside")=none/\asp [.ref a] A Q:=by
 obtain⟨dx,fs,ha,hl⟩:=hr.cls Zbz;exact⟨a,dx,fs,_,_,rfl,ha,ZgS r,hl,a,r,rfl,hr,rfl,q⟩
def ZcN(hr:RlO cs A a r)(hd:r.dep<=n)(hs:r.size<=60)(q:∀B l zs,Ext A B->A l=none->B l=some (.lst (zs.map U.str))->Ztr r zs->Q (.ref l) B):∃b dx fs C asp,U.ref a=.ref b/\A b=some (.ins C dx fs)/\(C,asp)∈ZlS cs (ZaJ cs n)/\fs.lookup (Str.ofString "names")=none/\asp [.ref a] A Q:=by
 obtain⟨dx,fs,ha,hl⟩:=hr.cls Zk2;exact⟨a,dx,fs,_,_,rfl,ha,ZgS r,hl,a,r,rfl,hr,rfl,hd,hs,q⟩
def RlO.drop:∀ {a:Addr} {r:Rl},RlO cs (updA A p (.oth φ)) a r->RlO cs A a r:=by
 have key:∀ {a C dx:Addr} {fs:List (Str×U)},updA A p (.oth φ) a=some (.ins C dx fs)->A a=some (.ins C dx fs):=fun {a C dx fs} h=>by
  by_cases e:a=p
  .rw[e,Zc]at h;cases h
  .rwa [Zn e]at h
 intro a r;induction r generalizing a with
 | nothing=>exact fun⟨dx,h⟩=>⟨dx,key h⟩
 | bead c=>exact fun⟨dx,h⟩=>⟨dx,key h⟩
 | named c=>exact fun⟨dx,h⟩=>⟨dx,key h⟩
 | or x y ih1 ih2=>exact fun⟨dx,p,q,h,h1,h2⟩=>⟨dx,p,q,key h,ih1 h1,ih2 h2⟩
 | by_ x y ih1 ih2=>exact fun⟨dx,p,q,h,h1,h2⟩=>⟨dx,p,q,key h,ih1 h1,ih2 h2⟩
 | hold k x ih=>exact fun⟨dx,p,h,h1⟩=>⟨dx,p,key h,ih h1⟩
def Zdd{α β:Type}(f:α->List β)(l:List α)(k:Nat):((l.take k).map f).flatten.length<=(l.map f).flatten.length:=by
 have:(l.map f).flatten=((l.take k).map f).flatten++((l.drop k).map f).flatten:=by rw[<- List.flatten_append,<- Yt,YbX]
 rw[this,Ys];exact Yck _ _
def Zc1{α β:Type}{f:α->List β}{l:List α}{x:α}(h:l[k]? = some x):((l.take (k+1)).map f).flatten=((l.take k).map f).flatten++f x:=by
 obtain⟨hl,e⟩:=Yh.mp h;rw[List.take_succ_eq_append_getElem hl,Yt,List.flatten_append,e];simp
section
include T
def Zhs:∀c∈[ZaC,ZbM,Zba,ZiD,Zjg,ZcC,ZcB,Zav,Zbv],Cls K c:=by
 simp only[Yn,YM,Yan,forall_eq_or_imp,forall_eq];exact⟨T.L_Nothing,T.L_Bead,T.L_Named,T.L_Or,T.L_By,T.L_Row,T.L_Bag,T.L_Choice,T.L_Ring⟩
def ZnU:T.F_qp.Ok CX0 1 (Zar K (Zkr cS)):=by
 apply T.F_qp.okA;walk_at "f";exact fun S hr=>⟨_,(Zh (Zt (Z0 Zg))),(Zs (ZZ Zf))⟩;rintro us A Q ⟨a,r,rfl,hr,hk,q⟩;walk_at "o";refine⟨by decide,fun l hl=>fg (q l [] hl ?_)⟩;rw[hk];trivial
def Zls:T.F_j5.Ok CX0 1 (Zar K (Zaq cS 3)):=by
 apply T.F_j5.okA;walk_at "f";exact fun S hr=>⟨_,(Zh (Zt (Z0 (Zb (Z4 (pv 0) rfl) (Zb (Z4 (pv 0) rfl) Zg))))),(Zs (ZZ (Zd (Z5 Za) (Zd (Z5 Za) Zf))))⟩;rintro us A Q ⟨a,r,rfl,hr,hc,q⟩;obtain⟨x,y,rfl⟩:=Rl.ci3 hc;obtain⟨dx,p1,p2,ha,h1,h2⟩:=hr;walk_at "o";exact⟨a,_,dx,_,_,rfl,ha,T.L_Or,T.N_Or_one,lk1,a,_,dx,_,_,rfl,ha,T.L_Or,T.N_Or_other,lk2 (by decide +kernel),Zcw,fun l hl=>fg (q l [p1,p2] hl ⟨h1,h2,trivial⟩)⟩
def ZkO:T.F_j3.Ok CX0 1 (Zar K (Zaq cS 4)):=by
 apply T.F_j3.okA;walk_at "f";exact fun S hr=>⟨_,(Zh (Zt (Z0 (Zb (Z4 (pv 0) rfl) (Zb (Z4 (pv 0) rfl) Zg))))),(Zs (ZZ (Zd (Z5 Za) (Zd (Z5 Za) Zf))))⟩;rintro us A Q ⟨a,r,rfl,hr,hc,q⟩;obtain⟨x,y,rfl⟩:=Rl.ci4 hc;obtain⟨dx,p1,p2,ha,h1,h2⟩:=hr;walk_at "o";exact⟨a,_,dx,_,_,rfl,ha,T.L_By,T.N_By_one,lk1,a,_,dx,_,_,rfl,ha,T.L_By,T.N_By_other,lk2 (by decide +kernel),Zcw,fun l hl=>fg (q l [p1,p2] hl ⟨h1,h2,trivial⟩)⟩
def Zi1:T.F_qy.Ok CX0 1 (Zar K (Zaq cS 5)):=by
 apply T.F_qy.okA;walk_at "f";exact fun S hr=>⟨_,(Zh (Zt (Z0 (Zb (Z4 (pv 0) rfl) Zg)))),(Zs (ZZ (Zd (Z5 Za) Zf)))⟩;rintro us A Q ⟨a,r,rfl,hr,hc,q⟩;obtain⟨k,x,rfl,hk⟩:=Rl.ci5 (j:=0) (by decide) hc;obtain⟨dx,p1,ha,h1⟩:=hr;rw[hk]at ha;walk_at "o";exact⟨a,_,dx,_,_,rfl,ha,T.L_Row,T.N_Row_part,lkp,Zky,fun l hl=>fg (q l [p1] hl ⟨h1,trivial⟩)⟩
def Zj6:T.F_qw.Ok CX0 1 (Zar K (Zaq cS 6)):=by
 apply T.F_qw.okA;walk_at "f";exact fun S hr=>⟨_,(Zh (Zt (Z0 (Zb (Z4 (pv 0) rfl) Zg)))),(Zs (ZZ (Zd (Z5 Za) Zf)))⟩;rintro us A Q ⟨a,r,rfl,hr,hc,q⟩;obtain⟨k,x,rfl,hk⟩:=Rl.ci5 (j:=1) (by decide) hc;obtain⟨dx,p1,ha,h1⟩:=hr;rw[hk]at ha;walk_at "o";exact⟨a,_,dx,_,_,rfl,ha,T.L_Bag,T.N_Bag_part,lkp,Zky,fun l hl=>fg (q l [p1] hl ⟨h1,trivial⟩)⟩
def Zfp:T.F_qf.Ok CX0 1 (Zar K (Zaq cS 7)):=by
 apply T.F_qf.okA;walk_at "f";exact fun S hr=>⟨_,(Zh (Zt (Z0 (Zb (Z4 (pv 0) rfl) Zg)))),(Zs (ZZ (Zd (Z5 Za) Zf)))⟩;rintro us A Q ⟨a,r,rfl,hr,hc,q⟩;obtain⟨k,x,rfl,hk⟩:=Rl.ci5 (j:=2) (by decide) hc;obtain⟨dx,p1,ha,h1⟩:=hr;rw[hk]at ha;walk_at "o";exact⟨a,_,dx,_,_,rfl,ha,T.L_Choice,T.N_Choice_part,lkp,Zky,fun l hl=>fg (q l [p1] hl ⟨h1,trivial⟩)⟩
def ZhI:T.F_qo.Ok CX0 1 (Zar K (Zaq cS 8)):=by
 apply T.F_qo.okA;walk_at "f";exact fun S hr=>⟨_,(Zh (Zt (Z0 (Zb (Z4 (pv 0) rfl) Zg)))),(Zs (ZZ (Zd (Z5 Za) Zf)))⟩;rintro us A Q ⟨a,r,rfl,hr,hc,q⟩;obtain⟨k,x,rfl,hk⟩:=Rl.ci5 (j:=3) (by decide) hc;obtain⟨dx,p1,ha,h1⟩:=hr;rw[hk]at ha;walk_at "o";exact⟨a,_,dx,_,_,rfl,ha,T.L_Ring,T.N_Ring_part,lkp,Zky,fun l hl=>fg (q l [p1] hl ⟨h1,trivial⟩)⟩
def Zb3:MOk P w K mg base CX0 1 "inside" ((ZlS cS (Zaq cS)).map fun p=>(p.1,Zar K p.2)):=by
 have g0:∀i,i<3->T.F_qp.Ok CX0 1 (Zar K (Zaq cS i)):=fun i hi=>(ZnU T).imp (Zgc fun us A Q ⟨a,r,e,hr,hc,q⟩=>⟨a,r,e,hr,by cases r<;>simp only[Rl.ci]at hc<;>first|rfl|lia,q⟩);refine ZvA fun i hi=>?_;rcases i with _|i
 .exact⟨_,_,_,T.L_Nothing,T.W_Nothing_inside,g0 0 (by decide),T.F_qp.b⟩
 rcases i with _|i
 .exact⟨_,_,_,T.L_Bead,T.W_Bead_inside,g0 1 (by decide),T.F_qp.b⟩
 rcases i with _|i
 .exact⟨_,_,_,T.L_Named,T.W_Named_inside,g0 2 (by decide),T.F_qp.b⟩
 rcases i with _|i
 .exact⟨_,_,_,T.L_Or,T.W_j5,Zls T,T.F_j5.b⟩
 rcases i with _|i
 .exact⟨_,_,_,T.L_By,T.W_j3,ZkO T,T.F_j3.b⟩
 rcases i with _|i
 .exact⟨_,_,_,T.L_Row,T.W_qy,Zi1 T,T.F_qy.b⟩
 rcases i with _|i
 .exact⟨_,_,_,T.L_Bag,T.W_qw,Zj6 T,T.F_qw.b⟩
 rcases i with _|i
 .exact⟨_,_,_,T.L_Choice,T.W_qf,Zfp T,T.F_qf.b⟩
 rcases i with _|i
 .exact⟨_,_,_,T.L_Ring,T.W_qo,ZhI T,T.F_qo.b⟩
 lia
def Zfg:T.F_qq.Ok CX0 1 (Zar K (ZaJ cS n 2)):=by
 apply T.F_qq.okA;walk_at "f";exact fun S hr=>⟨_,(Zh (Zt (Z0 (Zb (Z4 (pv 0) rfl) Zg)))),(Zs (ZZ (Zd (Z5 Za) Zf)))⟩;rintro us A Q ⟨a,r,rfl,hr,hc,hd,hs,q⟩;obtain⟨c,rfl⟩:=Rl.ci2 hc;obtain⟨dx,ha⟩:=hr;walk_at "o";refine⟨a,_,dx,_,_,rfl,ha,T.L_Named,T.N_Named_name,lkp,Zky,fun l hl=>fg (q _ l [c] (Ext.new hl) hl Zc ⟨rfl,by simp,fun z=>by simp[Rl.nms],by simp[Rl.nms]⟩)⟩
def Zlo(HD_names:MOk P w K mg base CX0 (n+2) "names" ((ZlS cS (ZaJ cS n)).map fun p=>(p.1,Zar K p.2))):T.F_qz.Ok CX0 (n+3) (Zar K (Zg1 cS (n+1))):=by
 have HD_inside:=Zb3 T;apply T.F_qz.okA;walk_at "f";exact fun S hr=>⟨_,(Ze (ZC (i:=1) S.nd rfl (Or.inl rfl) (ZdP Zu1 (by rfl) T.n_set (by decide +kernel)))
   (Ze (Zae YA rfl (Zab (ZaD (pv 0) HD_inside.mn hr Zbs)) (Zq (i:=2) S.nd rfl (Or.inl rfl))
   (Zh (Zae YA rfl (Zab (ZaD (pv 2) HD_names.mn hr Zbs)) (Zq (i:=3) S.nd rfl (Or.inl rfl))
   (Zh (ZU (ZiJ (pv 1) (Zb (pv 3) Zg)))))))
   (Zh (Zt (Zac (Zeu rfl) T.n_sorted (Zb (pv 1) Zg)))))),(Zj (Zu (ZY ZrR Zf) Zi)
   (Zj (Zag (ZO ZR (ZaU Za Zf)) Zi
   (Zag (ZO ZR (ZaU Za Zf)) Zi
   (Z1 (ZjI Za (Zd Za Zf)))))
   (Zs (ZY ZcH (Zd Za Zf)))))⟩
 rintro us A Q ⟨a,r,rfl,hr,hc,hd,hs,q⟩;walk_at "o";intro p hp;refine Zgj (hr.ext (Ext.new hp)) fun l ps hl hps=>?_;have hpl:p≠l:=neA Zc hl;have hl0:A l=none:=Zgy (Ext.new hp) hl;rw[ZiI hpl];have hp0:updA A l (.lst (ps.map U.ref)) p=none:=by rw[Zn hpl];exact hp
 walk_at "d";refine⟨⟨_,by rw[Zn (Ne.symm hpl)];exact Zc⟩,?_⟩;refine ZaY (ps.map U.ref) (fun k ρ A2=>∃(B:AHp)(ks:List Str)(x2 x3:Option U),ρ=[some (.ref a),some (.ref p),x2,x3]/\A2=updA B p (tS P w ks)/\B p=none/\Ext (updA A l (.lst (ps.map U.ref))) B/\ZrA ks ((r.kids.take k).map Rl.nms).flatten ((r.kids.take k).map Rl.nms).flatten.length) ⟨_,[],_,_,rfl,rfl,hp0,Ext.refl _,⟨List.nodup_nil,fun z=>by simp,by simp⟩⟩ (fun k ρ A2 _ hq0=>by obtain⟨B,ks,_,_,_,e,hBp,eB,_⟩:=hq0;rw[e,Zn (Ne.symm hpl)];exact eB _ _ Zc) ?_ ?_
 .rintro k u ρ A2 hu ⟨B,ks,x2,x3,rfl,rfl,hBp,eB,hks⟩;obtain⟨b,hb,rfl⟩:=Z7 hu;obtain⟨x,hx,hbx⟩:=hps.get hb;have hbA:RlO cS A b x:=RlO.drop hbx;have hxm:=Yk hx;have hxd:=Rl.kids_dep hxm;have hnx:=x.nms_len;have hnr:=r.nms_len;have hds:=Zdd Rl.nms r.kids k;rw[<- Rl.nms_kids hc]at hds;walk_at "d";refine ZcN (hbA.ext (((Ext.new hl0).trans eB).trans (Ext.new hBp))) (by lia) (by lia) fun B2 l2 zs e2 hl2 hB2 nm=>?_;have hnl:=nm.len;have hlp:l2≠p:=fun e=>by rw[e,Zc]at hl2;cases hl2
  have hB2p:B2 p=some (tS P w ks):=e2 _ _ Zc;walk_at "d";refine⟨⟨_,hB2⟩,?_⟩;refine ZaY (zs.map U.str) (fun j ρ A3=>∃(ks:List Str)(x3:Option U),ρ=[some (.ref a),some (.ref p),some (.ref b),x3]/\A3=updA (rmA B2 p) p (tS P w ks)/\ZrA ks (((r.kids.take k).map Rl.nms).flatten++zs.take j) (((r.kids.take k).map Rl.nms).flatten.length+j)) ⟨ks,_,rfl,(ZnK hB2p).symm,⟨hks.nd,fun z=>by rw[List.take_zero,YN];exact hks.mem z,hks.len⟩⟩ (fun j ρ A3 _ hq0=>by obtain⟨ks,_,_,e,_⟩:=hq0;rw[e,Zn hlp,ZmG hlp];exact hB2) ?_ ?_
  .rintro j u ρ A3 hu ⟨ks,x3,rfl,rfl,hk2⟩;obtain⟨z,hz,rfl⟩:=Z7 hu;have hjl:=(Yh.mp hz).1;have hkl:=hk2.len;walk_at "d";refine⟨p,ks,rfl,Zc,z,ks,rfl,Zc,by show ks.length+1<4096;lia,ZdJ ks z,_,rfl,ZK,?_⟩;have:=hk2.add (z:=z);rw[Ya1,show zs.take j++[z]=zs.take (j+1)from by rw[List.take_succ_eq_append_getElem hjl];rw[(Yh.mp hz).2]]at this;exact this
  .rintro ρ A3 ⟨ks,x3,rfl,rfl,hk2⟩;rw[Yc,YZ]at hk2;walk_at "d";refine⟨rmA B2 p,ks,_,_,rfl,rfl,Zrd,Zo0 (eB.trans ((Ext.new hBp).trans e2)) hp0,?_⟩;rw[Zc1 hx];exact⟨hk2.nd,fun z=>by rw[hk2.mem,Yz,Yz,nm.mem],by have:=hk2.len;rw[Ys];lia⟩
 .rintro ρ A2 ⟨B,ks,x2,x3,rfl,rfl,hBp,eB,hks⟩;have hkl:ps.length=r.kids.length:=hps.len;rw[Yc,hkl,YZ,<- Rl.nms_kids hc]at hks;have hnr:=r.nms_len;have hlen:=hks.len;walk_at "d";refine⟨ks,Zc,by lia,fun D zs hD hpm hso=>fg (q _ D zs (((Ext.new hl0).trans eB).trans ((Ext.new hBp).trans (Ext.new hD))) (Zgy (((Ext.new hl0).trans eB).trans (Ext.new hBp)) hD) Zc ⟨hso,hpm.nodup_iff.mpr hks.nd,fun z=>by rw[hpm.mem_iff];exact hks.mem z,by rw[hpm.length_eq];exact hlen⟩)⟩
def ZgM(n:Nat):MOk P w K mg base CX0 (n+2) "names" ((ZlS cS (ZaJ cS n)).map fun p=>(p.1,Zar K p.2)):=by
 have hz:∀i us A Q,¬ZaJ cS 0 i us A Q:=fun i us A Q hq0=>by obtain⟨_,r,_,_,_,h,_⟩:=hq0;have:=r.dep_pos;lia
 have go:∀ {k m:Nat} (g0:∀i,i≠2->T.F_qz.Ok CX0 (k) (Zar K (ZaJ cS m i))) (g2:T.F_qq.Ok CX0 (k) (Zar K (ZaJ cS m 2))),MOk P w K mg base CX0 k "names" ((ZlS cS (ZaJ cS m)).map fun p=>(p.1,Zar K p.2)):=fun g0 g2=>by
  refine ZvA fun i hi=>?_;rcases i with _|i
  .exact⟨_,_,_,T.L_Nothing,T.W_Nothing_names,g0 0 (by decide),T.F_qz.b⟩
  rcases i with _|i
  .exact⟨_,_,_,T.L_Bead,T.W_Bead_names,g0 1 (by decide),T.F_qz.b⟩
  rcases i with _|i
  .exact⟨_,_,_,T.L_Named,T.W_qq,g2,T.F_qq.b⟩
  rcases i with _|i
  .exact⟨_,_,_,T.L_Or,T.W_Or_names,g0 3 (by decide),T.F_qz.b⟩
  rcases i with _|i
  .exact⟨_,_,_,T.L_By,T.W_By_names,g0 4 (by decide),T.F_qz.b⟩
  rcases i with _|i
  .exact⟨_,_,_,T.L_Row,T.W_Row_names,g0 5 (by decide),T.F_qz.b⟩
  rcases i with _|i
  .exact⟨_,_,_,T.L_Bag,T.W_Bag_names,g0 6 (by decide),T.F_qz.b⟩
  rcases i with _|i
  .exact⟨_,_,_,T.L_Choice,T.W_Choice_names,g0 7 (by decide),T.F_qz.b⟩
  rcases i with _|i
  .exact⟨_,_,_,T.L_Ring,T.W_Ring_names,g0 8 (by decide),T.F_qz.b⟩
  lia
 induction n with
 | zero=>exact go (fun i _=>Za7 T.F_qz.f T.F_qz.s (hz i)) ((Zfg T).mono (by lia))
 | succ n ih=>exact go (fun i hi=>((Zlo T ih).imp (Zgc fun us A Q ⟨a,r,e,hr,hc,h⟩=>⟨a,r,e,hr,by rw[hc];exact hi,h⟩)).mono (by lia)) ((Zfg T).mono (by lia))
end
def Ze7(P:Program)(w:World)(cs:Nat->Addr)(n:Nat):ASp:=fun us A Q=>∃(a d:Addr)(r:Rl)(ep:Nat)(ns:List Str)(e:Str->On),us=[.ref a,.ref d]/\RlO cs A a r/\r.dep<=n/\(∀z∈r.nms,z∈ns)/\A d=some (dS P w ep (Zfa ns e))/\∀B,Ext A B->Q (oU (r.lst e)) B
def ZpG:∀us A Q,¬Ze7 P w cs 0 us A Q:=fun us A Q hq0=>by obtain⟨_,_,r,_,_,_,_,_,h,_⟩:=hq0;have:=r.dep_pos;lia
section
include T
def Zes(n:Nat):T.F_j6.Ok CX0 (n+3) (Zar K (Ze7 P w cS n)):=by
 have HD_inside:=Zb3 T;induction n with
 | zero=>exact Za7 T.F_j6.f T.F_j6.s ZpG
 | succ n G_j6 =>
  apply T.F_j6.okA;walk_at "f";exact fun S hr=>⟨_,(Ze (ZQ (Za8 (Zac ZjF T.n_isinstance (Zb (pv 0) (Zb (Zan (v:=.ref _) (by rfl) T.m_Named rfl) Zg)))) (Zh (Zt (ZI ZbN (pv 1) (Z4 (pv 0) rfl) (fun _ _=>rfl)))) Zz)
   (Ze (ZQ (Za8 (Zac ZjF T.n_isinstance (Zb (pv 0) (Zb (Zan (v:=.ref _) (by rfl) T.m_Bead rfl) Zg)))) (Zh (Zt Zl)) Zz)
   (Ze (ZQ (Za8 (Zac Zmw T.n_isinstance (Zb (pv 0) (Zb (ZW (Zb (Zan (v:=.ref _) (by rfl) T.m_Nothing rfl) (Zb (Zan (v:=.ref _) (by rfl) T.m_Row rfl) (Zb (Zan (v:=.ref _) (by rfl) T.m_Bag rfl) (Zb (Zan (v:=.ref _) (by rfl) T.m_Choice rfl) Zg))))) Zg)))) (Zh (Zt Zl)) Zz)
   (Ze (Zek (i:=2) S.nd rfl (Or.inl rfl) (by with_unfolding_all rfl) (ts:=["part"]) (frs':=[("leasts",1)]) (cl:=_) rfl ⟨(by rfl),rfl,(by decide +kernel),(by decide +kernel),(ZB (by rfl) ZJ),(Zal (by rfl) (by rfl)),(ZB ⟨(by rfl),(by first|exact .inl rfl|exact .inr rfl),(by first|exact .inl rfl|exact .inr rfl),(by rfl)⟩ ZJ)⟩ (Zab (ZaD (pv 0) HD_inside.mn hr Zbs)) (fun _ _ _ _=>Zq (i:=0) (show List.Nodup (["part","leasts"]:List Str)from by decide +kernel) rfl (Or.inl rfl) (.inr rfl)) (fun _ _ _ _=>Zak) (fun _ _ _ _=>by exact(T.F_j6.pc G_j6 hr (Zb (pv 0) (Zb (pv 1) Zg)))))
   (Ze (ZQ (Za8 (Zac ZjF T.n_isinstance (Zb (pv 0) (Zb (Zan (v:=.ref _) (by rfl) T.m_Or rfl) Zg)))) (Zh (Zt (Zf5 K rfl rfl (by rfl) T.n_min (Za3 (ts:=["least"]) (frs':=[]) (cl:=[]) rfl ⟨rfl,rfl,(by decide +kernel),(by decide +kernel),(fun _ z=>nomatch z),(ZaW rfl rfl),(fun _ z=>nomatch z)⟩ (Zab (pv 2)) (fun _ _ _ _=>Zq (i:=0) nd1 rfl (Or.inl rfl) (.inr rfl)) (fun _ _ _ _=>(ZbF (Zp ZfQ (pv 0) Zb6 (ZE _)))) (fun _ _ _ _=>by exact(pv 0)))))) Zz)
   (Ze (ZQ (Zp (ZtN hr) Zb6 (pv 2) (by with_unfolding_all rfl)) (Zh (Zt Zb6)) Zz)
   (Zh (Zt (Zac (ZuO rfl) T.n_sum (Zb (pv 2) Zg)))))))))),(Zj (ZT (ZbP (ZY Zfn (Zd Za (Zd ZaK Zf)))) (Zs (Zk ZaZ Za (Z5 Za))) Zy)
   (Zj (ZT (ZbP (ZY Zfn (Zd Za (Zd ZaK Zf)))) (Zs Zm) Zy)
   (Zj (ZT (ZbP (ZY Zjb (Zd Za (Zd (ZV (Zd ZaK (Zd ZaK (Zd ZaK (Zd ZaK Zf))))) Zf)))) (Zs Zm) Zy)
   (Zj (Zu (Zaz (ZO ZR (ZaU Za Zf)) Zi ZaB (Zw (Zd Za (Zd Za Zf)))) Zi)
   (Zj (ZT (ZbP (ZY Zfn (Zd Za (Zd ZaK Zf)))) (Zs (Zgp (Zaz (ZO ZR Za) Zi (Zo (Zk ZfF Za Zca)) Za))) Zy)
   (Zj (ZT (Zo (Zk Zm0 Zca Za)) (Zs Zca) Zy)
   (Zs (ZY Zpz (Zd Za Zf)))))))))⟩
  rintro us A Q ⟨a,d,r,ep,ns,e,rfl,hr,hd,hn,hA,q⟩;walk_at "o";obtain⟨dx,fs,ha,hx⟩:=hr.cls Zbz;by_cases h2:r.ci=2
  .refine Zbu (fun B hB=>?_) ?_
   .walk_at "d";exact⟨a,_,dx,fs,_,_,rfl,ha,T.IT.yes (Zhs T) (j:=2) r.ci_lt (by decide) h2,hB⟩
   obtain⟨z,rfl⟩:=Rl.ci2 h2;obtain⟨dx,ha⟩:=hr;walk_at "d";exact⟨a,_,dx,_,_,rfl,ha,T.L_Named,T.N_Named_name,lkp,_,_,_,_,_,rfl,rfl,hA,ZeP (hn z (.head _)),fg (q A (Ext.refl A))⟩
  refine Zbc (fun B hB=>?_) ?_
  .walk_at "d";exact⟨a,_,dx,fs,_,_,rfl,ha,T.IT.no (Zhs T) (j:=2) r.ci_lt (by decide) h2,hB⟩
  walk_at "d";by_cases h1:r.ci=1
  .refine Zbu (fun B hB=>?_) ?_
   .walk_at "d";exact⟨a,_,dx,fs,_,_,rfl,ha,T.IT.yes (Zhs T) (j:=1) r.ci_lt (by decide) h1,hB⟩
   obtain⟨z,rfl⟩:=Rl.ci1 h1;walk_at "d";exact fg (q A (Ext.refl A))
  refine Zbc (fun B hB=>?_) ?_
  .walk_at "d";exact⟨a,_,dx,fs,_,_,rfl,ha,T.IT.no (Zhs T) (j:=1) r.ci_lt (by decide) h1,hB⟩
  walk_at "d";have h4:=T.IT.isN (Zhs T) (i:=r.ci) r.ci_lt [0,5,6,7] (by decide);refine Zcl ([0,5,6,7].any (r.ci==·)) (fun B hB=>?_) ?_
  .walk_at "d";exact⟨Zbk,a,_,dx,fs,[ZaC,ZcC,ZcB,Zav],_,rfl,ha,h4,hB⟩
  by_cases h0:[0,5,6,7].any (r.ci==·)=true
  .refine ZX h0 ?_;walk_at "d";have e0:r.lst e=some 0:=by
    cases r with
    | nothing=>rfl
    | hold k x=>exact if_pos (by simp[Rl.ci]at h0;lia)
    | _=>simp[Rl.ci]at h0
   rw[e0]at q;exact fg (q A (Ext.refl A))
  refine ZA (by simpa using h0) ?_;walk_at "d";refine Zgj hr fun l0 ps hl0 hps=>?_;have hd0:d≠l0:=neA hA hl0;walk_at "d";refine⟨⟨_,Zc⟩,fun l hl=>?_⟩;walk_at "c";have hkl:ps.length=r.kids.length:=hps.len;refine Zc2 (ps.map U.ref) (fun _=>true) (fun k=>oU ((r.kids[k]?.getD .nothing).lst e)) (fun τ=>∃x,τ=[x,some (.ref d)]) ⟨_,rfl⟩ hl (by rw[Yc,hkl];exact YB r.kids_len (by decide)) (fun k A2 _ e2=>⟨_,e2 _ _ Zc,rfl⟩) ?_ ?_
  .rintro k u τ A2 hu ⟨x,rfl⟩ e2 Cy Cn hy _;obtain⟨b,hb,rfl⟩:=Z7 hu;obtain⟨y,hy1,hbx⟩:=hps.get hb;have hm:=Yk hy1;have hyd:=Rl.kids_dep hm;walk_at "d";refine⟨b,d,y,ep,ns,e,rfl,hbx.ext ((Ext.new hl0).trans e2),by lia,fun z hz=>hn z (Rl.kid_nms hm hz),e2 _ _ ((Ext.new hl0) _ _ hA),fun B eB=>?_⟩;have:=hy rfl [some (.ref b),some (.ref d)] B ⟨_,rfl⟩ eB;rw[hy1]at this;exact this
  intro B eB hBl;have hW:((List.range (ps.map U.ref).length).filter fun _=>true).map (fun k=>oU ((r.kids[k]?.getD .nothing).lst e))=r.kids.map fun y=>oU (y.lst e):=by
   rw[Ybb.mpr fun _ _=>rfl,Yc,hkl];exact Zer (fun y=>oU (Rl.lst e y)) r.kids .nothing
  rw[hW];have eB1:Ext A (updA B l (.lst (r.kids.map fun y=>oU (y.lst e)))):=((Ext.new hl0).trans eB).trans (Ext.new hBl);have hL:updA B l (.lst (r.kids.map fun y=>oU (y.lst e))) l=some (.lst (r.kids.map fun y=>oU (y.lst e))):=Zc;generalize updA B l (.lst (r.kids.map fun y=>oU (y.lst e)))=B1 at eB1 hL ⊢;clear hW hBl eB;by_cases h3:r.ci=3
  .refine Zbu (fun B hB=>?_) ?_
   .walk_at "d";exact⟨a,_,dx,fs,_,_,rfl,eB1 _ _ ha,T.IT.yes (Zhs T) (j:=3) r.ci_lt (by decide) h3,hB⟩
   obtain⟨x,y,rfl⟩:=Rl.ci3 h3;walk_at "d";refine⟨⟨_,hL⟩,fun l2 hl2=>?_⟩;walk_at "c";exact Zgh hl2 (fun k A2 _ e2=>⟨_,e2 _ _ hL,rfl⟩) fun B eB=>fg (q B (eB1.trans eB))
  refine Zbc (fun B hB=>?_) ?_
  .walk_at "d";exact⟨a,_,dx,fs,_,_,rfl,eB1 _ _ ha,T.IT.no (Zhs T) (j:=3) r.ci_lt (by decide) h3,hB⟩
  walk_at "d";have eS:r.lst e=Zl5 (r.kids.map fun y=>y.lst e):=by
   cases r with
   | by_ x y=>simp only[Rl.lst,Rl.kids,Yq,YaV,Zl5,List.foldr_cons,List.foldr_nil];cases y.lst e<;>rfl
   | hold k x =>
    have hk:¬k<3:=fun hk=>h0 (by simp[Rl.ci];lia);simp only[Rl.lst,hk,Yal,Rl.kids,Yq,YaV,Zl5,List.foldr_cons,List.foldr_nil];cases x.lst e<;>rfl
   | named z=>exact absurd rfl h2
   | bead z=>exact absurd rfl h1
   | nothing=>exact absurd rfl h0
   | or x y=>exact absurd rfl h3
  rw[show(r.kids.map fun y=>oU (y.lst e))=(r.kids.map fun y=>y.lst e).map oU from by rw[Yai];rfl]at hL;rw[eS]at q;generalize(r.kids.map fun y=>y.lst e)=vs at hL q;refine Zcl (vs.any (·.isNone)) (fun B hB=>?_) ?_
  .walk_at "d";exact Zo2 hL ⟨_,rfl,hB⟩
  cases hv:vs.any (·.isNone)with
  | true =>
   rw[Zf0 hv]at q;refine ZX rfl ?_;walk_at "d";exact fg (q B1 eB1)
  | false =>
   obtain⟨ms,e1,e2⟩:=ZgE hv;rw[e2]at q;rw[e1]at hL;refine ZA rfl ?_;walk_at "d";exact⟨ms,hL,fg (q B1 eB1)⟩
end
def ZlN(P:Program)(w:World)(cs:Nat->Addr)(n:Nat):ASp:=fun us A Q=>∃(a d:Addr)(r:Rl)(ep:Nat)(ns:List Str)(e:Str->On),us=[.ref a,.ref d]/\RlO cs A a r/\r.dep<=n/\(∀z∈r.nms,z∈ns)/\A d=some (dS P w ep (Zfa ns e))/\∀B,Ext A B->Q (.bl (r.hp e)) B
def hp0:∀us A Q,¬ZlN P w cs 0 us A Q:=fun us A Q hq0=>by obtain⟨_,_,r,_,_,_,_,_,h,_⟩:=hq0;have:=r.dep_pos;lia
section
include T
def Zof(k:Nat):ZaE K (cS (5+min k 3)) "part":=by
 rcases k with _|_|_|k
 .exact T.N_Row_part
 .exact T.N_Bag_part
 .exact T.N_Choice_part
 .rw[Nat.min_eq_right (by lia)];exact T.N_Ring_part
def ZsY(n:Nat):T.F_q3.Ok CX0 (n+4) (Zar K (ZlN P w cS n)):=by
 have HD_inside:=Zb3 T
 induction n with
 | zero=>exact Za7 T.F_q3.f T.F_q3.s hp0
 | succ n G_q3 =>
  have G_j6:=Zes T (n+1)
  apply T.F_q3.okA
  walk_at "f"
  exact fun S hr=>⟨_,(Ze (ZQ ((Zcz (Za8 (Zac Zmw T.n_isinstance (Zb (pv 0) (Zb (ZW (Zb (Zan (v:=.ref _) (by rfl) T.m_Row rfl) (Zb (Zan (v:=.ref _) (by rfl) T.m_Bag rfl) (Zb (Zan (v:=.ref _) (by rfl) T.m_Choice rfl) (Zb (Zan (v:=.ref _) (by rfl) T.m_Ring rfl) Zg))))) Zg)))) (ZbO (Zp Zh0 (T.F_j6.pc G_j6 hr (Zb (Z4 (pv 0) rfl) (Zb (pv 1) Zg))) Zl (ZE _))))).pt (Zh (Zt Zda)) Zz)
   (Zh (Zt (Zac (Zgm rfl) T.n_any (Zb (Za3 (ts:=["part"]) (frs':=[("leasts",1)]) (cl:=_) rfl ⟨(by rfl),rfl,(by decide +kernel),(by decide +kernel),(ZB (by rfl) ZJ),(Zal (by rfl) (by rfl)),(ZB ⟨(by rfl),(by first|exact .inl rfl|exact .inr rfl),(by first|exact .inl rfl|exact .inr rfl),(by rfl)⟩ ZJ)⟩ (Zab (ZaD (pv 0) HD_inside.mn hr Zbs)) (fun _ _ _ _=>Zq (i:=0) (show List.Nodup (["part","leasts"]:List Str)from by decide +kernel) rfl (Or.inl rfl) (.inr rfl)) (fun _ _ _ _=>Zak) (fun _ _ _ _=>by exact(T.F_q3.pc G_q3 hr (Zb (pv 0) (Zb (pv 1) Zg))))) Zg))))),(Zj (ZT (Zcy (ZbP (ZY Zjb (Zd Za (Zd (ZV (Zd ZaK (Zd ZaK (Zd ZaK (Zd ZaK Zf))))) Zf)))) (Zo (Zk ZeV (Zw (Zd (Z5 Za) (Zd Za Zf))) Zm))) (Zs Zdj) Zy)
   (Zs (ZY ZmJ (Zd (Zaz (ZO ZR (ZaU Za Zf)) Zi ZaB (Zw (Zd Za (Zd Za Zf)))) Zf))))⟩
  rintro us A Q ⟨a,d,r,ep,ns,e,rfl,hr,hd,hn,hA,q⟩
  walk_at "o"
  obtain⟨dx,fs,ha,hx⟩:=hr.cls Zbz
  have h4:=T.IT.isN (Zhs T) (i:=r.ci) r.ci_lt [5,6,7,8] (by decide)
  refine Zka (r.hp1 e) (fun B hB=>?_) fun B eB=>?_
  .walk_at "d"
   refine⟨Zbk,a,_,dx,fs,[ZcC,ZcB,Zav,Zbv],_,rfl,ha,h4,?_⟩
   cases r with
   | hold k x =>
    obtain⟨dx,p,ha,hp⟩:=hr
    refine ZX (by simp[Rl.ci];lia) ⟨a,_,dx,_,_,rfl,ha,Zhs T _ (ZbT (by show 5+min k 3<9;lia)),Zof T k,lkp,p,d,x,ep,ns,e,rfl,hp,by simp only[Rl.dep]at hd;lia,hn,hA,fun B1 e1=>eq0 ⟨_,rfl,hB B1 e1⟩⟩
   | _=>exact ZA rfl (hB A (Ext.refl A))
  rw[r.hp_kids]at q
  cases hk:r.hp1 e with
  | true =>
   refine ZX rfl ?_
   walk_at "d"
   rw[hk,Bool.true_or]at q
   exact fg (q B eB)
  | false =>
  refine ZA rfl ?_
  rw[hk,Bool.false_or]at q
  walk_at "d"
  refine Zgj (hr.ext eB) fun l0 ps hl0 hps=>?_
  walk_at "d"
  refine⟨⟨_,Zc⟩,fun l hl=>?_⟩
  walk_at "c"
  have hkl:ps.length=r.kids.length:=hps.len
  refine Zc2 (ps.map U.ref) (fun _=>true) (fun k=>.bl ((r.kids[k]?.getD .nothing).hp e)) (fun τ=>∃x,τ=[x,some (.ref d)]) ⟨_,rfl⟩ hl (by rw[Yc,hkl];exact YB r.kids_len (by decide)) (fun k A2 _ e2=>⟨_,e2 _ _ Zc,rfl⟩) ?_ ?_
  .rintro k u τ A2 hu ⟨x,rfl⟩ e2 Cy Cn hy _
   obtain⟨b,hb,rfl⟩:=Z7 hu
   obtain⟨y,hy1,hbx⟩:=hps.get hb
   have hm:=Yk hy1
   have hyd:=Rl.kids_dep hm
   walk_at "d"
   refine⟨b,d,y,ep,ns,e,rfl,hbx.ext ((Ext.new hl0).trans e2),by lia,fun z hz=>hn z (Rl.kid_nms hm hz),e2 _ _ ((Ext.new hl0) _ _ (eB _ _ hA)),fun B eB=>?_⟩
   have:=hy rfl [some (.ref b),some (.ref d)] B ⟨_,rfl⟩ eB
   rw[hy1]at this
   exact this
  intro B1 eB1 hBl
  have hW:((List.range (ps.map U.ref).length).filter fun _=>true).map (fun k=>U.bl ((r.kids[k]?.getD .nothing).hp e))=(r.kids.map fun y=>y.hp e).map U.bl:=by
   rw[Ybb.mpr fun _ _=>rfl,Yc,hkl,Yai]
   exact Zer (fun y=>U.bl (Rl.hp e y)) r.kids .nothing
  rw[hW]
  walk_at "d"
  exact⟨_,Zc,fg (q _ (((eB.trans (Ext.new hl0)).trans eB1).trans (Ext.new hBl)))⟩
end
def Zcp(e:Str->On):Rl->List Rl
 | .by_ x y=>(if y.lst e=some 0 then[x]else[])++(if x.lst e=some 0 then[y]else[])
 | r=>r.kids
def Zjl(h:x∈Zcp e r):x∈r.kids:=by
 cases r with
 | by_ a b =>
  rcases Yz.mp h with h|h
  .split at h
   .rw[Yp.mp h];exact .head _
   .cases h
  .split at h
   .rw[Yp.mp h];exact .tail _ (.head _)
   .cases h
 | _=>exact h
def ZdA(h:r.ci≠2):r.lean e=((Zcp e r).map fun x=>x.lean e).flatten:=by
 cases r with
 | by_ x y =>
  simp only[Rl.lean,Zcp];split<;>split<;>simp
 | named z=>exact absurd rfl h
 | _=>simp[Rl.lean,Zcp,Rl.kids]
def Zuc(g1:RlO cs B p1 x)(g2:RlO cs B p2 y):Zfq cs B ((if y.lst e=some 0 then[p1]else[])++(if x.lst e=some 0 then[p2]else[])) (Zcp e (.by_ x y)):=by
 simp only[Zcp];by_cases k1:y.lst e=some 0<;>by_cases k2:x.lst e=some 0<;>simp only[k1,k2,if_true,Yal,List.nil_append,YN,List.cons_append]
 .exact⟨g1,g2,trivial⟩
 .exact⟨g1,trivial⟩
 .exact⟨g2,trivial⟩
 .trivial
def RlO.kp(key:∀ {a C dx:Addr} {fs:List (Str×U)},A a=some (.ins C dx fs)->B a=some (.ins C dx fs)):∀ {a:Addr} {r:Rl},RlO cs A a r->RlO cs B a r:=by
 intro a r;induction r generalizing a with
 | nothing=>exact fun⟨dx,h⟩=>⟨dx,key h⟩
 | bead c=>exact fun⟨dx,h⟩=>⟨dx,key h⟩
 | named c=>exact fun⟨dx,h⟩=>⟨dx,key h⟩
 | or x y ih1 ih2=>exact fun⟨dx,p,q,h,h1,h2⟩=>⟨dx,p,q,key h,ih1 h1,ih2 h2⟩
 | by_ x y ih1 ih2=>exact fun⟨dx,p,q,h,h1,h2⟩=>⟨dx,p,q,key h,ih1 h1,ih2 h2⟩
 | hold k x ih=>exact fun⟨dx,p,h,h1⟩=>⟨dx,p,key h,ih h1⟩
def ZgZ(P:Program)(w:World)(cs:Nat->Addr)(n:Nat):ASp:=fun us A Q=>∃(a d:Addr)(r:Rl)(ep:Nat)(ns:List Str)(e:Str->On),us=[.ref a,.ref d]/\RlO cs A a r/\r.dep<=n/\(∀z∈r.nms,z∈ns)/\A d=some (dS P w ep (Zfa ns e))/\∀B l ps,Ext A B->A l=none->B l=some (.lst (List.map U.ref ps))->Zfq cs B ps (Zcp e r)->Q (.ref l) B
def Zga(P:Program)(w:World)(cs:Nat->Addr)(n:Nat):ASp:=fun us A Q=>∃(a d:Addr)(r:Rl)(ep:Nat)(ns:List Str)(e:Str->On),us=[.ref a,.ref d]/\RlO cs A a r/\r.dep<=n/\r.size<=60/\(∀z∈r.nms,z∈ns)/\A d=some (dS P w ep (Zfa ns e))/\∀B l,Ext A B->A l=none->B l=some (.lst ((r.lean e).map U.str))->Q (.ref l) B
def Zti:∀us A Q,¬Zga P w cs 0 us A Q:=fun us A Q hq0=>by obtain⟨_,_,r,_,_,_,_,_,h,_⟩:=hq0;have:=r.dep_pos;lia
section
include T
def Zh9(n:Nat):T.F_qc.Ok CX0 (n+4) (Zar K (ZgZ P w cS n)):=by
 have HD_inside:=Zb3 T;have G_j6:=Zes T n;apply T.F_qc.okA;walk_at "f";exact fun S hr=>⟨_,(Ze (ZQ (Zjw (Za8 (Zac ZjF T.n_isinstance (Zb (pv 0) (Zb (Zan (v:=.ref _) (by rfl) T.m_By rfl) Zg))))) (Zh (Zt (ZaD (pv 0) HD_inside.mn hr Zbs))) Zz)
   (Ze (ZC (i:=2) S.nd rfl (Or.inl rfl) (Z0 (Zb (ZW (Zb (Z4 (pv 0) rfl) (Zb (Z4 (pv 0) rfl) Zg))) (Zb (ZW (Zb (Z4 (pv 0) rfl) (Zb (Z4 (pv 0) rfl) Zg))) Zg))))
   (Zh (Zt (Za3 (ts:=["part","beside"]) (frs':=[("leasts",1)]) (cl:=_) rfl ⟨(by rfl),rfl,(by decide +kernel),(by decide +kernel),(ZB (by rfl) ZJ),(Zal (by rfl) (by rfl)),(ZB ⟨(by rfl),(by first|exact .inl rfl|exact .inr rfl),(by first|exact .inl rfl|exact .inr rfl),(by rfl)⟩ ZJ)⟩ (Zab (pv 2)) (fun _ _ _ _=>Zcs K rfl 2 rfl (ZG (Zq (i:=0) (show List.Nodup (["part","beside","leasts"]:List Str)from by decide +kernel) rfl (Or.inl rfl) (.inr rfl)) (ZG (Zq (i:=1) (show List.Nodup (["part","beside","leasts"]:List Str)from by decide +kernel) rfl (Or.inl rfl) (.inr rfl)) Zax)) (by rfl) (by rfl)) (fun _ _ _ _=>(ZbF (Zp Zh0 (T.F_j6.pc G_j6 hr (Zb (pv 1) (Zb (pv 2) Zg))) Zl (ZE _)))) (fun _ _ _ _=>by exact(pv 0))))))),(Zj (ZT (ZjC (ZbP (ZY Zfn (Zd Za (Zd ZaK Zf))))) (Zs (ZaU Za Zf)) Zy)
   (Zj (Zu (ZZ (Zd (ZV (Zd (Z5 Za) (Zd (Z5 Za) Zf))) (Zd (ZV (Zd (Z5 Za) (Zd (Z5 Za) Zf))) Zf))) Zi)
   (Zs (Zaz (ZO ZR Za) (Zaw (ZH Zi (ZH Zi Zay))) (Zo (Zk ZeV (Zw (Zd Za (Zd Za Zf))) Zm)) Za))))⟩
 rintro us A Q ⟨a,d,r,ep,ns,e,rfl,hr,hd,hn,hA,q⟩;walk_at "o";obtain⟨dx,fs,ha,hx⟩:=hr.cls Zbz;by_cases h4:r.ci=4
 .refine Zbc (fun B hB=>?_) ?_
  .walk_at "d";exact⟨a,_,dx,fs,_,_,rfl,ha,T.IT.yes (Zhs T) (j:=4) r.ci_lt (by decide) h4,hB⟩
  obtain⟨x,y,rfl⟩:=Rl.ci4 h4;obtain⟨dx,p1,p2,ha,h1,h2⟩:=hr;simp only[Rl.dep]at hd;walk_at "d";refine⟨a,_,dx,_,_,rfl,ha,T.L_By,T.N_By_one,lk1,a,_,dx,_,_,rfl,ha,T.L_By,T.N_By_other,lk2 (by decide +kernel),Zcw,a,_,dx,_,_,rfl,ha,T.L_By,T.N_By_other,lk2 (by decide +kernel),a,_,dx,_,_,rfl,ha,T.L_By,T.N_By_one,lk1,Zcw,Zcw,fun l0 hl0=>?_⟩;walk_at "d";refine⟨⟨_,Zc⟩,fun l hl=>?_⟩;walk_at "c";refine Zc2 [.tup [.ref p1,.ref p2],.tup [.ref p2,.ref p1]] (fun k=>if k=0 then decide (y.lst e=some 0)else decide (x.lst e=some 0)) (fun k=>if k=0 then .ref p1 else .ref p2) (fun τ=>∃u v,τ=[u,v,some (.ref d)]) ⟨_,_,rfl⟩ hl (show 2<=100000 by decide) (fun k A2 _ e2=>⟨_,e2 _ _ Zc,rfl⟩) ?_ ?_
  .rintro k u τ A2 hu ⟨u1,u2,rfl⟩ e2 Cy Cn hy hno;have eA:Ext A A2:=(Ext.new hl0).trans e2;rcases k with _|_|k
   .obtain rfl:=YE hu;walk_at "d";exact⟨rfl,p2,d,y,ep,ns,e,rfl,h2.ext eA,by lia,fun z hz=>hn z (Yx _ hz),eA _ _ hA,fun B1 e1=>eq0 ⟨_,rfl,ZhL (fun h=>hy h _ B1 ⟨_,_,rfl⟩ e1) fun h=>hno h _ B1 ⟨_,_,rfl⟩ e1⟩⟩
   .obtain rfl:=YE hu;walk_at "d";exact⟨rfl,p1,d,x,ep,ns,e,rfl,h1.ext eA,by lia,fun z hz=>hn z (Y7 _ hz),eA _ _ hA,fun B1 e1=>eq0 ⟨_,rfl,ZhL (fun h=>hy h _ B1 ⟨_,_,rfl⟩ e1) fun h=>hno h _ B1 ⟨_,_,rfl⟩ e1⟩⟩
   .cases hu
  intro B eB hBl;have eQ:Ext A (updA B l (.lst (((List.range 2).filter fun k=>if k=0 then decide (y.lst e=some 0)else decide (x.lst e=some 0)).map fun k=>if k=0 then U.ref p1 else .ref p2))):=((Ext.new hl0).trans eB).trans (Ext.new hBl);refine fg (q _ l ((if y.lst e=some 0 then[p1]else[])++(if x.lst e=some 0 then[p2]else[])) eQ (Za2 (Ext.new hl0) hl) ?_ ?_)
  .rw[Zc];show some (AO.lst (List.map _ (List.filter _ [0,1])))=_;by_cases g1:y.lst e=some 0<;>by_cases g2:x.lst e=some 0<;>simp[g1,g2]
  .exact Zuc (h1.ext eQ) (h2.ext eQ)
 .refine Zbu (fun B hB=>?_) ?_
  .walk_at "d";exact⟨a,_,dx,fs,_,_,rfl,ha,T.IT.no (Zhs T) (j:=4) r.ci_lt (by decide) h4,hB⟩
  walk_at "d";refine Zgj hr fun l0 ps hl0 hps=>fg (q _ l0 ps (Ext.new hl0) hl0 Zc ?_);rw[show Zcp e r=r.kids from by cases r<;>first|rfl|exact absurd rfl h4];exact hps.ext (Ext.new hl0)
def Zn7(n:Nat):T.F_qi.Ok CX0 (n+5) (Zar K (Zga P w cS n)):=by
 induction n with
 | zero=>exact Za7 T.F_qi.f T.F_qi.s Zti
 | succ n G_qi =>
  have G_qc:=Zh9 T (n+1);apply T.F_qi.okA;walk_at "f";exact fun S hr=>⟨_,(Ze (ZQ (Za8 (Zac ZjF T.n_isinstance (Zb (pv 0) (Zb (Zan (v:=.ref _) (by rfl) T.m_Named rfl) Zg)))) (Zh (Zt (Z0 (Zb (Z4 (pv 0) rfl) Zg)))) Zz)
   (Ze (ZC (i:=2) S.nd rfl (Or.inl rfl) (Z0 Zg))
   (Ze (Zae YA rfl (Zab (T.F_qc.pc G_qc hr (Zb (pv 0) (Zb (pv 1) Zg)))) (Zq (i:=3) S.nd rfl (Or.inl rfl))
   (Zh (ZU (ZbK Yy YbG YbH Zh2 (pv 2) (Zb (T.F_qi.pc G_qi hr (Zb (pv 3) (Zb (pv 1) Zg))) Zg)))))
   (Zh (Zt (pv 2)))))),(Zj (ZT (ZbP (ZY Zfn (Zd Za (Zd ZaK Zf)))) (Zs (ZZ (Zd (Z5 Za) Zf))) Zy)
   (Zj (Zu (ZZ Zf) Zi)
   (Zj (Zag (ZO ZR (Zw (Zd Za (Zd Za Zf)))) Zi
   (Z1 (ZbJ ZP Zgo Za (Zd (Zw (Zd Za (Zd Za Zf))) Zf))))
   (Zs Za))))⟩
  rintro us A Q ⟨a,d,r,ep,ns,e,rfl,hr,hd,hs,hn,hA,q⟩;walk_at "o";obtain⟨dx,fs,ha,hx⟩:=hr.cls Zbz;by_cases h2:r.ci=2
  .refine Zbu (fun B hB=>?_) ?_
   .walk_at "d";exact⟨a,_,dx,fs,_,_,rfl,ha,T.IT.yes (Zhs T) (j:=2) r.ci_lt (by decide) h2,hB⟩
   obtain⟨z,rfl⟩:=Rl.ci2 h2;obtain⟨dx,ha⟩:=hr;walk_at "d";exact⟨a,_,dx,_,_,rfl,ha,T.L_Named,T.N_Named_name,lkp,Zky,fun l hl=>fg (q _ l (Ext.new hl) hl Zc)⟩
  refine Zbc (fun B hB=>?_) ?_
  .walk_at "d";exact⟨a,_,dx,fs,_,_,rfl,ha,T.IT.no (Zhs T) (j:=2) r.ci_lt (by decide) h2,hB⟩
  walk_at "d";refine⟨by decide,fun p hp=>?_⟩;walk_at "d";refine⟨a,d,r,ep,ns,e,rfl,hr.ext (Ext.new hp),hd,hn,Ext.new hp _ _ hA,fun B l0 ps eB hl0 hBl hps=>?_⟩;walk_at "d";refine⟨⟨_,hBl⟩,?_⟩;rw[ZdA h2]at q;have hlen:((Zcp e r).map fun x=>x.lean e).flatten.length<=60:=by rw[<- ZdA h2];exact YB r.lean_len hs
  have hpl:p≠l0:=neA Zc hl0;refine ZaY (ps.map U.ref) (fun k ρ A2=>∃(B2:AHp)(x3:Option U),ρ=[some (.ref a),some (.ref d),some (.ref p),x3]/\A2=updA B2 p (.lst ((((Zcp e r).take k).map fun x=>x.lean e).flatten.map U.str))/\B2 p=none/\Ext (rmv B p) B2) ⟨rmv B p,_,rfl,(ZiB (eB _ _ Zc)).symm,ZdR,Ext.refl _⟩ (fun k ρ A2 _ hq0=>by obtain⟨B2,_,_,e2,hB2,eB2⟩:=hq0;rw[e2,Zn (Ne.symm hpl)];exact eB2 _ _ (by rw[Zce (Ne.symm hpl)];exact hBl)) ?_ ?_
  .rintro k u ρ A2 hu ⟨B2,x3,rfl,rfl,hB2,eB2⟩;obtain⟨b,hb,rfl⟩:=Z7 hu;obtain⟨x,hx,hbx⟩:=hps.get hb;have hm:=Zjl (Yk hx);have hxd:=Rl.kids_dep hm;have e2:∀ {o:AO} {y:Addr},y≠p->B y=some o->updA B2 p (.lst ((((Zcp e r).take k).map fun x=>x.lean e).flatten.map U.str)) y=some o:=fun hy h=>by rw[Zn hy];exact eB2 _ _ (by rw[Zce hy];exact h)
   have hBp:=eB _ _ Zc;have hdp:d≠p:=neA hA hp;have hst:=Zdd (fun x:Rl=>x.lean e) (Zcp e r) k;walk_at "d";refine⟨⟨_,Zc⟩,b,d,x,ep,ns,e,rfl,RlO.kp (fun {a C dx fs} h=>e2 (fun z=>by rw[z,hBp]at h;cases h) h) hbx,by lia,by lia,fun z hz=>hn z (Rl.kid_nms hm hz),e2 hdp (eB _ _ (Ext.new hp _ _ hA)),fun B3 l3 e3 hl3 hB3=>?_⟩;walk_at "d";have hlx:=x.lean_len (e:=e);refine⟨_,_,e3 _ _ Zc,hB3,Zem (by rw[Yc,Yc];lia),rmv B3 p,_,rfl,?_,ZdR,?_⟩
   .rw[Zck,Zc1 (f:=fun x:Rl=>x.lean e) hx,Yt]
   .exact eB2.trans (Zcr ((Ext.new hB2).trans e3) hB2)
  .rintro ρ A2 ⟨B2,x3,rfl,rfl,hB2,eB2⟩;have hkl:ps.length=(Zcp e r).length:=hps.len;rw[Yc,hkl,YZ];walk_at "d";exact fg (q _ p (((Zcr ((Ext.new hp).trans eB) hp).trans eB2).trans (Ext.new hB2)) hp Zc)
end
def rbU(ps:List (Str×Addr)):List (Str×U):=ps.map fun p=>(p.1,.ref p.2)
def Zdn:(rbU ps).map (·.1)=ps.map (·.1):=by unfold rbU;rw[Yai];rfl
structure ZfH (cs:Nat->Addr) (A:AHp) (ps:List (Str×Addr)) (rs:List Rl):Prop where
 os:Zfq cs A (ps.map (·.2)) rs
 nd:(ps.map (·.1)).Nodup
 sz:∀r∈rs,r.dep<=60/\r.size<=60/\∀z∈r.nms,z∈ps.map (·.1)
 len:ps.length<=60
def ZfH.ext(h:ZfH cs A ps rs)(e:Ext A B):ZfH cs B ps rs:=⟨h.os.ext e,h.nd,h.sz,h.len⟩
def ZfH.get(h:ZfH cs A ps rs){k:Nat}(hp:ps[k]? = some p):∃r,rs[k]? = some r/\RlO cs A p.2 r/\r.dep<=60/\r.size<=60/\∀z∈r.nms,z∈ps.map (·.1):=by
 obtain⟨r,h1,h2⟩:=h.os.get (show(ps.map (·.2))[k]? = some p.2 by rw[Yi,hp];rfl);exact⟨r,h1,h2,h.sz r (Yk h1)⟩
def ZjG(P:Program)(w:World)(cs:Nat->Addr):ASp:=fun us A Q=>∃(l:Addr)(ps:List (Str×Addr))(rs:List Rl),us=[.ref l]/\A l=some (.lst (ps.map fun p=>.tup [.str p.1,.ref p.2]))/\ZfH cs A ps rs/\∀B d ep,Ext A B->A d=none->B d=some (dS P w ep (rbU ps))->Q (.ref d) B
theorem Za4{α:Type}:∀ {kus:List (Str×α)},z∈kus.map (·.1)->(kus.lookup z).isSome=true
 | (a, b)::r,h=>by
  rw[List.lookup_cons]
  by_cases e:z=a
  .rw[beq_iff_eq.mpr e];rfl
  .rw[Yv.mpr e]
   exact Za4 ((Yn.mp h).resolve_left e)
section
include T
def Zlu:T.F_qa.Ok CX0 64 (Zar K (ZjG P w cS)):=by
 have HD_names:=ZgM T 60;apply T.F_qa.okA;walk_at "f";exact fun S hr=>⟨_,(Ze (ZC (i:=1) S.nd rfl (Or.inl rfl) ZbG)
   (Ze (Zae YA rfl (Zab (pv 0)) (ZbL (n:=2) rfl (ZG (Zq (i:=2) S.nd rfl (Or.inl rfl)) (ZG (Zq (i:=3) S.nd rfl (Or.inl rfl)) Zax)))
   (Ze (ZQ (Zp Zjs (pv 2) (pv 1) (by with_unfolding_all rfl)) (Zh Zq7) Zz)
   (Zh (ZdN (pv 3) (ZdD (pv 1) (pv 2) ZdK)))))
   (Ze (Zae YA rfl (ZrJ (pv 1)) (Zq (i:=3) S.nd rfl (Or.inl rfl))
   (Zh (Zae YA rfl (Zab (ZaD (pv 3) HD_names.mn hr Zbs)) (Zq (i:=2) S.nd rfl (Or.inl rfl))
   (Zh (ZQ (Zp ZdU (pv 2) (pv 1) (by with_unfolding_all rfl)) (Zh Zq7) Zz)))))
   (Zh (Zt (pv 1)))))),(Zj (Zu ZbE Zi)
   (Zj (Zag (ZO ZR Za) (Zaw (ZH Zi (ZH Zi Zay)))
   (Zj (ZT (Zo (Zk ZfW Za Za)) Zq2 Zy)
   (Zu Za (ZbH Za Za))))
   (Zj (Zag (ZO ZlV Za) Zi
   (Zag (ZO ZR (ZaU Za Zf)) Zi
   (ZT (Zo (Zk ZcQ Za Za)) Zq2 Zy)))
   (Zs Za))))⟩
 rintro us A Q ⟨l,ps,rs,rfl,hl,hB,q⟩;walk_at "o";intro d hd;have hdl:l≠d:=neA hl hd;walk_at "d";refine⟨⟨_,by rw[Zn hdl];exact hl⟩,?_⟩;refine ZaY (ps.map fun p=>U.tup [.str p.1,.ref p.2]) (fun k ρ A2=>∃(ep:Nat)(x2 x3:Option U),ρ=[some (.ref l),some (.ref d),x2,x3]/\A2=updA A d (dS P w ep (rbU (ps.take k)))) ⟨0,_,_,rfl,rfl⟩ (fun k ρ A2 _ hq0=>by obtain⟨ep,_,_,_,e⟩:=hq0;rw[e,Zn hdl];exact hl) ?_ ?_
 .rintro k u ρ A2 hu ⟨ep,x2,x3,rfl,rfl⟩;obtain⟨p,hp,rfl⟩:=Z7 hu;have hk:=(Yh.mp hp).1;have hz:p.1∉(rbU (ps.take k)).map (·.1):=by
   rw[Zdn,Ya9];intro hm;obtain⟨j,hj,e⟩:=Yam.mp hm;rw[YL]at hj;rw[List.getElem_take]at e;have:=Zad hB.nd (i:=j) (j:=k) (x:=p.1) (by rw[Yg (by lia),e]) (by rw[Yi,hp];rfl);lia
  walk_at "d";refine⟨rfl,Zbc (fun B hB=>?_) ?_⟩
  .walk_at "d";refine⟨ep,_,Zc,?_⟩;rw[Zbi hz];exact hB
  walk_at "d";refine⟨d,p.1,ep,_,rfl,rfl,Zc,?_,fun ep'=>⟨ep',_,_,rfl,?_⟩⟩
  .have:=hB.len;unfold rbU;rw[Yc,YL,Y8];lia
  .rw[ZK,ZaH hz];unfold rbU;rw[List.take_succ_eq_append_getElem hk,Yt,(Yh.mp hp).2];rfl
 rintro ρ A2 ⟨ep,x2,x3,rfl,rfl⟩;rw[Yc,YZ];walk_at "d";refine⟨ep,_,Zc,Zdc (rbU ps) (fun k ρ A2=>∃x2 x3,ρ=[some (.ref l),some (.ref d),x2,x3]/\Ext (updA A d (dS P w ep (rbU ps))) A2) ⟨_,_,rfl,Ext.refl _⟩ (fun k ρ A2 _ ⟨_,_,_,e⟩=>e _ _ Zc) ?_ ?_⟩
 .rintro k p' ρ A2 hp' ⟨x2,x3,rfl,e2⟩;unfold rbU at hp';obtain⟨p,hp,rfl⟩:=Z7 hp';obtain⟨r,_,ho,h1,h2,h3⟩:=hB.get hp;walk_at "d";refine ZcN (ho.ext ((Ext.new hd).trans e2)) h1 h2 fun B2 l2 zs e3 hl2 hB2 nm=>?_;walk_at "d";refine⟨⟨_,hB2⟩,?_⟩;refine ZaY (zs.map U.str) (fun j ρ A3=>∃x2,ρ=[some (.ref l),some (.ref d),x2,some (.ref p.2)]/\A3=B2) ⟨_,rfl,rfl⟩ (fun j ρ A3 _ hq0=>by obtain⟨_,_,e⟩:=hq0;rw[e];exact hB2) ?_ ?_
  .rintro j u ρ A3 hu ⟨x2,rfl,rfl⟩;obtain⟨z,hz,rfl⟩:=Z7 hu;have hzm:=h3 z ((nm.mem z).mp (Yk hz));walk_at "d";refine Zbc (fun B hB=>?_) ?_
   .walk_at "d";refine⟨ep,_,e3 _ _ (e2 _ _ Zc),?_⟩;rw[Za4 (by rw[Zdn];exact hzm)];exact hB
   walk_at "d";exact⟨_,rfl,trivial⟩
  .rintro ρ A3 ⟨x2,rfl,rfl⟩;walk_at "d";exact⟨_,_,rfl,e2.trans e3⟩
 .rintro ρ A2 ⟨x2,x3,rfl,e2⟩;walk_at "d";exact fg (q _ d ep ((Ext.new hd).trans e2) hd (e2 _ _ Zc))
end
def bkF(ps:List (Str×Addr))(rs:List Rl)(z:Str):Option Rl:=((ps.map (·.1)).zip rs).lookup z
theorem Zah{α:Type}:∀ {ns:List Str} {rs:List α} {k:Nat} {z:Str} {r:α},ns.Nodup->ns[k]? = some z->rs[k]? = some r->(ns.zip rs).lookup z=some r
 | n :: ns,r0::rs,0,z,r,_,h1,h2=>by
  cases h1;cases h2
  rw[List.zip_cons_cons,List.lookup_cons_self]
 | n :: ns,r0::rs,k+1,z,r,nd,h1,h2=>by
  have e:z≠n:=fun e=>(Yae.mp nd).1 (e▸Yk h1)
  rw[List.zip_cons_cons,List.lookup_cons,Yv.mpr e]
  exact Zah (Yae.mp nd).2 h1 h2
theorem Zbl{α:Type}:∀ {ns:List Str} {rs:List α} {z:Str} {r:α},(ns.zip rs).lookup z=some r->∃k:Nat,ns[k]? = some z/\rs[k]? = some r
 | n :: ns,r0::rs,z,r,h=>by
  rw[List.zip_cons_cons,List.lookup_cons]at h
  by_cases e:z=n
  .rw[beq_iff_eq.mpr e]at h
   exact⟨0,by rw[e];rfl,h⟩
  .rw[Yv.mpr e]at h
   obtain⟨k,h1,h2⟩:=Zbl h
   exact⟨k+1,h1,h2⟩
def Zjv(h:bkF ps rs z=some r):z∈ps.map (·.1):=by
 obtain⟨k,h1,_⟩:=Zbl h;exact Yk h1
def ZfH.at(h:ZfH cs A ps rs){k:Nat}(hp:ps[k]? = some p)(hr:rs[k]? = some r):bkF ps rs p.1=some r:=Zah h.nd (by rw[Yi,hp];rfl) hr
def bkV(ps:List (Str×Addr))(rs:List Rl):Str->On:=lV (bkF ps rs) (ps.map (·.1)).length
def Zfz:∀ {ns:List Str} {vs:List U},vs.length=ns.length->(∀(k:Nat) y z,vs[k]? = some y->ns[k]? = some z->y=oU (e z))->ns.zip vs=Zfa ns e
 | [],[],_,_=>rfl
 | n :: ns,v::vs,hl,h=>by
  rw[List.zip_cons_cons,h 0 v n rfl rfl,Zfz (by simpa using hl) fun k y z h1 h2=>h (k+1) y z h1 h2]
  rfl
def ZqM(R:Bool->Prop)(h1:∀B:Bool->AHp->Prop,(∀k,R k->B k A)->c ρ A B)(h2:∀k,R k->if k=true then t D ρ A else e D ρ A):Zmb c t e D ρ A:=h1 _ h2
def Zd2{k:Nat}{u:U}(h:((rbU ps).map f)[k]? = some u):∃p,ps[k]? = some p/\u=f (p.1,.ref p.2):=by
 rw[Yi,rbU,Yi]at h;cases e:ps[k]? with
 | none=>rw[e]at h;cases h
 | some p=>rw[e]at h;exact⟨p,rfl,(YE h).symm⟩
def Zhl(P:Program)(w:World)(cs:Nat->Addr):ASp:=fun us A Q=>∃(d:Addr)(ps:List (Str×Addr))(rs:List Rl)(ep:Nat),us=[.ref d]/\A d=some (dS P w ep (rbU ps))/\ZfH cs A ps rs/\∀B d' ep',Ext A B->A d'=none->B d'=some (dS P w ep' (Zfa (ps.map (·.1)) (bkV ps rs)))->Q (.ref d') B
section
include T
def ZjH:T.F_q7.Ok CX0 64 (Zar K (Zhl P w cS)):=by
 have G_j6:=Zes T 60;apply T.F_q7.okA;walk_at "f";exact fun S hr=>⟨_,(Ze (ZC (i:=1) S.nd rfl (Or.inr rfl) (ZcP (ts:=["name"]) (frs':=[]) (cl:=[]) rfl ⟨rfl,rfl,(by decide +kernel),(by decide +kernel),(fun _ z=>nomatch z),(ZaW rfl rfl),(fun _ z=>nomatch z)⟩ (ZnR (pv 0)) (fun _ _ _ _=>Zq (i:=0) nd1 rfl (Or.inl rfl) (.inr rfl)) (fun _ _ _ _=>Zak) (fun _ _ _ _=>by exact(pv 0)) (fun _ _ _ _=>by exact Zb6)))
   (Zh (Zcb YA (Za8 Zda) (Ze (Zlp (i:=2) S.nd rfl (Or.inl rfl) (by with_unfolding_all rfl) (ts:=["name","rule"]) (frs':=[("leasts",1)]) (cl:=_) rfl ⟨(by rfl),rfl,(by decide +kernel),(by decide +kernel),(ZB (by rfl) ZJ),(Zal (by rfl) (by rfl)),(ZB ⟨(by rfl),(by first|exact .inl rfl|exact .inr rfl),(by first|exact .inl rfl|exact .inr rfl),(by rfl)⟩ ZJ)⟩ (Zhn (pv 0)) (fun _ _ _ _=>Zcs K rfl 2 rfl (ZG (Zq (i:=0) (show List.Nodup (["name","rule","leasts"]:List Str)from by decide +kernel) rfl (Or.inl rfl) (.inr rfl)) (ZG (Zq (i:=1) (show List.Nodup (["name","rule","leasts"]:List Str)from by decide +kernel) rfl (Or.inl rfl) (.inr rfl)) Zax)) (by rfl) (by rfl)) (fun _ _ _ _=>Zak) (fun _ _ _ _=>by exact(pv 0)) (fun _ _ _ _=>by exact(T.F_j6.pc G_j6 hr (Zb (pv 1) (Zb (pv 2) Zg)))))
   (Ze (ZQ (Zp (Zss hr) (pv 2) (pv 1) (ZE _)) (Zh (Zt (pv 1))) Zz)
   (Zh (ZC (i:=1) S.nd rfl (Or.inr rfl) (pv 2)))))))),(Zj (Zu (Zb1 (ZO Zi9 Za) Zi ZaB Za Zca) Zi)
   (ZbZ (ZbP Zdj) (Zj (Zu (Zb1 (ZO Zdv Za) (Zaw (ZH Zi (ZH Zi Zay))) ZaB Za (Zw (Zd Za (Zd Za Zf)))) Zi)
   (Zj (ZT (Zo (Zk Zn1 Za Za)) (Zs Za) Zy)
   (Zu Za Zi)))))⟩
 rintro us A Q ⟨d,ps,rs,ep,rfl,hA,hB,q⟩;walk_at "o";refine⟨ep,_,hA,fun d1 hd1=>?_⟩;walk_at "c";have hlen:((rbU ps).map fK).length=(ps.map (·.1)).length:=by unfold rbU;simp
 have hpl:=hB.len;refine Zfe ((rbU ps).map fK) (ps.map (·.1)) hlen.symm hB.nd (fun _ v _=>v=.non) (fun τ=>∃x,τ=[x]) ⟨_,rfl⟩ hd1 (by rw[hlen,Yc];lia) (fun k A2 _ e2=>⟨_,e2 _ _ hA,by simp[rbU],rfl⟩) (fun k v A1 B _ _ h=>h) ?_ ?_
 .rintro k u z τ A2 hu hz ⟨x,rfl⟩ e2 Cy hC;obtain⟨p,hp,rfl⟩:=Zd2 hu;rw[Yi,hp]at hz;cases hz;walk_at "d";exact hC _ _ A2 ⟨_,rfl⟩ (Ext.refl _) rfl
 intro B vs ep1 eB hBd hvl hvs;rw[Zfz (e:=lv (bkF ps rs) 0) (by rw[hvl,hlen]) fun k y z h1 _=>hvs k y h1];walk_at "d";refine⟨fun m ρ A2=>∃(t:Nat)(d2:Addr)(ep2:Nat)(x:Option U),m=(ps.map (·.1)).length-t/\t<=(ps.map (·.1)).length/\ρ=[some (.ref d),some (.ref d2),x]/\Ext A A2/\A d2=none/\A2 d2=some (dS P w ep2 (Zfa (ps.map (·.1)) (lv (bkF ps rs) t))),⟨_,0,d1,ep1,_,rfl,Y2 _,rfl,eB.trans (Ext.new hBd),hd1,Zc⟩,?_⟩;rintro m ρ A2 ⟨t,d2,ep2,x,rfl,ht,rfl,e2,hd2,h2⟩;walk_at "d";refine⟨_,fun ρ' A' h=>h,?_⟩;walk_at "d";refine⟨ep,_,e2 _ _ hA,fun d3 hd3=>?_⟩;walk_at "c";have hlen:((rbU ps).map fI).length=(ps.map (·.1)).length:=by unfold rbU;simp
 refine Zfe ((rbU ps).map fI) (ps.map (·.1)) hlen.symm hB.nd (fun k v _=>∀r,rs[k]? = some r->v=oU (r.lst (lv (bkF ps rs) t))) (fun τ=>∃x y,τ=[x,y,some (.ref d2)]) ⟨_,_,rfl⟩ hd3 (by rw[hlen,Yc];lia) (fun k A2 _ e3=>⟨_,e3 _ _ (e2 _ _ hA),by simp[rbU],rfl⟩) (fun k v A1 B _ _ h=>h) ?_ ?_
 .rintro k u z τ A3 hu hz ⟨x1,x2,rfl⟩ e3 Cy hC;obtain⟨p,hp,rfl⟩:=Zd2 hu;rw[Yi,hp]at hz;cases hz;obtain⟨r,hr,ho,g1,g2,g3⟩:=hB.get hp;unfold fI;walk_at "d";refine⟨rfl,p.2,d2,r,ep2,_,_,rfl,ho.ext (e2.trans e3),g1,g3,e3 _ _ h2,fun B e4=>hC _ _ B ⟨_,_,rfl⟩ e4 fun r' hr'=>?_⟩;rw[hr]at hr';cases hr';rfl
 intro B vs ep3 eB hBd hvl hvs;rw[Zfz (e:=lv (bkF ps rs) (t+1)) (by rw[hvl,hlen]) fun k y z h1 h2=>by
  rw[Yi]at h2;obtain⟨p,hp,rfl⟩:=YK.mp h2;obtain⟨r,hr,_⟩:=hB.get hp;rw[hvs k y h1 r hr];simp only[lv,hB.at hp hr]]
 walk_at "d";have h23:d2≠d3:=neA h2 hd3;refine ZqM (fun b=>b=true↔Zfa (ps.map (·.1)) (lv (bkF ps rs) (t+1))=Zfa (ps.map (·.1)) (lv (bkF ps rs) t)) (fun B1 hB1=>?_) fun b hb=>?_
 .walk_at "d";exact⟨ep3,ep2,_,_,Zc,by rw[Zn h23];exact eB _ _ h2,by rw[ZgV,ZgV],ZhR,ZhR,fun b hb=>hB1 b hb⟩
 rw[ZnA]at hb;have hz0:∀z,z∉ps.map (·.1)->∀s,lv (bkF ps rs) s z=none:=fun z hz s=>by
  cases s with
  | zero=>rfl
  | succ s =>
   cases h:bkF ps rs z with
   | none=>simp only[lv,h]
   | some r=>exact absurd (Zjv h) hz
 cases b with
 | true =>
  refine ZX rfl ?_;walk_at "d";have he:∀z,lv (bkF ps rs) (t+1) z=lv (bkF ps rs) t z:=fun z=>by
   by_cases hz:z∈ps.map (·.1)
   .exact hb.mp rfl z hz
   .rw[hz0 z hz,hz0 z hz]
  rw[Ztf (ns:=ps.map (·.1)) (fun z r h=>Zjv h) ht he]at h2;exact fg (q _ d2 ep2 ((e2.trans eB).trans (Ext.new hBd)) hd2 (by rw[Zn h23];exact eB _ _ h2))
 | false =>
  refine ZA rfl ?_;walk_at "d";have hne:t≠(ps.map (·.1)).length:=fun e=>by
   have:=hb.mpr fun z _=>by rw[e];exact Zje (bkF ps rs) (fun z r h=>Zjv h) z
   cases this
  exact⟨_,by lia,t+1,d3,ep3,_,rfl,by lia,rfl,(e2.trans eB).trans (Ext.new hBd),Za2 e2 hd3,Zc⟩
end
abbrev lsU(ps:List (Str×Addr))(rs:List Rl):List (Str×U):=Zfa (ps.map (·.1)) (bkV ps rs)
structure ZqY (zs:List Str) (xs:List Str):Prop where
 so:PyProof.Rows.sortedS zs=true
 nd:zs.Nodup
 mem:∀z,z∈zs↔z∈xs
def DLs(A:AHp)(vs:List U)(R:Nat->List Str->Prop):Prop:=∀k v,vs[k]? = some v->∃p zs,v=.ref p/\A p=some (.lst (List.map U.str zs))/\R k zs
def DLs.ext(h:DLs A vs R)(e:Ext A B):DLs B vs R:=fun k v hv=>by
 obtain⟨p,zs,h1,h2,h3⟩:=h k v hv
 exact⟨p,zs,h1,e _ _ h2,h3⟩
def lnR(e:Str->On)(rs:List Rl)(k:Nat)(zs:List Str):Prop:=∀r,rs[k]? = some r->ZqY zs (r.lean e)
def Zjc(P:Program)(w:World)(cs:Nat->Addr):ASp:=fun us A Q=>∃(d d2:Addr)(ps:List (Str×Addr))(rs:List Rl)(ep ep2:Nat),us=[.ref d,.ref d2]/\A d=some (dS P w ep (rbU ps))/\A d2=some (dS P w ep2 (lsU ps rs))/\ZfH cs A ps rs/\∀B d' ep' vs,Ext A B->A d'=none->B d'=some (dS P w ep' ((ps.map (·.1)).zip vs))->vs.length=ps.length->DLs B vs (lnR (bkV ps rs) rs)->Q (.ref d') B
section
include T
def Zk8:T.F_qh.Ok CX0 66 (Zar K (Zjc P w cS)):=by
 have G_qi:=Zn7 T 60;apply T.F_qh.okA;walk_at "f";exact fun S hr=>⟨_,(Zh (Zt (ZcP (ts:=["name","rule"]) (frs':=[("leasts",1)]) (cl:=_) rfl ⟨(by rfl),rfl,(by decide +kernel),(by decide +kernel),(ZB (by rfl) ZJ),(Zal (by rfl) (by rfl)),(ZB ⟨(by rfl),(by first|exact .inl rfl|exact .inr rfl),(by first|exact .inl rfl|exact .inr rfl),(by rfl)⟩ ZJ)⟩ (Zhn (pv 0)) (fun _ _ _ _=>Zcs K rfl 2 rfl (ZG (Zq (i:=0) (show List.Nodup (["name","rule","leasts"]:List Str)from by decide +kernel) rfl (Or.inl rfl) (.inr rfl)) (ZG (Zq (i:=1) (show List.Nodup (["name","rule","leasts"]:List Str)from by decide +kernel) rfl (Or.inl rfl) (.inr rfl)) Zax)) (by rfl) (by rfl)) (fun _ _ _ _=>Zak) (fun _ _ _ _=>by exact(pv 0)) (fun _ _ _ _=>by exact(Zac (Zo1 P w rfl rfl rfl) T.n_sorted (Zb (ZdT (Zv3 P w rfl rfl rfl) T.n_set (Zb (T.F_qi.pc G_qi hr (Zb (pv 1) (Zb (pv 2) Zg))) Zg)) Zg)))))),(Zs (Zb1 (ZO Zdv Za) (Zaw (ZH Zi (ZH Zi Zay))) ZaB Za (ZY ZcH (Zd (ZY ZoN (Zd (Zw (Zd Za (Zd Za Zf))) Zf)) Zf))))⟩;rintro us A Q ⟨d,d2,ps,rs,ep,ep2,rfl,hA,hA2,hB,q⟩;walk_at "o";refine⟨ep,_,hA,fun d3 hd3=>?_⟩;walk_at "c";have hpl:=hB.len;have hlen:((rbU ps).map fI).length=(ps.map (·.1)).length:=by unfold rbU;simp
 refine Zfe ((rbU ps).map fI) (ps.map (·.1)) hlen.symm hB.nd (fun k v A2=>∃p zs,v=.ref p/\A2 p=some (.lst (List.map U.str zs))/\lnR (bkV ps rs) rs k zs) (fun τ=>∃x y,τ=[x,y,some (.ref d2)]) ⟨_,_,rfl⟩ hd3 (by rw[hlen,Yc];lia) (fun k A2 _ e3=>⟨_,e3 _ _ hA,by simp[rbU],rfl⟩) ?_ ?_ ?_
 .rintro k v A1 B h1 h2 ⟨p,zs,rfl,h3,h4⟩;refine⟨p,zs,rfl,h2 _ _ (fun e=>?_) h3,h4⟩;rcases h1 with h1|⟨ep,kus,h1⟩
  .rw[e,h1]at h3;cases h3
  .rw[e,h1]at h3;cases h3
 .rintro k u z τ A3 hu hz ⟨x1,x2,rfl⟩ e3 Cy hC;obtain⟨p,hp,rfl⟩:=Zd2 hu;rw[Yi,hp]at hz;cases hz;obtain⟨r,hr,ho,g1,g2,g3⟩:=hB.get hp;unfold fI;walk_at "d";refine⟨rfl,p.2,d2,r,ep2,_,_,rfl,ho.ext e3,g1,g2,g3,e3 _ _ hA2,fun B l eB hl hBl=>?_⟩;have hll:=r.lean_len (e:=bkV ps rs);walk_at "d";refine⟨_,hBl,by show(r.lean (bkV ps rs)).length+1<4096;lia,fun p3 hp3=>?_⟩;walk_at "d";have hal:=Zbw (r.lean (bkV ps rs)) (r.lean (bkV ps rs)).length;obtain⟨hnd,hmm⟩:=Zb0 (r.lean (bkV ps rs)) (r.lean (bkV ps rs)).length (Yj _);refine⟨_,Zc,by lia,fun D zs hD hpm hso=>hC _ _ _ ⟨_,_,rfl⟩ ((eB.trans (Ext.new hp3)).trans (Ext.new hD)) ⟨D,zs,rfl,Zc,fun r' hr'=>?_⟩⟩;rw[hr]at hr';cases hr';exact⟨hso,hpm.nodup_iff.mpr hnd,fun z=>by rw[hpm.mem_iff,hmm,YZ]⟩
 .intro B vs ep3 eB hBd hvl hvs;refine fg (q _ d3 ep3 vs (eB.trans (Ext.new hBd)) hd3 Zc (by rw[hvl,hlen,Yc]) fun k v hv=>?_);obtain⟨p,zs,h1,h2,h3⟩:=hvs k v hv;exact⟨p,zs,h1,Ext.new hBd _ _ h2,h3⟩
end
inductive Spk (F:Str->Option Rl):Str->Str->Prop
 | one {z y:Str} {r:Rl}:F z=some r->y∈r.nms->Spk F z y
 | more {z x y:Str} {r:Rl}:Spk F z x->F x=some r->y∈r.nms->Spk F z y
structure Zst (F:Str->Option Rl) (z:Str) (zs:List Str):Prop where
 so:PyProof.Rows.sortedS zs=true
 nd:zs.Nodup
 mem:∀y,y∈zs↔Spk F z y
def Spk.in_ns(hn:∀r∈rs,∀z∈r.nms,z∈ps.map (·.1))(h:Spk (bkF ps rs) z y):y∈ps.map (·.1):=by
 cases h with
 | one h1 h2=>obtain⟨k,_,h3⟩:=Zbl h1;exact hn _ (Yk h3) _ h2
 | more _ h1 h2=>obtain⟨k,_,h3⟩:=Zbl h1;exact hn _ (Yk h3) _ h2
def Zhy(P:Program)(w:World)(cs:Nat->Addr):ASp:=fun us A Q=>∃(z:Str)(d:Addr)(ps:List (Str×Addr))(rs:List Rl)(ep:Nat),us=[.str z,.ref d]/\z∈ps.map (·.1)/\A d=some (dS P w ep (rbU ps))/\ZfH cs A ps rs/\∀B l zs,Ext A B->A l=none->B l=some (.lst (List.map U.str zs))->Zst (bkF ps rs) z zs->Q (.ref l) B
def ZaM(e:Ext A B)(h:A x=none):Ext A (updA B x o):=fun y u q=>by
 rw[Zn (neA q h)]
 exact e y u q
structure SpI (F:Str->Option Rl) (z:Str) (ks ws:List Str):Prop where
 nd:ks.Nodup
 sp:∀y,y∈ks\/y∈ws->Spk F z y
 own:∀r,F z=some r->∀y∈r.nms,y∈ks\/y∈ws
 on:∀x∈ks,∀r,F x=some r->∀y∈r.nms,y∈ks\/y∈ws
def SpI.done(h:SpI F z ks [])(y:Str):y∈ks↔Spk F z y:=by
 refine⟨fun hy=>h.sp y (.inl hy),fun hy=>?_⟩;induction hy with
 | one h1 h2=>exact(h.own _ h1 _ h2).resolve_right (fun z=>nomatch z)
 | more _ h1 h2 ih=>exact(h.on _ ih _ h1 _ h2).resolve_right (fun z=>nomatch z)
def SpI.old(h:SpI F z ks (ws++[y]))(hy:y∈ks):SpI F z ks ws:=by
 have:∀x,x∈ks\/x∈ws++[y]->x∈ks\/x∈ws:=fun x hx=>hx.elim .inl fun hx=>(Yz.mp hx).elim .inr fun e=>.inl (by rw[Yp.mp e];exact hy);exact⟨h.nd,fun x hx=>h.sp x (hx.imp id (Y7 _)),fun r h1 x hx=>this x (h.own r h1 x hx),fun x hx r h1 y hy=>this y (h.on x hx r h1 y hy)⟩
def SpI.new(h:SpI F z ks (ws++[y]))(hy:y∉ks)(hr:F y=some r)(hz:∀x,x∈zs↔x∈r.nms):SpI F z (ks++[y]) (ws++zs):=by
 have hs:=h.sp y (.inr (Yx _ (.head _)));have this:∀x,x∈ks\/x∈ws++[y]->x∈ks++[y]\/x∈ws++zs:=fun x hx=>hx.elim (fun h=>.inl (Y7 _ h)) fun hx=>(Yz.mp hx).elim (fun h=>.inr (Y7 _ h)) fun e=>.inl (Yx _ e);refine⟨List.nodup_append.mpr ⟨h.nd,by simp,fun a ha b hb e=>hy (by rw[<- Yp.mp hb,<- e];exact ha)⟩,fun x hx=>?_,fun r h1 x hx=>this x (h.own r h1 x hx),fun x hx r' h1 y' hy'=>?_⟩
 .rcases hx with hx|hx
  .rcases Yz.mp hx with hx|hx
   .exact h.sp x (.inl hx)
   .rw[Yp.mp hx];exact hs
  .rcases Yz.mp hx with hx|hx
   .exact h.sp x (.inr (Y7 _ hx))
   .exact .more hs hr ((hz x).mp hx)
 .rcases Yz.mp hx with hx|hx
  .exact this y' (h.on x hx r' h1 y' hy')
  .rw[Yp.mp hx,hr]at h1;cases h1;exact .inr (Yx _ ((hz y').mpr hy'))
section
include T
def ZiX : T.F_qj.Ok CX0 64 (Zar K (Zhy P w cS)):=by
 have HD_names:=ZgM T 60;apply T.F_qj.okA;walk_at "f";exact fun S hr=>⟨_,(Ze (ZC (i:=2) S.nd rfl (Or.inl rfl) (ZdP Zu1 (by rfl) T.n_set (by decide +kernel)))
   (Ze (ZC (i:=3) S.nd rfl (Or.inl rfl) (ZaD (ZI ZbN (pv 1) (pv 0) (fun _ _=>rfl)) HD_names.mn hr Zbs))
   (Ze (Zcb YA (Zep (pv 3) (fun _=>rfl)) (Ze (ZC (i:=4) S.nd rfl (Or.inl rfl) (Zdz Yy YaA YaB ZdM (pv 3)))
   (Zh (ZQ (Zp Zrs (pv 4) (pv 2) (by with_unfolding_all rfl)) (Ze (ZU (ZiJ (pv 2) (Zb (pv 4) Zg)))
   (Zh (ZU (ZbK Yy YbG YbH Zh2 (pv 3) (Zb (ZaD (ZI ZbN (pv 1) (pv 4) (fun _ _=>rfl)) HD_names.mn hr Zbs) Zg))))) Zz))))
   (Zh (Zt (Zac (Zeu rfl) T.n_sorted (Zb (pv 2) Zg))))))),(Zj (Zu (ZY ZrR Zf) Zi)
   (Zj (Zu (ZaU (Zk ZaZ Za Za) Zf) Zi)
   (Zj (ZbZ (Ziu Za) (Zj (Zu (ZdG ZP Zci Za) Zi)
   (ZT (Zo (Zk Zn9 Za Za)) (Zj (Z1 (ZjI Za (Zd Za Zf)))
   (Z1 (ZbJ ZP Zgo Za (Zd (ZaU (Zk ZaZ Za Za) Zf) Zf)))) Zy)))
   (Zs (ZY ZcH (Zd Za Zf))))))⟩
 rintro us A Q ⟨z,d,ps,rs,ep,rfl,hz,hA,hB,q⟩;walk_at "o";intro p hp;obtain⟨i,hi⟩:=List.getElem?_of_mem hz;rw[Yi]at hi;obtain⟨pz,hpz,rfl⟩:=YK.mp hi;obtain⟨r,hr,ho,g1,g2,g3⟩:=hB.get hpz;have hrb:∀ {j:Nat} {q:Str×Addr},ps[j]? = some q->(rbU ps).lookup q.1=some (.ref q.2):=fun {j q} h=>by
  have:=Zah (rs:=ps.map fun q=>U.ref q.2) hB.nd (k:=j) (z:=q.1) (r:=.ref q.2) (by rw[Yi,h];rfl) (by rw[Yi,h];rfl);rwa [List.zip_map',]at this
 refine⟨ep,_,_,by rw[Zn (neA hA hp)];exact hA,hrb hpz,ZcN (ho.ext (Ext.new hp)) g1 g2 fun B l1 zs eB hl1 hBl nm=>?_⟩;walk_at "d";have hl0:A l1=none:=Za2 (Ext.new hp) hl1;have hpl:p≠l1:=neA Zc hl1;have hn:=fun r hr=>(hB.sz r hr).2.2;have hzl:zs.length<=(ps.map (·.1)).length:=Zaf nm.nd fun y hy=>g3 y ((nm.mem y).mp hy);have hpl60:=hB.len;rw[Yc]at hzl;refine⟨fun m ρ A2=>∃(ks ws:List Str)(x4:Option U),m=(ps.length-ks.length)*100+ws.length/\ρ=[some (.str pz.1),some (.ref d),some (.ref p),some (.ref l1),x4]/\Ext A A2/\A2 p=some (tS P w ks)/\A2 l1=some (.lst (ws.map U.str))/\SpI (bkF ps rs) pz.1 ks ws/\ws.length<=60*(ks.length+1),⟨_,[],zs,_,rfl,rfl,(Ext.new hp).trans eB,eB _ _ Zc,hBl,⟨List.nodup_nil,fun y hy=>.one (hB.at hpz hr) ((nm.mem y).mp (hy.resolve_left fun z=>nomatch z)),fun r' h y hy=>?_,fun x hx=>nomatch hx⟩,by simp only[List.length_nil];lia⟩,?_⟩
 .rw[hB.at hpz hr]at h;cases h;exact .inr ((nm.mem y).mpr hy)
 rintro m ρ A2 ⟨ks,ws,x4,rfl,rfl,e2,h2p,h2l,hI,hwl⟩;have hkl:ks.length<=ps.length:=by
  have:=Zaf hI.nd (m:=ps.map (·.1)) fun y hy=>(hI.sp y (.inl hy)).in_ns hn;rwa [Yc]at this
 walk_at "d";refine⟨_,h2l,ZhL (fun hne=>?_) fun he=>?_⟩
 .obtain⟨ws0,y,rfl⟩:∃ws0 y,ws=ws0++[y]:=by
   rcases Ya6 ws with rfl|⟨a,b,e⟩
   .cases hne
   .exact⟨a,b,by rw[e,List.concat_eq_append]⟩
  rw[Ys,List.length_singleton]at hwl ⊢;refine⟨_,fun ρ' A' h=>h,?_⟩;walk_at "d";refine⟨⟨_,h2l⟩,?_⟩;rw[Yt]at h2l;refine⟨_,_,h2l,?_⟩;have h3p:updA A2 l1 (.lst (ws0.map U.str)) p=some (tS P w ks):=by rw[Zn hpl];exact h2p
  have h3l:updA A2 l1 (.lst (ws0.map U.str)) l1=some (.lst (ws0.map U.str)):=Zc;have e3:Ext A (updA A2 l1 (.lst (ws0.map U.str))):=ZaM e2 hl0;generalize updA A2 l1 (.lst (ws0.map U.str))=A3 at h3p h3l e3 ⊢;walk_at "d";refine Zcl (!decide (y∈ks)) (fun B hB=>?_) ?_
  .walk_at "d";exact⟨ks,h3p,hB⟩
  by_cases hy:y∈ks
  .refine ZA (by simp[hy]) ?_;walk_at "d";exact⟨_,by lia,ks,ws0,_,rfl,rfl,e3,h3p,h3l,hI.old hy,by lia⟩
  .refine ZX (by simp[hy]) ?_;obtain⟨j,hj⟩:=List.getElem?_of_mem ((hI.sp y (.inr (Yx _ (.head _)))).in_ns hn);rw[Yi]at hj;obtain⟨py,hpy,rfl⟩:=YK.mp hj;obtain⟨ry,hry,hoy,f1,f2,f3⟩:=hB.get hpy;have hkl':ks.length<ps.length:=by
    have:=Zaf (l:=py.1::ks) (Yae.mpr ⟨hy,hI.nd⟩) (m:=ps.map (·.1)) fun y hy=>by
     rcases Yn.mp hy with rfl|hy
     .exact Yk (by rw[Yi,hpy];rfl)
     .exact(hI.sp y (.inl hy)).in_ns hn
    rw[Yc,List.length_cons]at this;exact this
   walk_at "d";refine⟨p,ks,rfl,h3p,_,ks,rfl,h3p,by show ks.length+1<4096;lia,?_⟩;have ha:ZdJ ks py.1=ks++[py.1]:=if_neg hy;rw[ha];have h4p:updA A3 p (tS P w (ks++[py.1])) p=some (tS P w (ks++[py.1])):=Zc;have h4l:updA A3 p (tS P w (ks++[py.1])) l1=some (.lst (ws0.map U.str)):=by rw[Zn (Ne.symm hpl)];exact h3l
   have e4:Ext A (updA A3 p (tS P w (ks++[py.1]))):=ZaM e3 hp;generalize updA A3 p (tS P w (ks++[py.1]))=A4 at h4p h4l e4 ⊢;walk_at "d";refine⟨⟨_,h4l⟩,ep,_,_,e4 _ _ hA,hrb hpy,ZcN (hoy.ext e4) f1 f2 fun B2 l2 ys e5 hl2 hB2 nm2=>?_⟩;have hyl:ys.length<=(ps.map (·.1)).length:=Zaf nm2.nd fun y hy=>f3 y ((nm2.mem y).mp hy);rw[Yc]at hyl;walk_at "d";refine⟨_,_,e5 _ _ h4l,hB2,by rw[Yc,Yc,Y8];lia,?_⟩;rw[<- Yt];refine⟨_,?_,ks++[py.1],ws0++ys,_,rfl,rfl,ZaM (e4.trans e5) hl0,by rw[Zn hpl];exact e5 _ _ h4p,Zc,hI.new hy (hB.at hpy hry) nm2.mem,?_⟩
   .rw[Ys,Ys,List.length_singleton];lia
   .rw[Ys,Ys,List.length_singleton];lia
 .have he:ws=[]:=by cases ws with|nil=>rfl|cons=>cases he
  subst he;walk_at "d";refine⟨ks,h2p,by lia,fun D ys hD hpm hso=>fg (q _ D ys (e2.trans (Ext.new hD)) (Za2 e2 hD) Zc ⟨hso,hpm.nodup_iff.mpr hI.nd,fun y=>by rw[hpm.mem_iff];exact hI.done y⟩)⟩
end
def ZiS(P:Program)(w:World)(cs:Nat->Addr)(D:Addr):Zc7:=fun us A Q X=>∃(d d2:Addr)(ps:List (Str×Addr))(rs:List Rl)(ep ep2:Nat),us=[.ref d,.ref d2]/\A d=some (dS P w ep (rbU ps))/\A d2=some (dS P w ep2 (lsU ps rs))/\ZfH cs A ps rs/\(∀z∈ps.map (·.1),z.length<=8)/\((∀r∈rs,r.hp (bkV ps rs)=false)->∀B,Ext A B->Q .non B)/\∀(k:Nat) z r,(ps.map (·.1))[k]? = some z->rs[k]? = some r->r.hp (bkV ps rs)=true->(∀(j:Nat) r',j<k->rs[j]? = some r'->r'.hp (bkV ps rs)=false)->∀B,Ext A B->X D [("name",.str z)] B
section
include T
def Zg8:T.F_q2.Ok CX0 1 (Zf7 a_Hollow "name" okT):=ZgA (okV:=okT) T.K_Hollow T.N_Hollow_name rfl rfl (Zwf (t1:="the rule of ") (t2:=" takes a hollow rule any number of times") (by decide) (by decide)) (fun cdv A outer s H E hr=>(Ze (ZU (ZiW T.XB (by rfl) T.m_FigureError (Zb (pv 0) (Zb (ZjB (Zdb ZF (Zdb (ZmE (pv 1)) (Zdb ZF Zml)))) Zg))))
   (Zh (ZfI (pv 0) (pv 1))))) T.F_q2.f rfl T.F_q2.s
def Zi4:T.F_q8.Ok CX0 1 (Zfw K a_Round "circle"):=ZkV T.K_Round T.N_Round_circle rfl rfl (fun cdv A outer s H E hr=>(Ze (ZU (ZiW T.XB (by rfl) T.m_FigureError (Zb (pv 0) (Zb ZF Zg))))
   (Zh (ZfI (pv 0) (ZdT ZmH T.n_list (Zb (pv 1) Zg)))))) T.F_q8.f rfl T.F_q8.s
def Zkn:T.F_q0.Ok (CXX P w) 65 (Zcm K (ZiS P w cS a_Hollow)):=by
 have G_q3:=ZsY T 60;have G_q2:=Zg8 T;apply T.F_q0.okX;walk_at "f";exact fun S hr hE=>⟨_,(Zh (Zae (Zgq Zcv) rfl (Zhn (pv 0)) (ZbL (n:=2) rfl (ZG (Zq (i:=2) S.nd rfl (Or.inl rfl)) (ZG (Zq (i:=3) S.nd rfl (Or.inl rfl)) Zax)))
   (Zh (ZQ (Za8 (T.F_q3.pc G_q3 hr (Zb (pv 3) (Zb (pv 1) Zg)))) (Zh (Zc6 rfl T.K_Hollow G_q2.mn hr (by rfl) T.m_Hollow T.F_q2.b (Zb (pv 2) Zg))) Zz)))),(Zag (ZO Zdv Za) (Zaw (ZH Zi (ZH Zi Zay)))
   (ZT (ZbP (Zw (Zd Za (Zd Za Zf)))) (ZgP hE Zve (Zd Za Zf)) Zy))⟩
 rintro us A Q X ⟨d,d2,ps,rs,ep,ep2,rfl,hA,hA2,hB,h8,q,qx⟩;walk_at "o";refine⟨ep,_,hA,Zdc (rbU ps) (fun k ρ A2=>∃x2 x3,ρ=[some (.ref d),some (.ref d2),x2,x3]/\Ext A A2/\∀(j:Nat) r',j<k->rs[j]? = some r'->r'.hp (bkV ps rs)=false) ⟨_,_,rfl,Ext.refl _,fun j _ h=>absurd h (Ybn j)⟩ (fun k ρ A2 _ ⟨_,_,_,e,_⟩=>e _ _ hA) ?_ ?_⟩
 .rintro k p' ρ A2 hp' ⟨x2,x3,rfl,e2,hj⟩;unfold rbU at hp';obtain⟨p,hp,rfl⟩:=Z7 hp';obtain⟨r,hr,ho,g1,g2,g3⟩:=hB.get hp;have hz:(ps.map (·.1))[k]? = some p.1:=by rw[Yi,hp];rfl
  have hz8:=h8 _ (Yk hz);unfold fI;walk_at "d";refine⟨rfl,Zka (r.hp (bkV ps rs)) (fun B hB=>?_) fun B eB=>?_⟩
  .walk_at "d";exact⟨p.2,d2,r,ep2,_,_,rfl,ho.ext e2,g1,g3,e2 _ _ hA2,fun B1 e1=>⟨_,rfl,hB B1 e1⟩⟩
  cases hh:r.hp (bkV ps rs)with
  | true =>
   refine ZX rfl ?_;walk_at "d";exact⟨_,rfl,⟨p.1,rfl,by lia⟩,qx k p.1 r hz hr hh hj _ (e2.trans eB)⟩
  | false =>
   refine ZA rfl ?_;walk_at "d";refine⟨_,_,rfl,e2.trans eB,fun j r' hlt hr'=>?_⟩;rcases Nat.lt_succ_iff_lt_or_eq.mp hlt with h|rfl
   .exact hj j r' h hr'
   .rw[hr]at hr';cases hr';exact hh
 .rintro ρ A2 ⟨x2,x3,rfl,e2,hj⟩;walk_at "d";refine fg (q (fun r hr=>?_) A2 e2);obtain⟨j,hj'⟩:=List.getElem?_of_mem hr;refine hj j r ?_ hj';have hl:=hB.os.len;have:=(Yh.mp hj').1;unfold rbU;rw[Yc]at hl ⊢;lia
end
def ZcI:∀ {zs:List Str},(∀z∈zs,PyData.strOk z=true)->DUs A (zs.map U.str) (zs.map PyData.str)/\PyData.canLayAll0 (zs.map PyData.str)=true/\PyData.depthAll (zs.map PyData.str)<=2
 | [],_=>⟨.nil,by simp[PyData.canLayAll0],by simp[PyData.depthAll]⟩
 | z :: zs,h=>by
  obtain⟨h1,h2,h3⟩:=ZcI (A:=A) (zs:=zs) fun y hy=>h y (Yad _ hy)
  refine⟨.cons (.str z) h1,?_,?_⟩
  .simp only[Yq,PyData.canLayAll0,PyData.canLay0,h z Yab,h2,Bool.and_true]
  .simp only[Yq,PyData.depthAll,PyData.depth]
   lia
def ZdV:∀ys zs:List Str,PyData.eqvAll (ys.map PyData.str) (zs.map PyData.str)=decide (ys=zs)
 | [],[]=>by simp[PyData.eqvAll]
 | [],_::_=>by simp[PyData.eqvAll]
 | _::_,[]=>by simp[PyData.eqvAll]
 | y :: ys,z::zs=>by
  have:=ZdV ys zs
  simp only[Yq,PyData.eqvAll,PyData.eqv,this,Ybd]
  by_cases e:y=z<;>by_cases f:ys=zs<;>simp[e,f]
def Zd1{ys zs:List Str}(hy:∀z∈ys,PyData.strOk z=true)(hz:∀z∈zs,PyData.strOk z=true)(h1:A p=some (.lst (ys.map U.str)))(h2:A q=some (.lst (zs.map U.str)))(h:Q (.bl (if neg then !decide (ys=zs)else decide (ys=zs))) A):Za5 neg (.ref p) (.ref q) A Q:=by
 obtain⟨g1,g2,g3⟩:=ZcI (A:=A) hy;obtain⟨k1,k2,k3⟩:=ZcI (A:=A) hz;refine⟨.list (ys.map PyData.str),.list (zs.map PyData.str),.lst h1 g1,.lst h2 k1,?_,?_,?_,?_⟩
 .simp only[PyData.canLay0,g2]
 .simp only[PyData.canLay0,k2]
 .simp only[PyData.depth];lia
 .rw[show PyData.eqv (.list (ys.map PyData.str)) (.list (zs.map PyData.str))=decide (ys=zs)from by simp only[PyData.eqv,ZdV]];exact h
def Zfv{L:List Str}:inU (.str y) (L.map U.str)=decide (y∈L):=by
 by_cases h:y∈L
 .rw[YC h];unfold inU inV;rw[List.any_eq_true];exact⟨U.toV (.str y),YQ.mpr ⟨.str y,YQ.mpr ⟨y,h,rfl⟩,rfl⟩,by simp[U.toV,eqV]⟩
 .rw[Yw h];exact Zk7 h
def Zdg{L:List Str}:(L.map U.str).all U.flat=true:=by
 rw[YaW];intro u hu;obtain⟨z,_,rfl⟩:=YQ.mp hu;rfl
structure Cyc (le:Str->Str->Prop) (c:List Str):Prop where
 ne:c≠[]
 nd:c.Nodup
 st:∀(j:Nat) a b,c[j]? = some a->c[j+1]? = some b->le a b
 la:∀a b,c[c.length-1]? = some a->c[0]? = some b->le a b
structure Pth (le:Str->Str->Prop) (gs:List Str) (z:Str):Prop where
 nd:gs.Nodup
 st:∀(j:Nat) a b,gs[j]? = some a->gs[j+1]? = some b->le a b
 la:∀a,gs[gs.length-1]? = some a->le a z
def Pth.add(h:Pth le gs z)(hz:z∉gs)(hy:le z y):Pth le (gs++[z]) y:=by
 refine⟨List.nodup_append.mpr ⟨h.nd,by simp,fun a ha b hb e=>hz (by rw[<- Yp.mp hb,<- e];exact ha)⟩,fun j a b ha hb=>?_,fun a ha=>?_⟩
 .by_cases hj:j+1<gs.length
  .rw[Y6 (by lia)]at ha;rw[Y6 hj]at hb;exact h.st j a b ha hb
  .by_cases hj2:j+1=gs.length
   .rw[Y6 (by lia)]at ha;rw[YW (by lia),hj2,Ybg]at hb;cases hb;exact h.la a (by rw[<- hj2,Ybv];exact ha)
   .rw[YW (by lia)]at hb;have:j+1-gs.length=(j-gs.length)+1:=by lia
    rw[this]at hb;cases hb
 .rw[Ys,List.length_singleton,Ybv,YW (Yj _),Ybg]at ha;cases ha;exact hy
def Pth.cyc(h:Pth le gs z)(hi:gs[i]? = some z):Cyc le (gs.drop i):=by
 have hl:=(Yh.mp hi).1;refine⟨fun e=>?_,h.nd.sublist (List.drop_sublist _ _),fun j a b ha hb=>?_,fun a b ha hb=>?_⟩
 .have:=congrArg List.length e;rw[YaK,List.length_nil]at this;lia
 .rw[Ycd]at ha hb;exact h.st (i+j) a b ha hb
 .rw[Ycd]at ha hb;rw[Nat.add_zero,hi]at hb;cases hb;refine h.la a ?_;rw[YaK]at ha;rw[show gs.length-1=i+(gs.length-i-1) by lia];exact ha
def Zip(xs:List α)(k:Nat)(h:k<=xs.length):cutL xs (some (k:Int)) none=xs.drop k:=by
 unfold cutL;rw[show HT.sIx xs.length 0 (some (k:Int))=min k xs.length from HT.sIx_nat xs.length 0 k,show HT.sIx xs.length xs.length none=xs.length from rfl,YaO h];exact Yaa (by rw[YaK];lia)
def ZiP(P:Program)(w:World):ASp:=fun us A Q=>∃(z0:Str)(d:Addr)(L:List Str)(vs:List U)(ep:Nat)(le:Str->Str->Prop),us=[.str z0,.ref d]/\A d=some (dS P w ep (L.zip vs))/\vs.length=L.length/\L.Nodup/\L.length<=60/\DLs A vs (fun k zs=>∀z,L[k]? = some z->∃y t,zs=y::t/\y∈L/\le z y)/\z0∈L/\∀B l c,Ext A B->A l=none->B l=some (.lst (List.map U.str c))->Cyc le c->(∀z∈c,z∈L)->Q (.ref l) B
section
include T
def ZkX:T.F_qx.Ok CX0 3 (Zar K (ZiP P w)):=by
 apply T.F_qx.okA;walk_at "f";exact fun S hr=>⟨_,(Ze (ZC (i:=2) S.nd rfl (Or.inl rfl) (Z0 Zg))
   (Ze (Zcb YA (Zp ZrC (pv 0) (pv 2) (by with_unfolding_all rfl)) (Ze (ZU (ZbK Yy YR YS Zaa (pv 2) (Zb (pv 0) Zg)))
   (Zh (ZC (i:=0) S.nd rfl (Or.inl rfl) (ZI ZaI (ZI ZbN (pv 1) (pv 0) (fun _ _=>rfl)) Zl (fun _ _=>rfl))))))
   (Zh (Zt (ZbC Zhj (pv 2) (ZbQ (ZbK Yy PySem.F.slot_list_index PySem.F.type_list_index Zoj (pv 2) (Zb (pv 0) Zg))) ZcS))))),(Zj (Zu (ZZ Zf) Zi)
   (Zj (ZbZ (Zo (Zk Zl7 Za Za)) (Zj (Z1 (ZbJ ZP ZaR Za (Zd Za Zf)))
   (Zu (Zk ZM (Zk ZaZ Za Za) Zm) Zi)))
   (Zs (ZhE ZdE Za (ZbV (ZbJ ZP ZnI Za (Zd Za Zf))) Zbx))))⟩
 rintro us A Q ⟨z0,d,L,vs,ep,le,rfl,hA,hvl,hLn,hLl,hvs,hz0,q⟩;walk_at "o";refine⟨by decide,fun p hp=>⟨fun m ρ A2=>∃(gs:List Str)(z:Str),m=L.length-gs.length/\ρ=[some (.str z),some (.ref d),some (.ref p)]/\Ext A A2/\A2 p=some (.lst (gs.map U.str))/\Pth le gs z/\z∈L/\∀y∈gs,y∈L,⟨_,[],z0,rfl,rfl,Ext.new hp,Zc,⟨List.nodup_nil,(fun j a b h=>nomatch h),fun a h=>nomatch h⟩,hz0,fun y h=>nomatch h⟩,?_⟩⟩;rintro m ρ A2 ⟨gs,z,rfl,rfl,e2,h2,hP,hz,hgL⟩;have hgl:gs.length<=L.length:=Zaf hP.nd hgL;walk_at "d";refine⟨_,h2,rfl,Zdg,?_⟩;rw[Zfv];refine ZhL (fun hb=>?_) fun hb=>?_
 .have hzg:z∉gs:=by simpa using hb
  have hlt:gs.length<L.length:=by
   have:=Zaf (l:=z::gs) (Yae.mpr ⟨hzg,hP.nd⟩) (m:=L) fun y hy=>by
    rcases Yn.mp hy with rfl|hy
    .exact hz
    .exact hgL y hy
   rw[List.length_cons]at this;exact this
  obtain⟨i,hi⟩:=List.getElem?_of_mem hz;obtain⟨v,hv⟩:∃v,vs[i]? = some v:=⟨_,Yg (by rw[hvl];exact(Yh.mp hi).1)⟩;obtain⟨p2,zs,rfl,hp2,hR⟩:=hvs i v hv;obtain⟨y,t,rfl,hyL,hle⟩:=hR z hi;refine⟨_,fun ρ' A' h=>h,?_⟩;walk_at "d";refine⟨⟨_,h2⟩,_,h2,Z2 (by rw[Yc];lia),?_⟩;have e3:Ext A (updA A2 p (.lst (gs.map U.str++[.str z]))):=ZaM e2 hp;have h3:updA A2 p (.lst (gs.map U.str++[.str z])) p=some (.lst ((gs++[z]).map U.str)):=by rw[Zc,Yt];rfl
  generalize updA A2 p (.lst (gs.map U.str++[.str z]))=A3 at e3 h3 ⊢;walk_at "d";refine⟨ep,_,_,e3 _ _ hA,Zah hLn hi hv,?_⟩;walk_at "d";refine⟨_,_,e3 _ _ hp2,Zai (j:=0) rfl,⟨_,?_,gs++[z],y,rfl,rfl,e3,h3,hP.add hzg hle,hyL,fun x hx=>?_⟩⟩
  .rw[Ys,List.length_singleton];lia
  .rcases Yz.mp hx with hx|hx
   .exact hgL x hx
   .rw[Yp.mp hx];exact hz
 .have hzg:z∈gs:=by simpa using hb
  obtain⟨j,hj⟩:=List.getElem?_of_mem hzg;have hjl:=(Yh.mp hj).1;walk_at "d";refine⟨⟨_,h2⟩,gs,j,h2,hj,fun m hm e=>?_,_,h2,fun l hl=>fg (q _ l (gs.drop j) (e2.trans (Ext.new hl)) (Za2 e2 hl) ?_ (hP.cyc hj) fun x hx=>hgL x (List.mem_of_mem_drop hx))⟩
  .have:=Zad hP.nd e hj;lia
  .rw[Zc,Zb8,Zip _ _ (by lia)]
end
def ZfA(P:Program)(w:World)(D:Addr):Zc7:=fun us A Q X=>∃(d:Addr)(ns:List Str)(vs:List U)(ep:Nat)(le:Str->Str->Prop),us=[.ref d]/\A d=some (dS P w ep (ns.zip vs))/\vs.length=ns.length/\ns.Nodup/\ns.length<=60/\(∀z∈ns,PyData.strOk z=true)/\DLs A vs (fun k zs=>zs.length<=60/\∀z,ns[k]? = some z->∀y,y∈zs↔le z y)/\(∀z∈ns,∀y,le z y->y∈ns)/\((∃rk:Str->Nat,∀z∈ns,∀y,le z y->rk y<rk z)->∀B,Ext A B->Q .non B)/\∀c,Cyc le c->(∀z∈c,z∈ns)->∀B l,Ext A B->A l=none->B l=some (.lst (List.map U.str c))->X D [("circle",.ref l)] B
def Znx{ns L K:List Str}{le:Str->Str->Prop}{rk:Str->Nat}(hn:∀z∈ns,∀y,le z y->y∈ns)(h:∀z∈ns,z∉L->rk z<n/\∀y,le z y->y∉L/\rk y<rk z)(hK:∀z,z∈K↔z∈L/\∃y∈L,le z y):
  ∃rk':Str->Nat,∀z∈ns,z∉K->rk' z<n+1/\∀y,le z y->y∉K/\rk' y<rk' z:=by
 have hKL:∀z,z∉L->z∉K:=fun z hz hk=>hz ((hK z).mp hk).1;refine⟨fun z=>if z∈L then n else rk z,fun z hz hzK=>?_⟩;by_cases hzL:z∈L
 .have hno:∀y,le z y->y∉L:=fun y hy hyL=>hzK ((hK z).mpr ⟨hzL,y,hyL,hy⟩);refine⟨by simp only[if_pos hzL];lia,fun y hy=>⟨hKL y (hno y hy),?_⟩⟩;simp only[if_pos hzL,if_neg (hno y hy)];exact(h y (hn z hz y hy) (hno y hy)).1
 .obtain⟨h1,h2⟩:=h z hz hzL;refine⟨by simp only[if_neg hzL];lia,fun y hy=>?_⟩;obtain⟨h3,h4⟩:=h2 y hy;refine⟨hKL y h3,?_⟩;simp only[if_neg hzL,if_neg h3];exact h4
section
include T
def Zhz:T.F_qg.Ok (CXX P w) 5 (Zcm K (ZfA P w a_Round)):=by
 have G_qx:=ZkX T;have G_q8:=Zi4 T;apply T.F_qg.okX;walk_at "f";exact fun S hr hE=>⟨_,(Ze (ZC (i:=1) S.nd rfl (Or.inr rfl) (ZdT (ZcG rfl) T.n_list (Zb (pv 0) Zg)))
   (Zh (Zcb (Zgq Zcv) (Zep (pv 1) (fun _=>rfl)) (Ze (ZC (i:=2) S.nd rfl (Or.inr rfl) (ZcP (ts:=["name"]) (frs':=[("leans_by",0),("left",1)]) (cl:=_) rfl ⟨(by rfl),rfl,(by decide +kernel),(by decide +kernel),(ZB (by rfl) (ZB (by rfl) ZJ)),(Zal (by rfl) (by rfl)),(ZB ⟨(by rfl),(by first|exact .inl rfl|exact .inr rfl),(by first|exact .inl rfl|exact .inr rfl),(by rfl)⟩ (ZB ⟨(by rfl),(by first|exact .inl rfl|exact .inr rfl),(by first|exact .inl rfl|exact .inr rfl),(by rfl)⟩ ZJ))⟩ (Zab (pv 1)) (fun _ _ _ _=>Zq (i:=0) (show List.Nodup (["name","leans_by","left"]:List Str)from by decide +kernel) rfl (Or.inl rfl) (.inr rfl)) (fun _ _ _ _=>Zak) (fun _ _ _ _=>by exact(pv 0)) (fun _ _ _ _=>by exact(Za3 (ts:=["one"]) (frs':=[("left",2)]) (cl:=_) rfl ⟨(by rfl),rfl,(by decide +kernel),(by decide +kernel),(ZB (by rfl) ZJ),(Zal (by rfl) (by rfl)),(ZB ⟨(by rfl),(by first|exact .inl rfl|exact .inr rfl),(by first|exact .inl rfl|exact .inr rfl),(by rfl)⟩ ZJ)⟩ (Zab (ZI (ZlL P w rfl rfl) (pv 1) (pv 0) (fun _ _=>rfl))) (fun _ _ _ _=>Zq (i:=0) (show List.Nodup (["one","left"]:List Str)from by decide +kernel) rfl (Or.inl rfl) (.inr rfl)) (fun _ _ _ _=>(ZbF (Zp (Zwd K rfl) (pv 0) (pv 1) (by with_unfolding_all rfl)))) (fun _ _ _ _=>by exact(pv 0))))))
   (Ze (Zek (i:=3) S.nd rfl (Or.inl rfl) (by with_unfolding_all rfl) (ts:=["name"]) (frs':=[("leaning",2)]) (cl:=_) rfl ⟨(by rfl),rfl,(by decide +kernel),(by decide +kernel),(ZB (by rfl) ZJ),(Zal (by rfl) (by rfl)),(ZB ⟨(by rfl),(by first|exact .inl rfl|exact .inr rfl),(by first|exact .inl rfl|exact .inr rfl),(by rfl)⟩ ZJ)⟩ (Zab (pv 1)) (fun _ _ _ _=>Zq (i:=0) (show List.Nodup (["name","leaning"]:List Str)from by decide +kernel) rfl (Or.inl rfl) (.inr rfl)) (fun _ _ _ _=>(ZbF (Zep (ZI (ZlL P w rfl rfl) (pv 1) (pv 0) (fun _ _=>rfl)) (fun _=>rfl)))) (fun _ _ _ _=>by exact(pv 0)))
   (Ze (ZQ (Zp (ZaV hr) (pv 3) (pv 1) (ZE _)) (Zh (Zc6 rfl T.K_Round G_q8.mn hr (by rfl) T.m_Round T.F_q8.b (Zb (T.F_qx.pc G_qx hr (Zb (ZI ZaI (pv 1) Zl (fun _ _=>rfl)) (Zb (pv 2) Zg))) Zg))) Zz)
   (Zh (ZC (i:=1) S.nd rfl (Or.inr rfl) (pv 3))))))))),(Zj (Zu (ZY Zb4 (Zd Za Zf)) Zi)
   (ZbZ (Ziu Za) (Zj (Zu (Zb1 (ZO ZR Za) Zi ZaB Za (Zaz (ZO ZR (Zk ZaZ Za Za)) Zi (Zo (Zk Zi0 Za Za)) Za)) Zi)
   (Zj (Zu (Zaz (ZO ZR Za) Zi (Ziu (Zk ZaZ Za Za)) Za) Zi)
   (Zj (ZT (Zo (Zk ZaN Za Za)) (Ziw hE (Zd (Zw (Zd (Zk ZM Za Zm) (Zd Za Zf))) Zf)) Zy)
   (Zu Za Zi))))))⟩
 rintro us A Q X ⟨d,ns,vs,ep,le,rfl,hA,hvl,hnd,hnl,hok,hvs,hnn,q,qx⟩;walk_at "o";refine⟨ep,_,hA,fun l0 hl0=>?_⟩;rw[show(ns.zip vs).map fK=ns.map U.str from by rw[<- ZaP (xs:=ns) (ys:=vs) hvl.symm,Yai,ZaP hvl.symm];rfl];walk_at "d";refine⟨fun m ρ A2=>∃(l:Addr)(L:List Str)(x2 x3:Option U)(rk:Str->Nat)(n:Nat),m=L.length/\ρ=[some (.ref d),some (.ref l),x2,x3]/\Ext A A2/\A2 l=some (.lst (L.map U.str))/\L.Nodup/\(∀z∈L,z∈ns)/\∀z∈ns,z∉L->rk z<n/\∀y,le z y->y∉L/\rk y<rk z,⟨_,l0,ns,_,_,fun _=>0,0,rfl,rfl,Ext.new hl0,Zc,hnd,fun z h=>h,fun z h h'=>absurd h h'⟩,?_⟩;rintro m ρ A2 ⟨l,L,x2,x3,rk,n,rfl,rfl,e2,hl,hLn,hLs,hrk⟩;have hLl:L.length<=60:=YB (Zaf hLn hLs) hnl;walk_at "d";refine⟨_,hl,ZhL (fun hne=>?_) fun he=>?_⟩;rotate_left
 .have he:L=[]:=by cases L with|nil=>rfl|cons=>cases he
  subst he;exact fg (q ⟨rk,fun z hz y hy=>((hrk z hz (fun h=>nomatch h)).2 y hy).2⟩ A2 e2)
 have hne:L≠[]:=fun e=>by rw[e]at hne;cases hne
 refine⟨_,fun ρ' A' h=>h,?_⟩;walk_at "d";refine⟨⟨_,hl⟩,fun d3 hd3=>?_⟩;walk_at "c";refine Zfe (L.map U.str) L (by rw[Yc]) hLn (fun k v A3=>∃p zs,v=.ref p/\A3 p=some (.lst (List.map U.str zs))/\∀z,L[k]? = some z->∀y,y∈zs↔y∈L/\le z y) (fun τ=>∃x,τ=[x,some (.ref d),some (.ref l)]) ⟨_,rfl⟩ hd3 (by rw[Yc];lia) (fun k A2 _ e3=>⟨_,e3 _ _ hl,rfl⟩) ?_ ?_ ?_
 .rintro k v A1 B h1 h2 ⟨p,zs,rfl,h3,h4⟩;refine⟨p,zs,rfl,h2 _ _ (fun e=>?_) h3,h4⟩;rcases h1 with h1|⟨ep,kus,h1⟩
  .rw[e,h1]at h3;cases h3
  .rw[e,h1]at h3;cases h3
 .rintro k u z τ A3 hu hz ⟨x,rfl⟩ e3 Cy hC;rw[Yi,hz]at hu;cases hu;obtain⟨i,hi⟩:=List.getElem?_of_mem (hLs z (Yk hz));obtain⟨v,hv⟩:∃v,vs[i]? = some v:=⟨_,Yg (by rw[hvl];exact(Yh.mp hi).1)⟩;obtain⟨p,zs,rfl,hp,hzl,hzr⟩:=hvs i v hv;have eA:=e2.trans e3;walk_at "d";refine⟨ep,_,_,eA _ _ hA,Zah hnd hi hv,?_⟩;walk_at "d";refine⟨⟨_,eA _ _ hp⟩,fun l4 hl4=>?_⟩;walk_at "c";refine ZmO (zs.map U.str) (fun j=>decide ((zs[j]?.getD z)∈L)) (fun j=>.str (zs[j]?.getD z)) hl4 (by rw[Yc];lia) (fun j A4 _ e4=>⟨_,e4 _ _ (eA _ _ hp),rfl⟩) ?_ ?_
  .intro j u A4 hu e4 Cy' Cn hy hn;obtain⟨y,hy1,rfl⟩:=Z7 hu;rw[hy1]at hy hn;walk_at "d";refine⟨_,e4 _ _ (e3 _ _ hl),rfl,Zdg,?_⟩;rw[Zfv];exact ZhL hy hn
  .refine hC _ _ _ ⟨_,rfl⟩ (Ext.new hl4) ⟨l4,((List.range (zs.map U.str).length).filter fun j=>decide ((zs[j]?.getD z)∈L)).map fun j=>zs[j]?.getD z,rfl,by rw[Zc,Yai];rfl,fun z' hz' y=>?_⟩;rw[hz]at hz';cases hz';rw[<- hzr z hi y];constructor
   .intro hy;obtain⟨j,hj,rfl⟩:=YQ.mp hy;obtain⟨hj1,hj2⟩:=List.mem_filter.mp hj;rw[YaJ,Yc]at hj1;refine⟨Yak hj2,?_⟩;rw[Yg hj1];exact YaX hj1
   .rintro⟨h1,h2⟩;obtain⟨j,hj⟩:=List.getElem?_of_mem h2;refine YQ.mpr ⟨j,List.mem_filter.mpr ⟨?_,?_⟩,by rw[hj];rfl⟩
    .rw[YaJ,Yc];exact(Yh.mp hj).1
    .rw[hj];exact YC h1
 intro B vs2 ep3 eB hBd hvl2 hvs2;walk_at "d";have hd3l:l≠d3:=neA hl hd3;refine⟨⟨_,by rw[Zn hd3l];exact eB _ _ hl⟩,fun l5 hl5=>?_⟩;walk_at "c";have hB0:updA B d3 (dS P w ep3 (L.zip vs2)) d3=some (dS P w ep3 (L.zip vs2)):=Zc;have eB1:Ext B (updA B d3 (dS P w ep3 (L.zip vs2))):=Ext.new hBd;generalize updA B d3 (dS P w ep3 (L.zip vs2))=B1 at hl5 hB0 eB1 ⊢;have hl1:=eB1 _ _ (eB _ _ hl);have hl5l:l≠l5:=neA hl1 hl5;refine ZoE (L.map U.str) (fun k ys A3=>∃K,ys=List.map U.str K/\K.Sublist (L.take k)/\(∀z,z∈K↔z∈L.take k/\∃y∈L,le z y)/\A3=updA B1 l5 (.lst ys)) ⟨[],rfl,List.nil_sublist _,fun z=>⟨fun h=>(nomatch h),fun h=>nomatch h.1⟩,rfl⟩ (by rw[Yc];lia) (fun k ys A3 hq0=>by obtain⟨K,e,hs,_,_⟩:=hq0;rw[e,Yc];exact YB hs.length_le (by rw[YL];lia)) (fun k ys A3 _ ⟨K,_,_,_,e⟩=>⟨_,by rw[e,Zn hl5l];exact hl1,rfl⟩) ?_ ?_
 .rintro k u ys A3 hu ⟨K,rfl,hs,hK,rfl⟩ Cy Cn hy hn;obtain⟨z,hz,rfl⟩:=Z7 hu;have hk:=(Yh.mp hz).1;obtain⟨v,hv⟩:∃v,vs2[k]? = some v:=⟨_,Yg (by rw[hvl2,Yc];exact hk)⟩;obtain⟨p,zs,rfl,hp,hzr⟩:=hvs2 k v hv;have hp1:=eB1 _ _ hp;have ht:L.take (k+1)=L.take k++[z]:=by rw[List.take_succ_eq_append_getElem hk,(Yh.mp hz).2]
  have hzz:(zs≠[])↔∃y∈L,le z y:=by
   constructor
   .intro h;cases zs with
    | nil=>exact absurd rfl h
    | cons y zs=>obtain⟨a,b⟩:=(hzr z hz y).mp (.head _);exact⟨y,a,b⟩
   .rintro⟨y,a,b⟩ e;have:=(hzr z hz y).mpr ⟨a,b⟩;rw[e]at this;cases this
  walk_at "d";refine⟨ep3,_,_,by rw[Zn (neA hB0 hl5)];exact hB0,Zah hLn hz hv,?_⟩;walk_at "d";refine⟨_,by rw[Zn (neA hp1 hl5)];exact hp1,ZhL (fun h=>?_) fun h=>?_⟩
  .have hzs:zs≠[]:=fun e=>by rw[e]at h;cases h
   refine hy _ _ Zc ⟨K++[z],by rw[Yt];rfl,by rw[ht];exact hs.append (List.Sublist.refl _),fun z'=>?_,by rw[ZK]⟩;rw[ht,Yz,Yz,hK];constructor
   .rintro(h|h)
    .exact⟨.inl h.1,h.2⟩
    .rw[Yp]at h;subst h;exact⟨.inr (.head _),hzz.mp hzs⟩
   .rintro⟨h|h,h2⟩
    .exact .inl ⟨h,h2⟩
    .exact .inr h
  .have hzs:zs=[]:=by cases zs with|nil=>rfl|cons=>cases h
   refine hn _ ⟨K,rfl,by rw[ht];exact hs.trans (List.sublist_append_left _ _),fun z'=>?_,rfl⟩;rw[ht,Yz,hK];constructor
   .exact fun h=>⟨.inl h.1,h.2⟩
   .rintro⟨h|h,h2⟩
    .exact⟨h,h2⟩
    .rw[Yp]at h;subst h;exact absurd hzs (hzz.mpr h2)
 rintro ys A3 ⟨K,rfl,hs,hK,rfl⟩;rw[Yc,YZ]at hs hK;have e5:=((e2.trans eB).trans eB1).trans (Ext.new hl5 (o:=.lst (K.map U.str)));refine Zcl (decide (K=L)) (fun B2 hB2=>?_) ?_
 .walk_at "d";exact Zd1 (fun z hz=>hok z (hLs z (hs.subset hz))) (fun z hz=>hok z (hLs z hz)) Zc (by rw[Zn hl5l];exact hl1) ⟨_,rfl,hB2⟩
 by_cases hKL:K=L
 .refine ZX (YC hKL) ?_;subst hKL;walk_at "d";obtain⟨z0,L0,hL0⟩:∃z0 L0,K=z0::L0:=by
   cases K with
   | nil=>exact absurd rfl hne
   | cons a b=>exact⟨a,b,rfl⟩
  refine⟨_,_,by rw[Zn hl5l];exact hl1,Zai (j:=0) (by rw[hL0];rfl),?_⟩;refine⟨z0,d3,K,vs2,ep3,le,rfl,by rw[Zn (neA hB0 hl5)];exact hB0,by rw[hvl2,Yc],hLn,hLl,fun k v hv=>?_,by rw[hL0];exact .head _,fun B6 l6 c e6 hl6 hB6 hc hcL=>?_⟩
  .obtain⟨p,zs,h1,h2,h3⟩:=hvs2 k v hv;refine⟨p,zs,h1,Ext.new hl5 _ _ (eB1 _ _ h2),fun z hz=>?_⟩;obtain⟨_,y,hy,hle⟩:=(hK z).mp (Yk hz);have hm:=(h3 z hz y).mpr ⟨hy,hle⟩;cases zs with
   | nil=>cases hm
   | cons a t=>obtain⟨h4,h5⟩:=(h3 z hz a).mp (.head _);exact⟨a,t,rfl,h4,h5⟩
  .have e7:=e5.trans e6;exact⟨l6,_,rfl,hB6,fun l7 hl7=>qx c hc (fun z hz=>hLs z (hcL z hz)) _ l7 (e7.trans (Ext.new hl7)) (Za2 e7 hl7) Zc⟩
 .refine ZA (Yw hKL) ?_;walk_at "d";obtain⟨rk',hrk'⟩:=Znx hnn hrk hK;exact⟨_,Nat.lt_of_le_of_ne hs.length_le fun e=>hKL (hs.eq_of_length e),l5,K,_,_,rk',n+1,rfl,rfl,e5,Zc,hLn.sublist hs,fun z hz=>hLs z (hs.subset hz),hrk'⟩
end
structure Zen (P:Program) (w:World) (C:Addr) (A:AHp) (b:Addr) (ps:List (Str×Addr)) (rs:List Rl):Prop where
 mk ::
 all : ∃(dx d1 d2 d3 d4:Addr)(e1 e2 e3 e4:Nat)(v3 v4:List U),A b=some (.ins C dx [("rule_by",.ref d1),("least_by",.ref d2),("leans_by",.ref d3),("speaks_by",.ref d4)])/\A d1=some (dS P w e1 (rbU ps))/\A d2=some (dS P w e2 (lsU ps rs))/\A d3=some (dS P w e3 ((ps.map (·.1)).zip v3))/\A d4=some (dS P w e4 ((ps.map (·.1)).zip v4)) /\
  v3.length=ps.length/\DLs A v3 (lnR (bkV ps rs) rs)/\v4.length=ps.length/\DLs A v4 fun k zs=>∀z,(ps.map (·.1))[k]? = some z->Zst (bkF ps rs) z zs
def Zen.ext(h:Zen P w C A b ps rs)(e:Ext A B):Zen P w C B b ps rs:=by
 obtain⟨dx,d1,d2,d3,d4,e1,e2,e3,e4,v3,v4,h0,h1,h2,h3,h4,h5,h6,h7,h8⟩:=h.all;exact⟨dx,d1,d2,d3,d4,e1,e2,e3,e4,v3,v4,e _ _ h0,e _ _ h1,e _ _ h2,e _ _ h3,e _ _ h4,h5,h6.ext e,h7,h8.ext e⟩
structure Zwq (ps:List (Str×Addr)) (rs:List Rl):Prop where
 ok:∀z∈ps.map (·.1),PyData.strOk z=true
 hp:∀r∈rs,r.hp (bkV ps rs)=false
 rk:∃rk:Str->Nat,∀(k:Nat) z r,(ps.map (·.1))[k]? = some z->rs[k]? = some r->∀y∈r.lean (bkV ps rs),rk y<rk z
def leB(ps:List (Str×Addr))(rs:List Rl)(z y:Str):Prop:=∃(k:Nat)(r:Rl),(ps.map (·.1))[k]? = some z/\rs[k]? = some r/\y∈r.lean (bkV ps rs)
def ZdQ(P:Program)(w:World)(C DH DR:Addr)(cs:Nat->Addr):Zc7:=fun us A Q X=>∃(x dx l:Addr)(A0:AHp)(ps:List (Str×Addr))(rs:List Rl),us=[.ref x,.ref l]/\A=updA A0 x (.ins C dx [])/\A0 x=none/\A0 l=some (.lst (ps.map fun p=>.tup [.str p.1,.ref p.2]))/\ZfH cs A0 ps rs/\(∀z∈ps.map (·.1),z.length<=8/\PyData.strOk z=true)/\((∀r∈rs,r.hp (bkV ps rs)=false)->(∃rk:Str->Nat,∀z∈ps.map (·.1),∀y,leB ps rs z y->rk y<rk z)->∀B,Ext A0 B->Zen P w C B x ps rs->Q .non B)/\(∀(k:Nat) z r,(ps.map (·.1))[k]? = some z->rs[k]? = some r->r.hp (bkV ps rs)=true->(∀(j:Nat) r',j<k->rs[j]? = some r'->r'.hp (bkV ps rs)=false)->∀B,Ext A0 B->X DH [("name",.str z)] B)/\((∀r∈rs,r.hp (bkV ps rs)=false)->∀c,Cyc (leB ps rs) c->(∀z∈c,z∈ps.map (·.1))->∀B l,Ext A0 B->A0 l=none->B l=some (.lst (List.map U.str c))->X DR [("circle",.ref l)] B)
def DLs.kp(h:DLs A vs R)(e:∀p us,A p=some (.lst us)->B p=some (.lst us)):DLs B vs R:=fun k v hv=>by
 obtain⟨p,zs,h1,h2,h3⟩:=h k v hv
 exact⟨p,zs,h1,e _ _ h2,h3⟩
def DLs.ins(h:DLs A vs R)(hx:A x=some (.ins C dx fs)):DLs (updA A x o) vs R:=h.kp fun p us hp=>by
 rw[Zn fun e=>by rw[e,hx]at hp;cases hp]
 exact hp
def lkh{r:List (Str×U)}:List.lookup a ((a,u)::r)=some u:=List.lookup_cons_self
def lkt{r:List (Str×U)}(h:(b==a)=false)(k:List.lookup b r=o):List.lookup b ((a,u)::r)=o:=by rw[List.lookup_cons,h];exact k
def bp1:Zct "least_by" v [(("rule_by":Str),u)]=[(("rule_by":Str),u),(("least_by":Str),v)]:=ZaH (by simp;decide +kernel)
def bp2:Zct "leans_by" x [(("rule_by":Str),u),(("least_by":Str),v)]=[(("rule_by":Str),u),(("least_by":Str),v),(("leans_by":Str),x)]:=ZaH (by simp;decide +kernel)
def bp3:Zct "speaks_by" y [(("rule_by":Str),u),(("least_by":Str),v),(("leans_by":Str),x)]=[(("rule_by":Str),u),(("least_by":Str),v),(("leans_by":Str),x),(("speaks_by":Str),y)]:=ZaH (by simp;decide +kernel)
section
include T
def Zfc:T.F_qb.Ok (CXX P w) 70 (Zcm K (ZdQ P w a_Book a_Hollow a_Round cS)):=by
 have G_qa:=Zlu T;have G_q7:=ZjH T;have G_q0:=Zkn T;have G_qh:=Zk8 T;have G_qg:=Zhz T;have G_qj:=ZiX T;apply T.F_qb.okX;walk_at "f";exact fun S hr hE=>⟨_,(Ze (Za6 (pv 0) (T.F_qa.pc G_qa hr (Zb (pv 1) Zg)) rfl)
   (Ze (Za6 (pv 0) (T.F_q7.pc G_q7 hr (Zb (Z4 (pv 0) rfl) Zg)) rfl)
   (Ze (ZU (Zf9 Zcv G_q0.mn hr (by rfl) T.F_q0.m T.F_q0.f.kp T.F_q0.b (Zb (Z4 (pv 0) rfl) (Zb (Z4 (pv 0) rfl) Zg))))
   (Ze (Za6 (pv 0) (T.F_qh.pc G_qh hr (Zb (Z4 (pv 0) rfl) (Zb (Z4 (pv 0) rfl) Zg))) rfl)
   (Ze (ZU (Zf9 Zcv G_qg.mn hr (by rfl) T.F_qg.m T.F_qg.f.kp T.F_qg.b (Zb (Z4 (pv 0) rfl) Zg)))
   (Zh (Za6 (pv 0) (ZcP (ts:=["name"]) (frs':=[("self",0)]) (cl:=_) rfl ⟨(by rfl),rfl,(by decide +kernel),(by decide +kernel),(ZB (by rfl) ZJ),(Zal (by rfl) (by rfl)),(ZB ⟨(by rfl),(by first|exact .inl rfl|exact .inr rfl),(by first|exact .inl rfl|exact .inr rfl),(by rfl)⟩ ZJ)⟩ (ZnR (Z4 (pv 0) rfl)) (fun _ _ _ _=>Zq (i:=0) (show List.Nodup (["name","self"]:List Str)from by decide +kernel) rfl (Or.inl rfl) (.inr rfl)) (fun _ _ _ _=>Zak) (fun _ _ _ _=>by exact(pv 0)) (fun _ _ _ _=>by exact(T.F_qj.pc G_qj hr (Zb (pv 0) (Zb (Z4 (pv 1) rfl) Zg))))) rfl))))))),(Zj (ZaF Za (Zw (Zd Za Zf)))
   (Zj (ZaF Za (Zw (Zd (Z5 Za) Zf)))
   (Zj (Z1 (Zgz hE (Zd (Z5 Za) (Zd (Z5 Za) Zf))))
   (Zj (ZaF Za (Zw (Zd (Z5 Za) (Zd (Z5 Za) Zf))))
   (Zj (Z1 (Zgz hE (Zd (Z5 Za) Zf)))
   (ZaF Za (Zb1 (ZO Zi9 (Z5 Za)) Zi ZaB Za (Zw (Zd Za (Zd (Z5 Za) Zf))))))))))⟩
 rintro us A Q X ⟨x,dx,l,A0,ps,rs,rfl,rfl,hx,hl,hB,h8,q,q2,q3⟩;walk_at "o";refine⟨l,ps,rs,rfl,Ext.new hx _ _ hl,hB.ext (Ext.new hx),fun B1 d1 ep1 e1 hd1 h1=>?_⟩;have hx1:=e1 _ _ Zc;replace e1:Ext A0 B1:=(Ext.new hx).trans e1;have n1:d1≠x:=fun e=>by rw[e,Zc]at hd1;cases hd1
 walk_at "d";refine⟨x,_,dx,_,rfl,hx1,T.L_Book,T.N_Book_rule_by,by decide,x,_,dx,_,_,rfl,Zc,T.L_Book,T.N_Book_rule_by,by rw[Zkb];exact lkh,?_⟩;rw[Zkb];refine⟨d1,ps,rs,ep1,rfl,by rw[Zn n1];exact h1,hB.ext (ZaM e1 hx),fun B2 d2 ep2 e2 hd2 h2=>?_⟩;have hx2:=e2 _ _ Zc;replace h1:=e2 _ _ (show updA B1 x _ d1=some (dS P w ep1 (rbU ps)) by rw[Zn n1];exact h1);replace e2:Ext A0 B2:=(ZaM e1 hx).trans e2;have n2:d2≠x:=fun e=>by rw[e,Zc]at hd2;cases hd2
 clear hd1 hd2 hx1 e1;walk_at "d";refine⟨x,_,dx,_,rfl,hx2,T.L_Book,T.N_Book_least_by,by show(1:Nat)<1000;decide,?_⟩;rw[bp1];have hx3:updA B2 x (.ins a_Book dx [("rule_by",.ref d1),("least_by",.ref d2)]) x=some (.ins a_Book dx [("rule_by",.ref d1),("least_by",.ref d2)]):=Zc;have e3:Ext A0 (updA B2 x (.ins a_Book dx [("rule_by",.ref d1),("least_by",.ref d2)])):=ZaM e2 hx;replace h1:updA B2 x (.ins a_Book dx [("rule_by",.ref d1),("least_by",.ref d2)]) d1=some (dS P w ep1 (rbU ps)):=by rw[Zn n1];exact h1
 replace h2:updA B2 x (.ins a_Book dx [("rule_by",.ref d1),("least_by",.ref d2)]) d2=some (dS P w ep2 (lsU ps rs)):=by rw[Zn n2];exact h2
 generalize updA B2 x (.ins a_Book dx [("rule_by",.ref d1),("least_by",.ref d2)])=B3 at hx3 e3 h1 h2 ⊢;clear hx2 e2;walk_at "d";refine⟨x,_,dx,_,_,rfl,hx3,T.L_Book,T.N_Book_rule_by,lkh,x,_,dx,_,_,rfl,hx3,T.L_Book,T.N_Book_least_by,lkt (by decide +kernel) lkh,d1,d2,ps,rs,ep1,ep2,rfl,h1,h2,hB.ext e3,fun z hz=>(h8 z hz).1,fun hhp B4 e4=>?_,fun k z r g1 g2 g3 g4 B e=>q2 k z r g1 g2 g3 g4 B (e3.trans e)⟩;replace hx3:=e4 _ _ hx3;replace h1:=e4 _ _ h1;replace h2:=e4 _ _ h2;replace e3:=e3.trans e4;clear e4;walk_at "d";refine⟨x,_,dx,_,_,rfl,hx3,T.L_Book,T.N_Book_rule_by,lkh,x,_,dx,_,_,rfl,hx3,T.L_Book,T.N_Book_least_by,lkt (by decide +kernel) lkh,d1,d2,ps,rs,ep1,ep2,rfl,h1,h2,hB.ext e3,fun B5 d3 ep3 v3 e5 hd3 h3 hv3 hD3=>?_⟩;replace hx3:=e5 _ _ hx3;replace h1:=e5 _ _ h1;replace h2:=e5 _ _ h2;replace e3:=e3.trans e5;have n3:d3≠x:=fun e=>by rw[e]at h3;rw[h3]at hx3;cases hx3
 clear e5 hd3;walk_at "d";refine⟨x,_,dx,_,rfl,hx3,T.L_Book,T.N_Book_leans_by,by show(2:Nat)<1000;decide,?_⟩;rw[bp2];have hx6:updA B5 x (.ins a_Book dx [("rule_by",.ref d1),("least_by",.ref d2),("leans_by",.ref d3)]) x=some (.ins a_Book dx [("rule_by",.ref d1),("least_by",.ref d2),("leans_by",.ref d3)]):=Zc;have e6:Ext A0 (updA B5 x (.ins a_Book dx [("rule_by",.ref d1),("least_by",.ref d2),("leans_by",.ref d3)])):=ZaM e3 hx;replace h1:updA B5 x (.ins a_Book dx [("rule_by",.ref d1),("least_by",.ref d2),("leans_by",.ref d3)]) d1=some (dS P w ep1 (rbU ps)):=by rw[Zn n1];exact h1
 replace h2:updA B5 x (.ins a_Book dx [("rule_by",.ref d1),("least_by",.ref d2),("leans_by",.ref d3)]) d2=some (dS P w ep2 (lsU ps rs)):=by rw[Zn n2];exact h2
 replace h3:updA B5 x (.ins a_Book dx [("rule_by",.ref d1),("least_by",.ref d2),("leans_by",.ref d3)]) d3=some (dS P w ep3 ((ps.map (·.1)).zip v3)):=by rw[Zn n3];exact h3
 replace hD3:=hD3.ins hx3 (o:=.ins a_Book dx [("rule_by",.ref d1),("least_by",.ref d2),("leans_by",.ref d3)]);generalize updA B5 x (.ins a_Book dx [("rule_by",.ref d1),("least_by",.ref d2),("leans_by",.ref d3)])=B6 at hx6 e6 h1 h2 h3 hD3 ⊢;clear hx3 e3;have hpl:=hB.len;walk_at "d";refine⟨x,_,dx,_,_,rfl,hx6,T.L_Book,T.N_Book_leans_by,lkt (by decide +kernel) (lkt (by decide +kernel) lkh),d3,ps.map (·.1),v3,ep3,leB ps rs,rfl,h3,by rw[hv3,Yc],hB.nd,by rw[Yc];exact hpl,fun z hz=>(h8 z hz).2,fun k v hv=>?_,fun z hz y ⟨k,r,g1,g2,g3⟩=>(hB.sz r (Yk g2)).2.2 y (Rl.lean_nms g3),fun hrk B7 e7=>?_,fun c hc hcn B l e hl hBl=>q3 hhp c hc hcn B l (e6.trans e) (Za2 e6 hl) hBl⟩
 .obtain⟨p,zs,f1,f2,f3⟩:=hD3 k v hv;have hk:k<ps.length:=by rw[<- hv3];exact(Yh.mp hv).1
  obtain⟨r,hr,ho,g1,g2,g3⟩:=hB.get (Yg hk);have so:=f3 r hr;refine⟨p,zs,f1,f2,?_,fun z hz y=>?_⟩
  .have:=Zaf so.nd (m:=ps.map (·.1)) fun y hy=>g3 y (Rl.lean_nms ((so.mem y).mp hy));rw[Yc]at this;lia
  .rw[so.mem];constructor
   .exact fun h=>⟨k,r,hz,hr,h⟩
   .rintro⟨k',r',h1,h2,h3⟩;have:=Zad hB.nd h1 hz;subst this;rw[hr]at h2;cases h2;exact h3
 replace hx6:=e7 _ _ hx6;replace h1:=e7 _ _ h1;replace h2:=e7 _ _ h2;replace h3:=e7 _ _ h3;replace e6:=e6.trans e7;replace hD3:=hD3.ext e7;clear e7;walk_at "d";refine⟨x,_,dx,_,_,rfl,hx6,T.L_Book,T.N_Book_rule_by,lkh,?_⟩;walk_at "d";refine⟨ep1,_,h1,fun d4 hd4=>?_⟩;walk_at "c";have hlen:((rbU ps).map fK).length=(ps.map (·.1)).length:=by unfold rbU;simp
 refine Zfe ((rbU ps).map fK) (ps.map (·.1)) hlen.symm hB.nd (fun k v A2=>∃p zs,v=.ref p/\A2 p=some (.lst (List.map U.str zs))/\∀z,(ps.map (·.1))[k]? = some z->Zst (bkF ps rs) z zs) (fun τ=>∃u,τ=[u,some (.ref x)]) ⟨_,rfl⟩ hd4 (by rw[hlen,Yc];lia) (fun k A2 _ e3=>⟨_,e3 _ _ h1,by simp[rbU],rfl⟩) ?_ ?_ ?_
 .rintro k v A1 B h1 h2 ⟨p,zs,rfl,h3,h4⟩;refine⟨p,zs,rfl,h2 _ _ (fun e=>?_) h3,h4⟩;rcases h1 with h1|⟨ep,kus,h1⟩
  .rw[e,h1]at h3;cases h3
  .rw[e,h1]at h3;cases h3
 .rintro k u z τ A3 hu hz ⟨x1,rfl⟩ e8 Cy hC;obtain⟨p,hp,rfl⟩:=Zd2 hu;have hz':=hz;rw[Yi,hp]at hz';cases hz';unfold fK;walk_at "d";refine⟨x,_,dx,_,_,rfl,e8 _ _ hx6,T.L_Book,T.N_Book_rule_by,lkh,p.1,d1,ps,rs,ep1,rfl,Yk hz,e8 _ _ h1,hB.ext (e6.trans e8),fun B9 l9 zs e9 _ h9 hsp=>hC _ _ B9 ⟨_,rfl⟩ e9 ⟨l9,zs,rfl,h9,fun z hz'=>?_⟩⟩;rw[hz]at hz';cases hz';exact hsp
 intro B8 v4 ep4 e8 hBd hv4 hD4;have hx8:updA B8 d4 (dS P w ep4 ((ps.map (·.1)).zip v4)) x=some (.ins a_Book dx [("rule_by",.ref d1),("least_by",.ref d2),("leans_by",.ref d3)]):=Ext.new hBd _ _ (e8 _ _ hx6);have h4:updA B8 d4 (dS P w ep4 ((ps.map (·.1)).zip v4)) d4=some (dS P w ep4 ((ps.map (·.1)).zip v4)):=Zc;have e9:=e8.trans (Ext.new hBd (o:=dS P w ep4 ((ps.map (·.1)).zip v4)));have hD4':DLs (updA B8 d4 (dS P w ep4 ((ps.map (·.1)).zip v4))) v4 fun k zs=>∀z,(ps.map (·.1))[k]? = some z->Zst (bkF ps rs) z zs:=DLs.ext (fun k v hv=>hD4 k v hv) (Ext.new hBd);generalize updA B8 d4 (dS P w ep4 ((ps.map (·.1)).zip v4))=B9 at hx8 h4 e9 hD4' ⊢;have n4:d4≠x:=fun e=>by rw[e,hx8]at h4;cases h4
 refine⟨x,_,dx,_,rfl,hx8,T.L_Book,T.N_Book_speaks_by,by show(3:Nat)<1000;decide,?_⟩;rw[bp3];refine fg (q hhp hrk _ (ZaM (e6.trans e9) hx) ⟨dx,d1,d2,d3,d4,ep1,ep2,ep3,ep4,v3,v4,Zc,by rw[Zn n1];exact e9 _ _ h1,by rw[Zn n2];exact e9 _ _ h2,by rw[Zn n3];exact e9 _ _ h3,by rw[Zn n4];exact h4,hv3,(hD3.ext e9).ins hx8,by rw[hv4,hlen,Yc],hD4'.ins hx8⟩)
end
def Zbm:∀r:Rl,r.dep<=r.size:=by
 intro r;induction r with
 | nothing=>exact Yj _
 | bead c=>exact Yj _
 | named c=>exact Yj _
 | or x y i j=>simp only[Rl.dep,Rl.size];have:=x.sz_pos;have:=y.sz_pos;lia
 | by_ x y i j=>simp only[Rl.dep,Rl.size];have:=x.sz_pos;have:=y.sz_pos;lia
 | hold k x i=>simp only[Rl.dep,Rl.size];lia
def Zgn(xs:List α)(k:Nat):cutL xs none (some (k:Int))=xs.take k:=by
 unfold cutL;rw[show HT.sIx xs.length xs.length (some (k:Int))=min k xs.length from HT.sIx_nat xs.length xs.length k,show HT.sIx xs.length 0 none=0 from rfl,Ybq,Nat.sub_zero];by_cases h:k<=xs.length
 .rw[YaO h]
 .rw[Nat.min_eq_right (by lia),YZ,Yaa (by lia)]
def Zjn:∀ {ys:List U},(∀(k:Nat) y,ys[k]? = some y->∃z:Int,y=.int z)->∃ms:List Int,ys=ms.map U.int
 | [],_=>⟨[],rfl⟩
 | y :: ys,h=>by
  obtain⟨z,rfl⟩:=h 0 y rfl
  obtain⟨ms,rfl⟩:=Zjn (ys:=ys) fun k y hy=>h (k+1) y hy
  exact⟨z::ms,rfl⟩
def ZgK:∀ {ns:List Str} {rs:List Rl} {ys:List U},ys.length=ns.length->rs.length=ns.length->(∀(k:Nat) y,ys[k]? = some y->∃b z r,ns[k]? = some z/\rs[k]? = some r/\y=.tup [.str z,.ref b]/\RlO cs B b r)->∃ps:List (Str×Addr),ys=ps.map (fun p=>.tup [.str p.1,.ref p.2])/\ps.map (·.1)=ns/\Zfq cs B (ps.map (·.2)) rs
 | [],[],[],_,_,_=>⟨[],rfl,rfl,trivial⟩
 | n :: ns,r::rs,y::ys,h1,h2,h=>by
  obtain⟨b,z,r',e1,e2,rfl,ho⟩:=h 0 y rfl
  cases e1
  cases e2
  obtain⟨ps,p1,p2,p3⟩:=ZgK (ns:=ns) (rs:=rs) (ys:=ys) (by simpa using h1) (by simpa using h2) fun k y hy=>h (k+1) y hy
  exact⟨(n,b)::ps,by rw[p1];rfl,by rw[Yq,p2],ho,p3⟩
def Zb9{ns:List Str}{rs:List Rl}{k:Nat}{u:U}(h:((ns.zip (rs.map Rl.toU)).map f)[k]? = some u):∃z r,ns[k]? = some z/\rs[k]? = some r/\u=f (z,r.toU):=by
 rw[Yi]at h;obtain⟨p,hp,rfl⟩:=YK.mp h;obtain⟨h1,h2⟩:=List.getElem?_zip_eq_some.mp hp;rw[Yi]at h2;obtain⟨r,hr,e⟩:=YK.mp h2;exact⟨p.1,r,h1,hr,by rw[e]⟩
def DE(kus:List (Str×U))(e:Str->On):Prop:=∀z,kus.lookup z=(e z).map fun n=>U.int n
def ZdF(P:Program)(w:World)(n:Nat):ASp:=fun us A Q=>∃(r:Rl)(d:Addr)(ep:Nat)(kus:List (Str×U))(e:Str->On),us=[r.toU,.ref d]/\r.dep<=n/\A d=some (dS P w ep kus)/\DE kus e/\Q (oU (r.lst e)) A
def Zn6:∀us A Q,¬ZdF P w 0 us A Q:=fun us A Q hq0=>by obtain⟨r,_,_,_,_,_,h,_⟩:=hq0;have:=r.dep_pos;lia
def DE.get(h:DE kus e)(z:Str):(kus.lookup z).getD .non=oU (e z):=by
 rw[h z];cases e z<;>rfl
def ZlO:inU (.str (ZaA k)) [.str "nothing",.str "row",.str "bag",.str "choice"]=decide (k<3):=by
 rcases k with _|_|_|k
 .decide +kernel
 .decide +kernel
 .decide +kernel
 .rw[Yw (by lia),show ZaA (k+1+1+1)=ZaA 3 from rfl];decide +kernel
section
include T
def Zc3(n:Nat):T.F_jb.Ok CX0 (n+1) (Zar K (ZdF P w n)):=by
 induction n with
 | zero=>exact Za7 T.F_jb.f T.F_jb.s Zn6
 | succ n G_jb =>
  apply T.F_jb.okA;walk_at "f";exact fun S hr=>⟨_,(Ze (ZQ (Zp ZpA (ZI ZaI (pv 0) Zl (fun _ _=>rfl)) (ZW (ZbU (xs:=["nothing","row","bag","choice"]) rfl)) (by with_unfolding_all rfl)) (Zh (Zt Zl)) Zz)
   (Ze (ZQ (Zp (ZaV hr) (ZI ZaI (pv 0) Zl (fun _ _=>rfl)) ZF (ZE _)) (Zh (Zt Zl)) Zz)
   (Ze (ZQ (Zp (ZaV hr) (ZI ZaI (pv 0) Zl (fun _ _=>rfl)) ZF (ZE _)) (Zh (Zt (Zex (pv 1) (Zb (ZI ZaI (pv 0) Zl (fun _ _=>rfl)) Zg)))) Zz)
   (Ze (ZC (i:=2) S.nd rfl (Or.inl rfl) (T.F_jb.pc G_jb hr (Zb (ZI ZaI (pv 0) Zl (fun _ _=>rfl)) (Zb (pv 1) Zg))))
   (Ze (ZQ (Zp (ZaV hr) (ZI ZaI (pv 0) Zl (fun _ _=>rfl)) ZF (ZE _)) (Zh (Zt (pv 2))) Zz)
   (Ze (ZC (i:=3) S.nd rfl (Or.inl rfl) (T.F_jb.pc G_jb hr (Zb (ZI ZaI (pv 0) Zl (fun _ _=>rfl)) (Zb (pv 1) Zg))))
   (Ze (ZQ (Zp (ZaV hr) (ZI ZaI (pv 0) Zl (fun _ _=>rfl)) ZF (ZE _)) (Zh (Zt (Zf5 K rfl rfl (by rfl) T.n_min (Za3 (ts:=["_law_many"]) (frs':=[]) (cl:=[]) rfl ⟨rfl,rfl,(by decide +kernel),(by decide +kernel),(fun _ z=>nomatch z),(ZaW rfl rfl),(fun _ z=>nomatch z)⟩ (Zab (ZW (Zb (pv 2) (Zb (pv 3) Zg)))) (fun _ _ _ _=>Zq (i:=0) nd1 rfl (Or.inl rfl) (.inr rfl)) (fun _ _ _ _=>(ZbF (Zp ZfQ (pv 0) Zb6 (ZE _)))) (fun _ _ _ _=>by exact(pv 0)))))) Zz)
   (Ze (ZQ ((ZfM (Zp ZlR (pv 2) Zb6 (ZE _)) (Zdw (Zp ZlR (pv 3) Zb6 (ZE _))))).pt (Zh (Zt Zb6)) Zz)
   (Zh (Zt (Z3 Zbf (pv 2) (pv 3)))))))))))),(Zj (Zas (Zo (Zk Zi0 (Zk ZM Za Zm) (ZV Zcu))) (Zs Zm) Zy)
   (Zj (Zas (Zo (Zk ZaN (Zk ZM Za Zm) ZL)) (Zs Zm) Zy)
   (Zj (Zas (Zo (Zk ZaN (Zk ZM Za Zm) ZL)) (Zs (Zd4 Za (Zd (Zk ZM Za Zm) Zf))) Zy)
   (Zj (Zu (Zw (Zd (Zk ZM Za Zm) (Zd Za Zf))) Zi)
   (Zj (Zas (Zo (Zk ZaN (Zk ZM Za Zm) ZL)) (Zs Za) Zy)
   (Zj (Zu (Zw (Zd (Zk ZM Za Zm) (Zd Za Zf))) Zi)
   (Zj (Zas (Zo (Zk ZaN (Zk ZM Za Zm) ZL)) (Zs (Zgp (Zaz (ZO ZR (ZV (Zd Za (Zd Za Zf)))) Zi (Zo (Zk ZfF Za Zca)) Za))) Zy)
   (Zj (Zas (ZfT (Zo (Zk ZlM Za Zca)) (Zo (Zk ZlM Za Zca))) (Zs Zca) Zy)
   (Zs (Zk Zbj Za Za))))))))))⟩
  rintro us A Q ⟨r,d,ep,kus,e,rfl,hd,hA,hE,q⟩;refine⟨rfl,?_⟩;walk_at "s";cases r with
  | nothing =>
   unfold Rl.toU;walk_at "g";exact⟨Zbk,rfl,rfl,ZX (by decide +kernel) (fg q)⟩
  | bead z =>
   unfold Rl.toU;walk_at "g";exact⟨Zbk,rfl,rfl,ZA (by decide +kernel) (ZX rfl (fg q))⟩
  | named z =>
   unfold Rl.toU;walk_at "g";refine⟨Zbk,rfl,rfl,ZA (by decide +kernel) (ZA (by decide +kernel) (ZX rfl ⟨d,ep,kus,rfl,hA,⟨z,.non,ep,kus,rfl,hA,?_⟩⟩))⟩;rw[hE.get];exact fg q
  | or x y =>
   unfold Rl.toU;walk_at "g";simp only[Rl.dep]at hd;refine⟨Zbk,rfl,rfl,ZA (by decide +kernel) (ZA (by decide +kernel) (ZA (by decide +kernel) ⟨x,d,ep,kus,e,rfl,by lia,hA,hE,ZA (by decide +kernel) ⟨y,d,ep,kus,e,rfl,by lia,hA,hE,ZX rfl ⟨Zcw,fun l hl=>?_⟩⟩⟩))⟩;walk_at "c";exact Zgh hl (fun k A2 _ _=>rfl) fun B eB=>fgx eB q
  | by_ x y =>
   unfold Rl.toU;walk_at "g";simp only[Rl.dep]at hd;refine⟨Zbk,rfl,rfl,ZA (by decide +kernel) (ZA (by decide +kernel) (ZA (by decide +kernel) ⟨x,d,ep,kus,e,rfl,by lia,hA,hE,ZA (by decide +kernel) ⟨y,d,ep,kus,e,rfl,by lia,hA,hE,ZA (by decide +kernel) ?_⟩⟩))⟩;simp only[Rl.lst]at q;cases hx:x.lst e with
   | none=>rw[hx]at q;exact ZX rfl (by rw[if_pos trivial];exact fg q)
   | some a =>
    rw[hx]at q;cases hy:y.lst e with
    | none=>rw[hy]at q;exact ZA rfl (ZX rfl (fg q))
    | some b=>rw[hy]at q;exact ZA rfl (ZA rfl (fg q))
  | hold k x =>
   unfold Rl.toU;walk_at "g";simp only[Rl.dep]at hd;have hk:∀z∈(["nothing","bead","name","or","by"]:List Str),decide (ZaA k=z)=false:=fun z hz=>Yw (Zlm k hz);refine⟨Zbk,rfl,rfl,?_⟩;rw[ZlO];by_cases h3:k<3
   .refine ZX (YC h3) (fg ?_);simp only[Rl.lst,h3,if_true]at q;exact q
   .refine ZA (Yw h3) (ZA (hk _ (by decide +kernel)) (ZA (hk _ (by decide +kernel)) ⟨x,d,ep,kus,e,rfl,by lia,hA,hE,?_⟩));simp only[Rl.lst,h3,Yal]at q;rw[show ZaA k=ZaA 3 from by rw[<- Ziq k,Nat.min_eq_right (by lia)]];exact ZX (by decide +kernel) (fg q)
end
def ZeK:∀ {kus:List (Str×U)},(Zct k u kus).lookup z=if z=k then some u else kus.lookup z
 | []=>by
  show List.lookup z [(k,u)]=_
  rw[List.lookup_cons]
  by_cases e:z=k
  .rw[beq_iff_eq.mpr e,if_pos e]
  .rw[Yv.mpr e,if_neg e]
 | (a, b)::r=>by
  show List.lookup z (if a=k then(a,u)::r else(a,b)::Zct k u r)=_
  by_cases h:a=k
  .rw[if_pos h,List.lookup_cons,List.lookup_cons,h]
   by_cases e:z=k
   .rw[beq_iff_eq.mpr e,if_pos e]
   .rw[Yv.mpr e,if_neg e]
  .rw[if_neg h,List.lookup_cons,List.lookup_cons,ZeK]
   by_cases e:z=a
   .rw[beq_iff_eq.mpr e]
    exact(if_neg (fun e'=>h (e.symm.trans e'))).symm
   .rw[Yv.mpr e]
def ZeF:∀ {kus:List (Str×U)},k∈kus.map (·.1)->(Zct k u kus).map (·.1)=kus.map (·.1)
 | (a,b)::r,h=>by
  show(if a=k then(a,u)::r else(a,b)::Zct k u r).map (·.1)=_
  by_cases e:a=k
  .rw[if_pos e];rfl
  .rw[if_neg e,Yq,ZeF ((Yn.mp h).resolve_left (Ne.symm e))];rfl
def ZnB{ns:List Str}(h:(kus.map (·.1)).Nodup)(hs:∀z∈kus.map (·.1),z∈ns)(hk:k∈ns):((Zct k u kus).map (·.1)).Nodup/\∀z∈(Zct k u kus).map (·.1),z∈ns:=by
 by_cases e:k∈kus.map (·.1)
 .rw[ZeF e];exact⟨h,hs⟩
 .rw[ZaH e,Yt];refine⟨List.nodup_append.mpr ⟨h,by simp,fun a ha b hb q=>e (by rw[show k=a from(q.trans (Yp.mp hb)).symm];exact ha)⟩,fun z hz=>?_⟩;rcases Yz.mp hz with hz|hz
  .exact hs z hz
  .rw[show z=k from Yp.mp hz];exact hk
def eUp(e:Str->On)(z:Str)(v:On):Str->On:=fun y=>if y=z then ZiE v (e z)else e y
def Zk4:eUp e z none=e:=by
 funext y;unfold eUp;split
 .rename_i h;rw[h];rfl
 .rfl
def DE.put(h:DE kus e)(z:Str)(f:Nat):DE (Zct z (.int (min (f:Int) (((e z).getD f:Nat):Int))) kus) (eUp e z (some f)):=fun y=>by
 rw[ZeK]
 unfold eUp
 split
 .cases e z with
  | none =>
   show some (U.int (min (f:Int) (f:Int)))=some (U.int (f:Int))
   rw[Int.min_self]
  | some b=>show some (U.int (min (f:Int) (b:Int)))=some (U.int ((min f b:Nat):Int));congr 2;lia
 .exact h y
structure LsI (F:Str->Option Rl) (V:Str->On) (t:Nat) (e:Str->On):Prop where
 lo:∀z,ole (V z) (e z)
 hi:∀z,ole (e z) (lv F t z)
def LsI.up{V:Str->On}(h:LsI F V t e)(hz:F z=some r)(hV:r.lst V=V z):LsI F V t (eUp e z (r.lst e))/\ole (eUp e z (r.lst e) z) (lv F (t+1) z)/\∀y,ole (eUp e z (r.lst e) y) (e y):=by
 have hd:∀y,ole (eUp e z (r.lst e) y) (e y):=fun y=>by
  unfold eUp;split
  .rename_i h;rw[h];exact Zjt _ _
  .exact Zbo _
 refine⟨⟨fun y=>?_,fun y=>Zbg (hd y) (h.hi y)⟩,?_,hd⟩
 .unfold eUp;split
  .rename_i h';rw[h'];exact Zh1 (by rw[<- hV];exact r.lst_mono h.lo) (h.lo z)
  .exact h.lo y
 .unfold eUp;rw[if_pos rfl];refine Zbg (ZiU _ _) ?_;simp only[lv,hz];exact r.lst_mono h.hi
def nkF(ns:List Str)(rs:List Rl)(z:Str):Option Rl:=(ns.zip rs).lookup z
def Zr9(h:nkF ns rs z=some r):z∈ns:=by
 obtain⟨k,h1,_⟩:=Zbl h;exact Yk h1
def ZfB(P:Program)(w:World):ASp:=fun us A Q=>∃(d:Addr)(ns:List Str)(rs:List Rl)(ep:Nat),us=[.ref d]/\A d=some (dS P w ep (ns.zip (rs.map Rl.toU)))/\rs.length=ns.length/\ns.length<=60/\ns.Nodup/\(∀r∈rs,r.size<=60)/\∀d' ep' kus,A d'=none->DE kus (lV (nkF ns rs) ns.length)->Q (.ref d') (updA A d' (dS P w ep' kus))
section
include T
def Zcn : T.F_j9.Ok CX0 65 (Zar K (ZfB P w)):=by
 have G_jb:=Zc3 T 60;apply T.F_j9.okA;walk_at "f";exact fun S hr=>⟨_,(Ze (ZC (i:=1) S.nd rfl (Or.inl rfl) ZbG)
   (Ze (Zae YA rfl (Zbe rfl T.n_range (Zb (Z3 Zbf (Zac ZfS T.n_len (Zb (pv 0) Zg)) Zl) Zg)) (Zq (i:=2) S.nd rfl (Or.inl rfl))
   (Zh (Zae YA rfl (Zhn (pv 0)) (ZbL (n:=2) rfl (ZG (Zq (i:=3) S.nd rfl (Or.inl rfl)) (ZG (Zq (i:=4) S.nd rfl (Or.inl rfl)) Zax)))
   (Ze (ZC (i:=5) S.nd rfl (Or.inl rfl) (T.F_jb.pc G_jb hr (Zb (pv 4) (Zb (pv 1) Zg))))
   (Zh (ZQ (Zp ZfQ (pv 5) Zb6 (ZE _)) (Zh (ZdN (Zac (ZrB rfl) T.n_min (Zb (pv 5) (Zb (Zex (pv 1) (Zb (pv 3) (Zb (pv 5) Zg))) Zg))) (ZdD (pv 1) (pv 3) ZdK))) Zz))))))
   (Zh (Zt (pv 1))))),(Zj (Zu ZbE Zi)
   (Zj (Zag (ZbI (Zd (Zk Zbj (ZY Zej (Zd Za Zf)) Zm) Zf)) Zi
   (Zag (ZO Zdv Za) (Zaw (ZH Zi (ZH Zi Zay)))
   (Zj (Zu (Zw (Zd Za (Zd Za Zf))) Zi)
   (ZT (Zo (Zk ZfF Za Zca)) (Zu (ZY ZrM (Zd Za (Zd (Zd4 Za (Zd Za (Zd Za Zf))) Zf))) (ZbH Za Za)) Zy))))
   (Zs Za)))⟩
 rintro us A Q ⟨d,ns,rs,ep,rfl,hA,hrl,hn60,hnd,hsz,q⟩;walk_at "o";intro d' hd';have hdd:d≠d':=neA hA hd';have hlen:(ns.zip (rs.map Rl.toU)).length=ns.length:=by rw[List.length_zip,Yc];lia
 have hF:∀z r,nkF ns rs z=some r->z∈ns:=fun z r h=>Zr9 h;walk_at "d";refine⟨ep,_,Ext.new hd' _ _ hA,?_⟩;rw[hlen];walk_at "d";refine⟨by lia,by lia,?_⟩;rw[show((ns.length:Int)+1).toNat=ns.length+1 by lia];refine Zdh (n:=ns.length+1) (fun t ρ A2=>∃(ep':Nat)(kus:List (Str×U))(e:Str->On)(x2 x3 x4 x5:Option U),ρ=[some (.ref d),some (.ref d'),x2,x3,x4,x5]/\A2=updA A d' (dS P w ep' kus)/\DE kus e/\(kus.map (·.1)).Nodup/\(∀z∈kus.map (·.1),z∈ns)/\LsI (nkF ns rs) (lV (nkF ns rs) ns.length) t e) ⟨0,[],fun _=>none,_,_,_,_,rfl,rfl,fun z=>rfl,List.nodup_nil,fun z h=>(nomatch h),fun z=>Zd7 _,fun z=>Zbo _⟩ ?_ ?_
 .rintro t ρ A2 ht ⟨ep',kus,e,x2,x3,x4,x5,rfl,rfl,hE,hkn,hks,hI⟩;walk_at "d";refine⟨ep,_,Ext.new hd' _ _ hA,?_⟩;refine Zdc (ns.zip (rs.map Rl.toU)) (fun j ρ A2=>∃(ep':Nat)(kus:List (Str×U))(e:Str->On)(x2 x3 x4 x5:Option U),ρ=[some (.ref d),some (.ref d'),x2,x3,x4,x5]/\A2=updA A d' (dS P w ep' kus)/\DE kus e/\(kus.map (·.1)).Nodup/\(∀z∈kus.map (·.1),z∈ns)/\LsI (nkF ns rs) (lV (nkF ns rs) ns.length) t e/\∀i z,i<j->ns[i]? = some z->ole (e z) (lv (nkF ns rs) (t+1) z)) ⟨ep',kus,e,_,_,_,_,rfl,rfl,hE,hkn,hks,hI,fun i z h=>absurd h (Ybn i)⟩ (fun j ρ A2 _ hq0=>by obtain⟨_,_,_,_,_,_,_,_,e,_⟩:=hq0;rw[e,Zn hdd];exact hA) ?_ ?_
  .rintro j p ρ A2 hp ⟨ep',kus,e,x2,x3,x4,x5,rfl,rfl,hE,hkn,hks,hI,hj⟩;obtain⟨z,r,hz,hr,e1⟩:=Zb9 (f:=fI) (by rw[Yi,hp];rfl);rw[e1];have hrs:=hsz r (Yk hr);have hrd:=Zbm r;have hzr:nkF ns rs z=some r:=Zah hnd hz hr;obtain⟨i1,i2,i3⟩:=hI.up hzr (Zq3 hF hzr);have hj2:∀i y,i<j+1->ns[i]? = some y->ole (eUp e z (r.lst e) y) (lv (nkF ns rs) (t+1) y):=fun i y hi hy=>by
    by_cases h:i<j
    .exact Zbg (i3 y) (hj i y h hy)
    .obtain rfl:i=j:=by lia
     rw[hz]at hy;cases hy;exact i2
   have hkl:kus.length<=ns.length:=by
    have:=Zaf hkn hks;rwa [Yc]at this
   unfold fI;walk_at "d";refine⟨rfl,r,d',ep',kus,e,rfl,by lia,Zc,hE,?_⟩;cases hf:r.lst e with
   | none =>
    rw[hf,Zk4]at i1 hj2;refine Zbc (fun B hB=>?_) ?_
    .walk_at "d";exact hB
    walk_at "d";exact⟨ep',kus,e,_,_,_,_,rfl,rfl,hE,hkn,hks,i1,hj2⟩
   | some f =>
    rw[hf]at i1 hj2;refine Zbu (fun B hB=>?_) ?_
    .walk_at "d";exact hB
    obtain⟨n1,n2⟩:=ZnB (u:=.int (min (f:Int) (((e z).getD f:Nat):Int))) hkn hks (hF z r hzr);walk_at "d";refine⟨d',ep',kus,rfl,Zc,z,_,ep',kus,rfl,Zc,?_⟩;rw[show(kus.lookup z).getD (oU (some f))=.int (((e z).getD f:Nat):Int)from by rw[hE z];cases e z<;>rfl];show ZpW [.int (f:Int),.int (((e z).getD f:Nat):Int)] _ _;walk_at "d";exact⟨d',z,ep',kus,rfl,rfl,Zc,by rw[Y8];lia,fun ep3=>⟨ep3,_,_,_,_,_,_,rfl,by rw[ZK],hE.put z f,n1,n2,i1,hj2⟩⟩
  .rintro ρ A2 ⟨ep',kus,e,x2,x3,x4,x5,rfl,rfl,hE,hkn,hks,hI,hj⟩;rw[hlen]at hj;walk_at "d";refine⟨ep',kus,e,_,_,_,_,rfl,rfl,hE,hkn,hks,hI.lo,fun z=>?_⟩;by_cases hz:z∈ns
   .obtain⟨i,hi⟩:=List.getElem?_of_mem hz;exact hj i z (Yh.mp hi).1 hi
   .cases h:nkF ns rs z with
    | none=>simp only[lv,h];exact Zd7 _
    | some r=>exact absurd (hF z r h) hz
 rintro ρ A2 ⟨ep',kus,e,x2,x3,x4,x5,rfl,rfl,hE,hkn,hks,hI⟩;have:e=lV (nkF ns rs) ns.length:=funext fun z=>ZcJ (by have:=hI.hi z;rwa [Zje (nkF ns rs) hF z]at this) (hI.lo z);rw[this]at hE;walk_at "d";exact fg (q d' ep' kus hd' hE)
end
def ZeG(P:Program)(w:World)(n:Nat):ASp:=fun us A Q=>∃(r:Rl)(d:Addr)(ep:Nat)(kus:List (Str×U))(e:Str->On),us=[r.toU,.ref d]/\r.dep<=n/\r.size<=60/\A d=some (dS P w ep kus)/\DE kus e/\∀B l,Ext A B->A l=none->B l=some (.lst ((r.lean e).map U.str))->Q (.ref l) B
def ZrD:∀us A Q,¬ZeG P w 0 us A Q:=fun us A Q hq0=>by obtain⟨r,_,_,_,_,_,h,_⟩:=hq0;have:=r.dep_pos;lia
def ZqK:inU (.str (ZaA k)) [.str "nothing",.str "bead"]=false:=by
 rcases k with _|_|_|k
 .decide +kernel
 .decide +kernel
 .decide +kernel
 .rw[show ZaA (k+1+1+1)=ZaA 3 from rfl];decide +kernel
section
include T
def Zd5(n:Nat):T.F_j4.Ok CX0 (n+2) (Zar K (ZeG P w n)):=by
 induction n with
 | zero=>exact Za7 T.F_j4.f T.F_j4.s ZrD
 | succ n G_j4 =>
  have G_jb:=Zc3 T (n+1);apply T.F_j4.okA;walk_at "f";exact fun S hr=>⟨_,(Ze (ZQ (Zp (ZaV hr) (ZI ZaI (pv 0) Zl (fun _ _=>rfl)) ZF (ZE _)) (Zh (Zt (Z0 (Zb (ZI ZaI (pv 0) Zl (fun _ _=>rfl)) Zg)))) Zz)
   (Ze (ZQ (Zp ZpA (ZI ZaI (pv 0) Zl (fun _ _=>rfl)) (ZW (Zb ZF (Zb ZF Zg))) (by with_unfolding_all rfl)) (Zh (Zt (Z0 Zg))) Zz)
   (Ze (ZC (i:=2) S.nd rfl (Or.inl rfl) (Z0 Zg))
   (Ze (ZQ ((ZfM (Zp (Zd3 hr) (ZI ZaI (pv 0) Zl (fun _ _=>rfl)) ZF (ZE _)) (Zdw (Zp Zh0 (T.F_jb.pc G_jb hr (Zb (ZI ZaI (pv 0) Zl (fun _ _=>rfl)) (Zb (pv 1) Zg))) Zl (ZE _))))).pt (Zh (ZC (i:=2) S.nd rfl (Or.inl rfl) (T.F_j4.pc G_j4 hr (Zb (ZI ZaI (pv 0) Zl (fun _ _=>rfl)) (Zb (pv 1) Zg))))) Zz)
   (Ze (ZQ ((ZfM (Zp (ZaV hr) (ZI ZaI (pv 0) Zl (fun _ _=>rfl)) ZF (ZE _)) (Zdw ((Zcz (Zp (ZaV hr) (ZI ZaI (pv 0) Zl (fun _ _=>rfl)) ZF (ZE _)) (ZbO (Zp Zh0 (T.F_jb.pc G_jb hr (Zb (ZI ZaI (pv 0) Zl (fun _ _=>rfl)) (Zb (pv 1) Zg))) Zl (ZE _))))).pt))).pt (Zh (ZC (i:=2) S.nd rfl (Or.inl rfl) (Z3 Zbf (pv 2) (T.F_j4.pc G_j4 hr (Zb (ZI ZaI (pv 0) Zl (fun _ _=>rfl)) (Zb (pv 1) Zg)))))) Zz)
   (Zh (Zt (pv 2)))))))),(Zj (Zas (Zo (Zk ZaN (Zk ZM Za Zm) ZL)) (Zs (ZZ (Zd (Zk ZM Za Zm) Zf))) Zy)
   (Zj (Zas (Zo (Zk Zi0 (Zk ZM Za Zm) (ZV (Zd ZL (Zd ZL Zf))))) (Zs (ZZ Zf)) Zy)
   (Zj (Zu (ZZ Zf) Zi)
   (Zj (Zas (ZfT (Zo (Zk Zd0 (Zk ZM Za Zm) ZL)) (Zo (Zk ZeV (Zw (Zd (Zk ZM Za Zm) (Zd Za Zf))) Zm))) (Zu (Zw (Zd (Zk ZM Za Zm) (Zd Za Zf))) Zi) Zy)
   (Zj (Zas (ZfT (Zo (Zk ZaN (Zk ZM Za Zm) ZL)) (Zcy (Zo (Zk ZaN (Zk ZM Za Zm) ZL)) (Zo (Zk ZeV (Zw (Zd (Zk ZM Za Zm) (Zd Za Zf))) Zm)))) (Zu (Zk Zbj Za (Zw (Zd (Zk ZM Za Zm) (Zd Za Zf)))) Zi) Zy)
   (Zs Za))))))⟩
  rintro us A Q ⟨r,d,ep,kus,e,rfl,hd,hs,hA,hE,q⟩;refine⟨rfl,?_⟩;walk_at "s";cases r with
  | nothing =>
   unfold Rl.toU;walk_at "g";refine ZA (by decide +kernel) ⟨Zcw,rfl,rfl,ZX (by decide +kernel) ⟨by decide,fun l hl=>fg (q _ l (Ext.new hl) hl Zc)⟩⟩
  | bead c =>
   unfold Rl.toU;walk_at "g";refine ZA (by decide +kernel) ⟨Zcw,rfl,rfl,ZX (by decide +kernel) ⟨by decide,fun l hl=>fg (q _ l (Ext.new hl) hl Zc)⟩⟩
  | named c =>
   unfold Rl.toU;walk_at "g";refine ZX rfl ⟨by show 1<=sizeLine;decide,fun l hl=>fg (q _ l (Ext.new hl) hl Zc)⟩
  | or x y =>
   unfold Rl.toU;walk_at "g";simp only[Rl.dep,Rl.size]at hd hs;refine ZA (by decide +kernel) ⟨Zcw,rfl,rfl,ZA (by decide +kernel) ⟨by decide,fun p hp=>ZX (by decide +kernel) (Zfr trivial ⟨x,d,ep,kus,e,rfl,by lia,by lia,Ext.new hp _ _ hA,hE,fun B1 l1 e1 hl1 hB1=>?_⟩)⟩⟩;replace e1:=(Ext.new hp).trans e1;refine ZX rfl (Zfr trivial ⟨y,d,ep,kus,e,rfl,by lia,by lia,e1 _ _ hA,hE,fun B2 l2 e2 hl2 hB2=>?_⟩);have h1:=x.lean_len (e:=e);have h2:=y.lean_len (e:=e);walk_at "d";refine⟨_,_,e2 _ _ hB1,hB2,by rw[Yc,Yc,Y8];lia,fun l hl=>fg (q _ l ((e1.trans e2).trans (Ext.new hl)) (Za2 (e1.trans e2) hl) ?_)⟩;rw[Zc,<- Yt];rfl
  | by_ x y =>
   unfold Rl.toU;walk_at "g";simp only[Rl.dep,Rl.size]at hd hs;simp only[Rl.lean]at q;have h1:=x.lean_len (e:=e);have h2:=y.lean_len (e:=e);refine ZA (by decide +kernel) ⟨Zcw,rfl,rfl,ZA (by decide +kernel) ⟨by decide,fun p hp=>ZA (by decide +kernel) ⟨y,d,ep,kus,e,rfl,by lia,Ext.new hp _ _ hA,hE,eq0 ⟨_,rfl,?_⟩⟩⟩⟩;by_cases hy:y.lst e=some 0
   .refine ZX (YC hy) ⟨x,d,ep,kus,e,rfl,by lia,by lia,Ext.new hp _ _ hA,hE,fun B1 l1 e1 hl1 hB1=>?_⟩;replace hl1:=Za2 (Ext.new hp) hl1;replace e1:=(Ext.new hp).trans e1;rw[if_pos hy]at q;refine ZA (by decide +kernel) (ZX (by decide) ⟨x,d,ep,kus,e,rfl,by lia,e1 _ _ hA,hE,eq0 ⟨_,rfl,?_⟩⟩);by_cases hx:x.lst e=some 0
    .refine ZX (YC hx) ⟨y,d,ep,kus,e,rfl,by lia,by lia,e1 _ _ hA,hE,fun B2 l2 e2 hl2 hB2=>?_⟩;walk_at "d";refine⟨_,_,e2 _ _ hB1,hB2,by rw[Yc,Yc,Y8];lia,fun l hl=>fg (q _ l ((e1.trans e2).trans (Ext.new hl)) (Za2 (e1.trans e2) hl) ?_)⟩;rw[Zc,<- Yt,if_pos hx]
    .refine ZA (Yw hx) (fg (q _ l1 e1 hl1 ?_));rw[hB1,if_neg hx,YN]
   .refine ZA (Yw hy) ?_;rw[if_neg hy]at q;have e1:=Ext.new hp (o:=.lst []);have hB1:updA A p (.lst []) p=some (.lst (([]:List Str).map U.str)):=Zc;have hl1:=hp;have h1:([]:List Str).length<=x.size:=Y2 _;generalize updA A p (.lst [])=B1 at e1 hB1 ⊢;generalize hl1':p=l1 at hl1 hB1 ⊢;refine ZA (by decide +kernel) (ZX (by decide) ⟨x,d,ep,kus,e,rfl,by lia,e1 _ _ hA,hE,eq0 ⟨_,rfl,?_⟩⟩);by_cases hx:x.lst e=some 0
    .refine ZX (YC hx) ⟨y,d,ep,kus,e,rfl,by lia,by lia,e1 _ _ hA,hE,fun B2 l2 e2 hl2 hB2=>?_⟩;walk_at "d";refine⟨_,_,e2 _ _ hB1,hB2,by rw[Yc,Yc,Y8];lia,fun l hl=>fg (q _ l ((e1.trans e2).trans (Ext.new hl)) (Za2 (e1.trans e2) hl) ?_)⟩;rw[Zc,<- Yt,if_pos hx]
    .refine ZA (Yw hx) (fg (q _ l1 e1 hl1 ?_));rw[hB1,if_neg hx,YN]
  | hold k x =>
   unfold Rl.toU;walk_at "g";simp only[Rl.dep,Rl.size]at hd hs;have hk:∀z∈(["nothing","bead","name","or","by"]:List Str),decide (ZaA k=z)=false:=fun z hz=>Yw (Zlm k hz);refine ZA (hk _ (by decide +kernel)) ⟨Zcw,rfl,rfl,ZA ZqK ⟨by decide,fun p hp=>ZX (by rw[hk _ (by decide +kernel)];rfl) (Zfr trivial ⟨x,d,ep,kus,e,rfl,by lia,by lia,Ext.new hp _ _ hA,hE,fun B1 l1 e1 hl1 hB1=>ZA (hk _ (by decide +kernel)) (ZA (hk _ (by decide +kernel)) (ZA rfl (fg (q _ l1 ((Ext.new hp).trans e1) (Za2 (Ext.new hp) hl1) hB1))))⟩)⟩⟩
end
def _root_.L2.Rl.subs:Rl->List Rl
 | .or x y=>.or x y::(x.subs++y.subs)
 | .by_ x y=>.by_ x y::(x.subs++y.subs)
 | .hold k x=>.hold k x::x.subs
 | r=>[r]
def _root_.L2.Rl.tl:Rl->List U
 | .nothing=>[]
 | .bead c=>[.str c]
 | .named c=>[.str c]
 | .or x y=>[x.toU,y.toU]
 | .by_ x y=>[x.toU,y.toU]
 | .hold _ x=>[x.toU]
def _root_.L2.Rl.hd:Rl->Str
 | .nothing=>"nothing"
 | .bead _=>"bead"
 | .named _=>"name"
 | .or _ _=>"or"
 | .by_ _ _=>"by"
 | .hold k _=>ZaA k
def _root_.L2.Rl.toU_eq(r:Rl):r.toU=.tup (.str r.hd::r.tl):=by cases r<;>rfl
def _root_.L2.Rl.subs_eq(r:Rl):r.subs=r::(r.kids.map Rl.subs).flatten:=by cases r<;>simp[Rl.subs,Rl.kids]
def _root_.L2.Rl.subs_len(r:Rl):r.subs.length<=r.size:=by
 induction r with
 | nothing=>exact Yj _
 | bead c=>exact Yj _
 | named c=>exact Yj _
 | or x y i j=>simp only[Rl.subs,Rl.size,List.length_cons,Ys];lia
 | by_ x y i j=>simp only[Rl.subs,Rl.size,List.length_cons,Ys];lia
 | hold k x i=>simp only[Rl.subs,Rl.size,List.length_cons];lia
def _root_.L2.Rl.tl_get{r:Rl}{k:Nat}{u:U}(h:r.tl[k]? = some u):(∃y,r.kids[k]? = some y/\u=y.toU)\/∃z,u=.str z/\r.kids=[]:=by
 cases r with
 | nothing=>cases h
 | bead c =>
  rcases k with _|k
  .exact .inr ⟨c,(YE h).symm,rfl⟩
  .cases h
 | named c =>
  rcases k with _|k
  .exact .inr ⟨c,(YE h).symm,rfl⟩
  .cases h
 | or x y =>
  rcases k with _|_|k
  .exact .inl ⟨x,rfl,(YE h).symm⟩
  .exact .inl ⟨y,rfl,(YE h).symm⟩
  .cases h
 | by_ x y =>
  rcases k with _|_|k
  .exact .inl ⟨x,rfl,(YE h).symm⟩
  .exact .inl ⟨y,rfl,(YE h).symm⟩
  .cases h
 | hold j x =>
  rcases k with _|k
  .exact .inl ⟨x,rfl,(YE h).symm⟩
  .cases h
def _root_.L2.Rl.kids_tl(r:Rl):r.kids.length<=r.tl.length:=by cases r<;>simp[Rl.kids,Rl.tl]
def _root_.L2.Rl.nms_subs{r:Rl}{z:Str}:z∈r.nms↔Rl.named z∈r.subs:=by
 induction r with
 | nothing=>simp[Rl.nms,Rl.subs]
 | bead c=>simp[Rl.nms,Rl.subs]
 | named c=>simp[Rl.nms,Rl.subs]
 | or x y i j=>simp[Rl.nms,Rl.subs,i,j]
 | by_ x y i j=>simp[Rl.nms,Rl.subs,i,j]
 | hold k x i=>simp[Rl.nms,Rl.subs,i]
def Zjj(n:Nat):ASp:=fun us A Q=>∃r:Rl,us=[r.toU]/\r.dep<=n/\r.size<=60/\∀B l,Ext A B->A l=none->B l=some (.lst (r.subs.map Rl.toU))->Q (.ref l) B
def Zv6:∀us A Q,¬Zjj 0 us A Q:=fun us A Q hq0=>by obtain⟨r,_,h,_⟩:=hq0;have:=r.dep_pos;lia
section
include T
def Zmo(n:Nat):T.F_j7.Ok CX0 (n+1) (Zar K (Zjj n)):=by
 induction n with
 | zero=>exact Za7 T.F_j7.f T.F_j7.s Zv6
 | succ n G_j7 =>
  apply T.F_j7.okA;walk_at "f";exact fun S hr=>⟨_,(Ze (ZC (i:=1) S.nd rfl (Or.inl rfl) (Z0 (Zb (pv 0) Zg)))
   (Ze (Zae YA rfl (Zab (ZbC Zhj (pv 0) (ZbQ Zl) ZcS)) (Zq (i:=2) S.nd rfl (Or.inl rfl))
   (Zh (ZQ (Za8 (Zac ZtQ T.n_isinstance (Zb (pv 2) (Zb (Zm1 (T:="tuple") (by rfl) T.n_tuple (by decide +kernel)) Zg)))) (Zh (ZC (i:=1) S.nd rfl (Or.inl rfl) (Z3 Zbf (pv 1) (T.F_j7.pc G_j7 hr (Zb (pv 2) Zg))))) Zz)))
   (Zh (Zt (pv 1))))),(Zj (Zu (ZZ (Zd Za Zf)) Zi)
   (Zj (Zag (ZO ZR (ZhE ZdE Za (ZbV Zm) Zbx)) Zi
   (Zas (ZbP (ZY ZpT (Zd Za (Zd Zm4 Zf)))) (Zu (Zk Zbj Za (Zw (Zd Za Zf))) Zi) Zy))
   (Zs Za)))⟩
  rintro us A Q ⟨r,rfl,hd,hs,q⟩;refine⟨rfl,?_⟩;walk_at "s";rw[r.toU_eq];walk_at "g";rw[<- r.toU_eq];refine⟨by show 1<=sizeLine;decide,fun p hp=>?_⟩;refine Zil (us:=r.tl) (fun k ρ A2=>∃(l1:Addr)(x2:Option U),ρ=[some r.toU,some (.ref l1),x2]/\Ext A A2/\A l1=none/\A2 l1=some (.lst ((r::((r.kids.take k).map Rl.subs).flatten).map Rl.toU))) ⟨p,_,rfl,Ext.new hp,hp,Zc⟩ ?_ ?_
  .rintro k u ρ A2 hu ⟨l1,x2,rfl,e2,hl1,h2⟩;rcases Rl.tl_get hu with⟨y,hy,rfl⟩|⟨z,rfl,hk⟩
   .have hm:=Yk hy;have hyd:=Rl.kids_dep hm;rw[y.toU_eq];walk_at "d";rw[<- y.toU_eq];have h3:=Zdd Rl.subs r.kids k;have h4:=r.subs_len;rw[r.subs_eq,List.length_cons]at h4;have h5:=y.subs_len;refine⟨.inr (.inr (.inr trivial)),trivial,ZX (by rw[y.toU_eq];rfl) ⟨y,rfl,by lia,by lia,fun B1 l2 e1 hl2 hB1=>?_⟩⟩;walk_at "d";refine⟨_,_,e1 _ _ h2,hB1,by rw[Yc,Yc,List.length_cons,Y8];lia,fun l hl=>⟨l,_,rfl,(e2.trans e1).trans (Ext.new hl),Za2 (e2.trans e1) hl,?_⟩⟩;rw[Zc,Zc1 hy,<- Yt];rfl
   .walk_at "d";refine⟨.inr (.inr (.inr trivial)),trivial,ZA rfl ⟨l1,_,rfl,e2,hl1,?_⟩⟩;rw[hk]at h2 ⊢;rw[h2,List.take_nil,List.take_nil]
  .rintro ρ A2 ⟨l1,x2,rfl,e2,hl1,h2⟩;walk_at "d";refine fg (q _ l1 e2 hl1 ?_);rw[h2,r.subs_eq,Yaa r.kids_tl]
end
def ZoS(P:Program)(w:World):ASp:=fun us A Q=>∃(r:Rl)(d:Addr)(ep:Nat)(kus:List (Str×U))(e:Str->On),us=[r.toU,.ref d]/\r.size<=60/\A d=some (dS P w ep kus)/\DE kus e/\∀B,Ext A B->Q (.bl (r.hp e)) B
def ZfD(e:Str->On):Rl->Bool
 | .hold _ x=>decide (x.lst e=some 0)
 | _=>false
def Zne(e:Str->On)(r:Rl):r.hp e=r.subs.any (ZfD e):=by
 induction r with
 | nothing=>rfl
 | bead c=>rfl
 | named c=>rfl
 | or x y i j=>simp[Rl.hp,Rl.subs,ZfD,i,j]
 | by_ x y i j=>simp[Rl.hp,Rl.subs,ZfD,i,j]
 | hold k x i=>simp[Rl.hp,Rl.subs,ZfD,i]
def ZkJ{r s:Rl}(h:s∈r.subs):s.dep<=r.dep:=by
 induction r with
 | nothing=>rw[Yp.mp h];exact Yj _
 | bead c=>rw[Yp.mp h];exact Yj _
 | named c=>rw[Yp.mp h];exact Yj _
 | or x y i j =>
  rcases Yn.mp h with rfl|h
  .exact Yj _
  .simp only[Rl.dep];rcases Yz.mp h with h|h
   .have:=i h;lia
   .have:=j h;lia
 | by_ x y i j =>
  rcases Yn.mp h with rfl|h
  .exact Yj _
  .simp only[Rl.dep];rcases Yz.mp h with h|h
   .have:=i h;lia
   .have:=j h;lia
 | hold k x i =>
  rcases Yn.mp h with rfl|h
  .exact Yj _
  .simp only[Rl.dep];have:=i h;lia
def ZqQ:inU (.str (ZaA k)) [.str "row",.str "bag",.str "choice",.str "ring"]=true:=by
 rcases k with _|_|_|k
 .decide +kernel
 .decide +kernel
 .decide +kernel
 .rw[show ZaA (k+1+1+1)=ZaA 3 from rfl];decide +kernel
def take_mem{α:Type}{l:List α}{x s:α}(hs:l[k]? = some s)(h:x∈l.take (k+1)):x∈l.take k\/x=s:=by
 rw[List.take_succ,hs]at h;simpa using h
section
include T
def Zqn:T.F_q9.Ok CX0 63 (Zar K (ZoS P w)):=by
 have G_j7:=Zmo T 61;have G_jb:=Zc3 T 61;apply T.F_q9.okA;walk_at "f";exact fun S hr=>⟨_,(Ze (Zae YA rfl (Zab (T.F_j7.pc G_j7 hr (Zb (pv 0) Zg))) (Zq (i:=2) S.nd rfl (Or.inl rfl))
   (Zh (ZQ ((Zcz (Zp ZpA (ZI ZaI (pv 2) Zl (fun _ _=>rfl)) (ZW (ZbU (xs:=["row","bag","choice","ring"]) rfl)) (by with_unfolding_all rfl)) (ZbO (Zp Zh0 (T.F_jb.pc G_jb hr (Zb (ZI ZaI (pv 2) Zl (fun _ _=>rfl)) (Zb (pv 1) Zg))) Zl (ZE _))))).pt (Zh (Zt Zda)) Zz)))
   (Zh (Zt Zda))),(Zj (Zag (ZO ZR (Zw (Zd Za Zf))) Zi
   (ZT (Zcy (Zo (Zk Zi0 (Zk ZM Za Zm) (ZV Zcu))) (Zo (Zk ZeV (Zw (Zd (Zk ZM Za Zm) (Zd Za Zf))) Zm))) (Zs Zdj) Zy))
   (Zs Zdj))⟩
 rintro us A Q ⟨r,d,ep,kus,e,rfl,hs,hA,hE,q⟩;walk_at "o";have hrd:=Zbm r;refine⟨r,rfl,by lia,hs,fun B l eB hl hB=>?_⟩;walk_at "d";refine⟨⟨_,hB⟩,?_⟩;rw[Zne]at q;refine ZaY (r.subs.map Rl.toU) (fun k ρ A2=>∃x2,ρ=[some r.toU,some (.ref d),x2]/\A2=B/\∀s∈r.subs.take k,ZfD e s=false) ⟨_,rfl,rfl,fun s h=>nomatch h⟩ (fun k ρ A2 _ hq=>by obtain⟨_,_,e,_⟩:=hq;rw[e];exact hB) ?_ ?_
 .rintro k u ρ A2 hu ⟨x2,rfl,rfl,hk⟩;obtain⟨s,hs',rfl⟩:=Z7 hu;have hsm:=Yk hs';have hsd:=ZkJ hsm;walk_at "d";refine Zcl (ZfD e s) (fun C hC=>?_) ?_
  .cases s with
   | hold i x =>
    unfold Rl.toU;walk_at "g";simp only[Rl.dep]at hsd;exact⟨Zbk,rfl,rfl,ZX ZqQ ⟨x,d,ep,kus,e,rfl,by lia,eB _ _ hA,hE,eq0 ⟨_,rfl,hC⟩⟩⟩
   | nothing=>unfold Rl.toU;walk_at "g";exact⟨Zbk,rfl,rfl,ZA (by decide +kernel) hC⟩
   | bead c=>unfold Rl.toU;walk_at "g";exact⟨Zbk,rfl,rfl,ZA (by decide +kernel) hC⟩
   | named c=>unfold Rl.toU;walk_at "g";exact⟨Zbk,rfl,rfl,ZA (by decide +kernel) hC⟩
   | or a b=>unfold Rl.toU;walk_at "g";exact⟨Zbk,rfl,rfl,ZA (by decide +kernel) hC⟩
   | by_ a b=>unfold Rl.toU;walk_at "g";exact⟨Zbk,rfl,rfl,ZA (by decide +kernel) hC⟩
  cases hb:ZfD e s with
  | true =>
   refine ZX rfl ?_;walk_at "d";rw[List.any_eq_true.mpr ⟨s,hsm,hb⟩]at q;exact fg (q _ eB)
  | false =>
   refine ZA rfl ?_;walk_at "d";refine⟨_,rfl,trivial,fun x hx=>?_⟩;rcases take_mem hs' hx with h|rfl
   .exact hk x h
   .exact hb
 .rintro ρ A2 ⟨x2,rfl,rfl,hk⟩;walk_at "d";rw[Yc,YZ]at hk;rw[List.any_eq_false.mpr fun s h=>by rw[hk s h];decide]at q;exact fg (q _ eB)
end
def Zku(P:Program)(w:World):ASp:=fun us A Q=>∃(d d2:Addr)(ns:List Str)(rs:List Rl)(ep ep2:Nat)(kus:List (Str×U))(e:Str->On),us=[.ref d,.ref d2]/\A d=some (dS P w ep (ns.zip (rs.map Rl.toU)))/\rs.length=ns.length/\ns.length<=60/\ns.Nodup/\(∀r∈rs,r.size<=60/\∀y∈r.nms,y∈ns)/\A d2=some (dS P w ep2 kus)/\DE kus e/\∀B b,Ext A B->(b=false->∃rk:Str->Nat,∀(k:Nat) z r,ns[k]? = some z->rs[k]? = some r->∀y∈r.lean e,rk y<rk z)->(b=true->∃L:List Str,L≠[]/\(∀z∈L,z∈ns)/\∀(k:Nat) z r,ns[k]? = some z->rs[k]? = some r->z∈L->∃y∈L,y∈r.lean e)->Q (.bl b) B
def ZqG{ns K K':List Str}{le:Str->Str->Prop}{rk:Str->Nat}(hn:∀z∈ns,∀y,le z y->y∈ns)(h:∀z∈ns,z∉K->rk z<n/\∀y,le z y->y∉K/\rk y<rk z)(hz:z0∈K)(h0:∀y∈K,¬le z0 y)(hK:∀x,x∈K'↔x∈K/\x≠z0):
  ∃rk':Str->Nat,∀z∈ns,z∉K'->rk' z<n+1/\∀y,le z y->y∉K'/\rk' y<rk' z:=by
 have hne:∀y,y∉K->y≠z0:=fun y hy e=>hy (e▸hz);have hKK:∀y,y∉K->y∉K':=fun y hy hk=>hy ((hK y).mp hk).1;refine⟨fun z=>if z=z0 then n else rk z,fun z hzn hzK=>?_⟩;by_cases e:z=z0
 .subst e;refine⟨by simp only[if_true];lia,fun y hy=>?_⟩;have hyK:y∉K:=fun hk=>h0 y hk hy;refine⟨hKK y hyK,?_⟩;simp only[if_true,if_neg (hne y hyK)];exact(h y (hn z hzn y hy) hyK).1
 .have hzK':z∉K:=fun hk=>hzK ((hK z).mpr ⟨hk,e⟩);obtain⟨h1,h2⟩:=h z hzn hzK';refine⟨by simp only[if_neg e];lia,fun y hy=>?_⟩;obtain⟨h3,h4⟩:=h2 y hy;refine⟨hKK y h3,?_⟩;simp only[if_neg e,if_neg (hne y h3)];exact h4
theorem ZgN{α:Type}{u:α}:∀ {kus:List (Str×α)},kus.lookup z=some u->(z,u)∈kus
 | (a, b)::r,h=>by
  rw[List.lookup_cons]at h
  by_cases e:z=a
  .rw[beq_iff_eq.mpr e]at h
   cases h
   rw[e];exact .head _
  .rw[Yv.mpr e]at h
   exact .tail _ (ZgN h)
def ZiR{kus:List (Str×α)}:x∈(rmF z kus).map (·.1)↔x∈kus.map (·.1)/\x≠z:=by
 unfold rmF;constructor
 .intro h;obtain⟨p,hp,rfl⟩:=YQ.mp h;obtain⟨h1,h2⟩:=List.mem_filter.mp hp;exact⟨YQ.mpr ⟨p,h1,rfl⟩,Yak h2⟩
 .rintro⟨h,e⟩;obtain⟨p,hp,rfl⟩:=YQ.mp h;exact YQ.mpr ⟨p,List.mem_filter.mpr ⟨hp,YC e⟩,rfl⟩
def ZrN{kus:List (Str×α)}(h:z∈kus.map (·.1)):(rmF z kus).length+1<=kus.length:=by
 obtain⟨p,hp,rfl⟩:=YQ.mp h;exact List.length_filter_lt_length_iff_exists.mpr ⟨p,hp,by simp⟩
section
include T
def ZnD : T.F_ql.Ok CX0 64 (Zar K (Zku P w)):=by
 have G_j4:=Zd5 T 60;apply T.F_ql.okA;walk_at "f";exact fun S hr=>⟨_,(Ze (ZC (i:=2) S.nd rfl (Or.inr rfl) ZbG)
   (Ze (Zae YA rfl (Zhn (pv 0)) (ZbL (n:=2) rfl (ZG (Zq (i:=3) S.nd rfl (Or.inl rfl)) (ZG (Zq (i:=4) S.nd rfl (Or.inl rfl)) Zax)))
   (Zh (ZdN (T.F_j4.pc G_j4 hr (Zb (pv 4) (Zb (pv 1) Zg))) (ZdD (pv 2) (pv 3) ZdK))))
   (Ze (Zae YA rfl (Zbe rfl T.n_range (Zb (Zac ZfS T.n_len (Zb (pv 0) Zg)) Zg)) (Zq (i:=5) S.nd rfl (Or.inl rfl))
   (Zh (Zae YA rfl (Zab (ZdT (ZcG rfl) T.n_list (Zb (pv 2) Zg))) (Zq (i:=3) S.nd rfl (Or.inl rfl))
   (Zh (ZQ (Zjw (Za8 (Zac (Zgm rfl) T.n_any (Zb (Za3 (ts:=["_law_other"]) (frs':=[("_law_left",2)]) (cl:=_) rfl ⟨(by rfl),rfl,(by decide +kernel),(by decide +kernel),(ZB (by rfl) ZJ),(Zal (by rfl) (by rfl)),(ZB ⟨(by rfl),(by first|exact .inl rfl|exact .inr rfl),(by first|exact .inl rfl|exact .inr rfl),(by rfl)⟩ ZJ)⟩ (Zab (ZI ZbN (pv 2) (pv 3) (fun _ _=>rfl))) (fun _ _ _ _=>Zq (i:=0) (show List.Nodup (["_law_other","_law_left"]:List Str)from by decide +kernel) rfl (Or.inl rfl) (.inr rfl)) (fun _ _ _ _=>Zak) (fun _ _ _ _=>by exact(Zdf (Zrz P w rfl rfl) (pv 0) (pv 1) (by with_unfolding_all rfl)))) Zg)))) (Zh (ZU (ZlE (pv 2) (Zb (pv 3) Zg)))) Zz)))))
   (Zh (Zt (Zdf Zpk (Zac ZfS T.n_len (Zb (pv 2) Zg)) Zl (ZE _))))))),(Zj (Zu ZbE Zi)
   (Zj (Zag (ZO Zdv Za) (Zaw (ZH Zi (ZH Zi Zay)))
   (Zu (Zw (Zd Za (Zd Za Zf))) (ZbH Za Za)))
   (Zj (Zag (ZbI (Zd (ZY Zej (Zd Za Zf)) Zf)) Zi
   (Zag (ZO ZR (ZY Zb4 (Zd Za Zf))) Zi
   (ZT (ZjC (ZbP (ZY ZmJ (Zd (Zaz (ZO ZR (Zk ZaZ Za Za)) Zi ZaB (Zk ZfW Za Za)) Zf)))) (Z1 (ZkU Za (Zd Za Zf))) Zy)))
   (Zs (Zk Zjr (ZY Zej (Zd Za Zf)) Zm)))))⟩
 rintro us A Q ⟨d,d2,ns,rs,ep,ep2,kus,e,rfl,hA,hrl,hnl,hnd,hrs,hA2,hE,q⟩;walk_at "o";intro p hp;have hlen:(ns.zip (rs.map Rl.toU)).length=ns.length:=by rw[List.length_zip,Yc];lia
 refine⟨ep,_,Ext.new hp _ _ hA,?_⟩;refine Zdc (ns.zip (rs.map Rl.toU)) (fun j ρ A2=>∃(vs:List U)(ep':Nat)(x3 x4 x5:Option U),ρ=[some (.ref d),some (.ref d2),some (.ref p),x3,x4,x5]/\Ext A A2/\A2 p=some (dS P w ep' ((ns.take j).zip vs))/\vs.length=min j ns.length/\DLs A2 vs fun k zs=>∀r,rs[k]? = some r->zs=r.lean e) ⟨[],0,_,_,_,rfl,Ext.new hp,Zc,by simp,fun k v h=>nomatch h⟩ (fun j ρ A2 _ hq=>by obtain⟨_,_,_,_,_,_,e,_⟩:=hq;exact e _ _ hA) ?_ ?_
 .rintro j p' ρ A2 hp' ⟨vs,ep',x3,x4,x5,rfl,e2,h2,hvl,hvs⟩;obtain⟨z,r,hz,hr,e1⟩:=Zb9 (f:=fI) (by rw[Yi,hp'];rfl);rw[e1];have hjn:=(Yh.mp hz).1;rw[YaO (by lia)]at hvl;have hrs':=hrs r (Yk hr);have hrd:=Zbm r;unfold fI;walk_at "d";refine⟨rfl,r,d2,ep2,kus,e,rfl,by lia,hrs'.1,e2 _ _ hA2,hE,fun B l eB hl hB=>?_⟩;have hzn:z∉((ns.take j).zip vs).map (·.1):=by
   rw[ZaP (by rw[YL,hvl];lia)];intro hm;obtain⟨i,hi,e⟩:=Yam.mp hm;rw[YL]at hi;rw[List.getElem_take]at e;have:=Zad hnd (i:=i) (j:=j) (x:=z) (by rw[Yg (by lia),e]) hz;lia
  walk_at "d";refine⟨p,z,ep',_,rfl,rfl,eB _ _ h2,by rw[List.length_zip,YL,Y8];lia,fun ep3=>⟨vs++[.ref l],ep3,_,_,_,rfl,ZaM (e2.trans eB) hp,?_,by rw[Ys,List.length_singleton,hvl];lia,?_⟩⟩
  .rw[Zc,ZaH hzn,List.take_succ_eq_append_getElem hjn,(Yh.mp hz).2,List.zip_append (by rw[YL,hvl];lia)];rfl
  .have kp : ∀q us,B q=some (.lst us)->updA B p (dS P w ep3 (Zct z (.ref l) ((ns.take j).zip vs))) q=some (.lst us):=fun q us hq=>by
    rw[Zn fun e=>by rw[e,eB _ _ h2]at hq;cases hq];exact hq
   intro k v hv;by_cases hk:k<vs.length
   .rw[Y6 hk]at hv;obtain⟨q,zs,g1,g2,g3⟩:=hvs k v hv;exact⟨q,zs,g1,kp _ _ (eB _ _ g2),g3⟩
   .rw[YW (by lia)]at hv;have hk0:k=vs.length:=by
     rcases Nat.lt_or_ge vs.length k with h|h
     .rw[show k-vs.length=(k-vs.length-1)+1 by lia]at hv;cases hv
     .lia
    subst hk0;rw[Ybg]at hv;cases hv;refine⟨l,_,rfl,kp _ _ hB,fun r' hr'=>?_⟩;rw[hvl,hr]at hr';cases hr';rfl
 rintro ρ A2 ⟨vs,ep',x3,x4,x5,rfl,e2,h2,hvl,hvs⟩;rw[hlen,YZ]at h2;rw[hlen,Nat.min_self]at hvl;walk_at "d";refine⟨ep,_,e2 _ _ hA,by rw[hlen];lia,by rw[hlen];lia,?_⟩;rw[hlen,show((ns.length:Int)).toNat=ns.length by lia];obtain⟨le,hle⟩:∃le:Str->Str->Prop,le=fun z y=>∃(k:Nat)(r:Rl),ns[k]? = some z/\rs[k]? = some r/\y∈r.lean e:=⟨_,rfl⟩;have hnn:∀z∈ns,∀y,le z y->y∈ns:=fun z _ y hy=>by
  rw[hle]at hy;obtain⟨k,r,_,h2,h3⟩:=hy;exact(hrs r (Yk h2)).2 y (Rl.lean_nms h3)
 have hzf:(ns.zip vs).map (·.1)=ns:=ZaP hvl.symm;have kpd:∀ {B:AHp} {ep1 ep2:Nat} {k1 k2:List (Str×U)} {R:Nat->List Str->Prop},B p=some (dS P w ep1 k1)->DLs B vs R->DLs (updA B p (dS P w ep2 k2)) vs R:=fun hb h=>h.kp fun q us hq=>by
  rw[Zn fun e=>by rw[e,hb]at hq;cases hq];exact hq
 refine Zdh (n:=ns.length) (fun t ρ A2=>∃(k':List (Str×U))(ep':Nat)(x3 x4 x5:Option U)(rk:Str->Nat)(n:Nat),ρ=[some (.ref d),some (.ref d2),some (.ref p),x3,x4,x5]/\Ext A A2/\A2 p=some (dS P w ep' k')/\k'.Sublist (ns.zip vs)/\(DLs A2 vs fun k zs=>∀r,rs[k]? = some r->zs=r.lean e)/\(∀z∈ns,z∉k'.map (·.1)->rk z<n/\∀y,le z y->y∉k'.map (·.1)/\rk y<rk z)/\((∀z∈k'.map (·.1),∃y∈k'.map (·.1),le z y)\/k'.length+t<=ns.length)) ⟨ns.zip vs,ep',_,_,_,fun _=>0,0,rfl,e2,h2,List.Sublist.refl _,hvs,fun z hz hn=>absurd (by rw[hzf];exact hz) hn,.inr (by rw[List.length_zip];lia)⟩ ?_ ?_
 .rintro t ρ A3 ht ⟨k',ep1,x3,x4,x5,rk,n,rfl,e3,h3,hsb,hvs3,hrk,hst⟩;have hkn:(k'.map (·.1)).Nodup:=(hsb.map (·.1)).nodup (by rw[hzf];exact hnd);have hkl:k'.length<=ns.length:=by have:=hsb.length_le;rw[List.length_zip]at this;lia
  walk_at "d";refine⟨ep1,k',h3,fun l hl=>?_⟩;rw[show k'.map fK=(k'.map (·.1)).map U.str from by rw[Yai];rfl];have hpl:p≠l:=neA h3 hl;have hl0:=Za2 e3 hl;have e4:=e3.trans (Ext.new hl (o:=.lst ((k'.map (·.1)).map U.str)));have h4:=Ext.new hl (o:=.lst ((k'.map (·.1)).map U.str)) _ _ h3;have hvs4:=hvs3.ext (Ext.new hl (o:=.lst ((k'.map (·.1)).map U.str)));have l4:updA A3 l (.lst ((k'.map (·.1)).map U.str)) l=some (.lst ((k'.map (·.1)).map U.str)):=Zc;generalize updA A3 l (.lst ((k'.map (·.1)).map U.str))=A4 at e4 h4 hvs4 l4 ⊢;walk_at "d";refine⟨⟨_,l4⟩,?_⟩;refine ZaY ((k'.map (·.1)).map U.str) (fun j ρ A5=>∃(kj:List (Str×U))(ep':Nat)(x3:Option U)(rk:Str->Nat)(n:Nat),ρ=[some (.ref d),some (.ref d2),some (.ref p),x3,x4,some (.int (0+(t:Int)))]/\Ext A A5/\A5 l=some (.lst ((k'.map (·.1)).map U.str))/\A5 p=some (dS P w ep' kj)/\kj.Sublist k'/\(DLs A5 vs fun k zs=>∀r,rs[k]? = some r->zs=r.lean e)/\(∀z∈ns,z∉kj.map (·.1)->rk z<n/\∀y,le z y->y∉kj.map (·.1)/\rk y<rk z)/\(∀(i:Nat) z,j<=i->(k'.map (·.1))[i]? = some z->z∈kj.map (·.1))/\((∀z∈k'.map (·.1),∃y∈k'.map (·.1),le z y)->kj=k')/\(kj=k'/\(∀z∈(k'.map (·.1)).take j,∃y∈k'.map (·.1),le z y)\/kj.length+1<=k'.length)) ⟨k',ep1,_,rk,n,rfl,e4,l4,h4,List.Sublist.refl _,hvs4,hrk,(fun i z _ h=>Yk h),(fun _=>rfl),.inl ⟨rfl,fun z h=>nomatch h⟩⟩ (fun j ρ A5 _ hq=>by obtain⟨_,_,_,_,_,_,_,h,_⟩:=hq;exact h) ?_ ?_
  .rintro j u ρ A5 hu ⟨kj,ep3,x3,rk,n,rfl,e5,l5,h5,hsj,hvs5,hrk5,hin,hsta,hdis⟩;obtain⟨z,hz,rfl⟩:=Z7 hu;have hzk:=hin j z (Yj _) hz;obtain⟨v,hv⟩:=YaU.mp (Za4 hzk);obtain⟨i,hi⟩:=List.getElem?_of_mem (hsb.subset (hsj.subset (ZgN hv)));obtain⟨hi1,hi2⟩:=List.getElem?_zip_eq_some.mp hi;obtain⟨r,hr⟩:∃r,rs[i]? = some r:=⟨_,Yg (by rw[hrl];exact(Yh.mp hi1).1)⟩;obtain⟨q5,zs,rfl,hq5,hzs⟩:=hvs5 i v hi2;have hzs:=hzs r hr;subst hzs;have hll:=r.lean_len (e:=e);have hr60:=hrs r (Yk hr);have hlez:∀y,le z y↔y∈r.lean e:=fun y=>by
    rw[hle];constructor
    .rintro⟨k,r',a,b,c⟩;have:=Zad hnd a hi1;subst this;rw[hr]at b;cases b;exact c
    .exact fun h=>⟨i,r,hi1,hr,h⟩
   walk_at "d";refine Zka (!((r.lean e).map fun y=>(kj.lookup y).isSome).any id) (fun B hB=>?_) fun B eB=>?_
   .walk_at "d";refine⟨ep3,kj,_,h5,hv,?_⟩;walk_at "d";refine⟨⟨_,hq5⟩,fun l6 hl6=>?_⟩;walk_at "c";refine Zc2 ((r.lean e).map U.str) (fun _=>true) (fun k=>.bl (kj.lookup ((r.lean e)[k]?.getD ("":Str))).isSome) (fun τ=>∃x,τ=[x,some (.ref p)]) ⟨_,rfl⟩ hl6 (by rw[Yc];lia) (fun k A2 _ e6=>⟨_,e6 _ _ hq5,rfl⟩) ?_ ?_
    .rintro k u τ A6 hu ⟨x,rfl⟩ e6 Cy Cn hy _;obtain⟨y,hy1,rfl⟩:=Z7 hu;walk_at "d";have:=hy rfl [some (.str y),some (.ref p)] A6 ⟨_,rfl⟩ (Ext.refl _);rw[hy1,Option.getD_some]at this;exact Zfr trivial ⟨ep3,kj,e6 _ _ h5,this⟩
    intro B6 e6 hB6;have hW:((List.range ((r.lean e).map U.str).length).filter fun _=>true).map (fun k=>U.bl (kj.lookup ((r.lean e)[k]?.getD ("":Str))).isSome)=((r.lean e).map fun y=>(kj.lookup y).isSome).map U.bl:=by
     rw[Ybb.mpr fun _ _=>rfl,Yc,Yai];exact Zer (fun y=>U.bl (kj.lookup y).isSome) (r.lean e) ("":Str)
    rw[hW];walk_at "d";exact⟨_,Zc,hB _ (e6.trans (Ext.new hB6))⟩
   have hany:((r.lean e).map fun y=>(kj.lookup y).isSome).any id=true↔∃y∈kj.map (·.1),le z y:=by
    rw[List.any_map,List.any_eq_true];constructor
    .rintro⟨y,h1,h2⟩;refine⟨y,Classical.byContradiction fun hn=>?_,(hlez y).mpr h1⟩;have h2:(kj.lookup y).isSome=true:=h2;rw[Zbi hn]at h2;cases h2
    .rintro⟨y,h1,h2⟩;exact⟨y,(hlez y).mp h2,Za4 h1⟩
   by_cases hb:((r.lean e).map fun y=>(kj.lookup y).isSome).any id=true
   .refine ZA (by rw[hb];rfl) ?_;walk_at "d";refine⟨kj,ep3,_,rk,n,rfl,e5.trans eB,eB _ _ l5,eB _ _ h5,hsj,hvs5.ext eB,hrk5,fun i z' h=>hin i z' (by lia),hsta,?_⟩;rcases hdis with⟨rfl,h⟩|h
    .refine .inl ⟨rfl,fun x hx=>?_⟩;rcases take_mem hz hx with hx|rfl
     .exact h x hx
     .exact hany.mp hb
    .exact .inr h
   .refine ZX (by rw[Bool.not_eq_true]at hb;rw[hb];rfl) ?_;have h0:∀y∈kj.map (·.1),¬le z y:=fun y hy hl=>hb (hany.mpr ⟨y,hy,hl⟩);obtain⟨rk',hrk'⟩:=ZqG hnn hrk5 hzk h0 (fun x=>ZiR (z:=z) (kus:=kj));have hlt:=ZrN hzk;have hjl:=hsj.length_le;walk_at "d";refine⟨p,ep3,kj,rfl,eB _ _ h5,z,ep3,kj,_,rfl,eB _ _ h5,hv,fun ep4=>⟨rmF z kj,ep4,_,rk',n+1,rfl,ZaM (e5.trans eB) hp,by rw[Zn (Ne.symm hpl)];exact eB _ _ l5,Zc,List.filter_sublist.trans hsj,kpd (eB _ _ h5) (hvs5.ext eB),hrk',fun i z' hi hz'=>ZiR.mpr ⟨hin i z' (by lia) hz',fun e=>?_⟩,fun hs=>?_,.inr (by lia)⟩⟩
    .rw[e]at hz';have:=Zad hkn hz' hz;lia
    .have hk:=hsta hs;subst hk;obtain⟨y,hy,hl⟩:=hs z hzk;exact absurd hl (h0 y hy)
  .rintro ρ A5 ⟨kj,ep3,x3,rk,n,rfl,e5,l5,h5,hsj,hvs5,hrk5,hin,hsta,hdis⟩;walk_at "d";refine⟨kj,ep3,_,_,_,rk,n,rfl,e5,h5,hsj.trans hsb,hvs5,hrk5,?_⟩;rcases hdis with⟨rfl,h⟩|h
   .refine .inl ?_;rw[Yc,YZ]at h;exact h
   .rcases hst with hs|hlt
    .have hk:=hsta hs;rw[hk]at h;lia
    .exact .inr (by lia)
 rintro ρ A3 ⟨k',ep1,x3,x4,x5,rk,n,rfl,e3,h3,hsb,hvs3,hrk,hst⟩;walk_at "d";refine⟨ep1,k',h3,fg (q _ _ e3 (fun hb=>?_) fun hb=>?_)⟩
 .have hk:k'=[]:=YaI.mp (by have:=of_decide_eq_false hb;lia);subst hk;refine⟨rk,fun k z r hz hr y hy=>((hrk z (Yk hz) (fun h=>nomatch h)).2 y ?_).2⟩;rw[hle];exact⟨k,r,hz,hr,hy⟩
 .have hb:=Yak hb;have hs:∀z∈k'.map (·.1),∃y∈k'.map (·.1),le z y:=by
   rcases hst with h|h
   .exact h
   .lia
  refine⟨k'.map (·.1),fun h=>?_,fun z hz=>by rw[<- hzf];exact(hsb.map (·.1)).subset hz,fun k z r hz hr hm=>?_⟩
  .rw[List.map_eq_nil_iff]at h;rw[h]at hb;cases hb
  .obtain⟨y,hy,hl⟩:=hs z hm;rw[hle]at hl;obtain⟨k2,r2,a,b,c⟩:=hl;have:=Zad hnd a hz;subst this;rw[hr]at b;cases b;exact⟨y,hy,c⟩
end
def nkV(ns:List Str)(rs:List Rl):Str->On:=lV (nkF ns rs) ns.length
def Zic(P:Program)(w:World):ASp:=fun us A Q=>∃(l:Addr)(ns:List Str)(rs:List Rl),us=[.ref l]/\A l=some (.lst ((ns.zip rs).map fun p=>.tup [.str p.1,p.2.toU]))/\rs.length=ns.length/\ns.length<=60/\ns.Nodup/\(∀r∈rs,r.size<=60/\∀y∈r.nms,y∈ns)/\(∀(k:Nat) z r,ns[k]? = some z->rs[k]? = some r->r.hp (nkV ns rs)=true->(∀(j:Nat) r',j<k->rs[j]? = some r'->r'.hp (nkV ns rs)=false)->∀B,Ext A B->Q (.tup [.str "hollow",.str z]) B) /\
 ((∀r∈rs,r.hp (nkV ns rs)=false)->(∃L:List Str,L≠[]/\(∀z∈L,z∈ns)/\∀(k:Nat) z r,ns[k]? = some z->rs[k]? = some r->z∈L->∃y∈L,y∈r.lean (nkV ns rs))->∀B,Ext A B->Q (.tup [.str "round",.str ""]) B) /\
 ((∀r∈rs,r.hp (nkV ns rs)=false)->(∃rk:Str->Nat,∀(k:Nat) z r,ns[k]? = some z->rs[k]? = some r->∀y∈r.lean (nkV ns rs),rk y<rk z)->∀B,Ext A B->Q (.tup [.str "sound",.str ""]) B)
def ZoP(R:Bool->Prop)(h1:∀B:Bool->AHp->Prop,(∀k A',R k->Ext A A'->B k A')->c ρ A B)(h2:∀k A',R k->Ext A A'->if k=true then t D ρ A' else e D ρ A'):Zmb c t e D ρ A:=h1 _ h2
section
include T
def Zkp:T.F_j2.Ok CX0 66 (Zar K (Zic P w)):=by
 have G_j7:=Zmo T 61;have G_j9:=Zcn T;have G_q9:=Zqn T;have G_ql:=ZnD T;apply T.F_j2.okA;walk_at "f";exact fun S hr=>⟨_,(Ze (ZC (i:=1) S.nd rfl (Or.inr rfl) ZbG)
   (Ze (Zae YA rfl (Zab (pv 0)) (ZbL (n:=2) rfl (ZG (Zq (i:=2) S.nd rfl (Or.inl rfl)) (ZG (Zq (i:=3) S.nd rfl (Or.inl rfl)) Zax)))
   (Ze (ZQ (Zp Zjs (pv 2) (pv 1) (by with_unfolding_all rfl)) (Zh (Zt (ZW (Zb ZF (Zb (pv 2) Zg))))) Zz)
   (Zh (ZdN (pv 3) (ZdD (pv 1) (pv 2) ZdK)))))
   (Ze (Zae YA rfl (ZrJ (pv 1)) (Zq (i:=3) S.nd rfl (Or.inl rfl))
   (Ze (ZC (i:=4) S.nd rfl (Or.inl rfl) (Zac ZnO T.n_sorted (Zb (Za3 (ts:=["_law_one"]) (frs':=[("_law_rules",1)]) (cl:=_) rfl ⟨(by rfl),rfl,(by decide +kernel),(by decide +kernel),(ZB (by rfl) ZJ),(Zal (by rfl) (by rfl)),(ZB ⟨(by rfl),(by first|exact .inl rfl|exact .inr rfl),(by first|exact .inl rfl|exact .inr rfl),(by rfl)⟩ ZJ)⟩ (Zab (T.F_j7.pc G_j7 hr (Zb (pv 3) Zg))) (fun _ _ _ _=>Zq (i:=0) (show List.Nodup (["_law_one","_law_rules"]:List Str)from by decide +kernel) rfl (Or.inl rfl) (.inr rfl)) (fun _ _ _ _=>(ZbF ((Zcz (Zp (Zpo K rfl hr) (ZI (Zo8 K rfl) (pv 0) Zl (fun _ _=>rfl)) ZF (ZE _)) (ZbO (Zp (Zm9 P w rfl rfl) (ZI (Zo8 K rfl) (pv 0) Zl (fun _ _=>rfl)) (pv 1) (by with_unfolding_all rfl))))).pt)) (fun _ _ _ _=>by exact(ZI (Zo8 K rfl) (pv 0) Zl (fun _ _=>rfl)))) Zg)))
   (Zh (ZQ (Zp (Zd3 hr) (pv 4) (Z0 Zg) (ZE _)) (Zh (Zt (ZW (Zb ZF (Zb (ZI ZaI (pv 4) Zl (fun _ _=>rfl)) Zg))))) Zz))))
   (Ze (ZC (i:=5) S.nd rfl (Or.inl rfl) (T.F_j9.pc G_j9 hr (Zb (pv 1) Zg)))
   (Ze (Zae YA rfl (Zhn (pv 1)) (ZbL (n:=2) rfl (ZG (Zq (i:=2) S.nd rfl (Or.inl rfl)) (ZG (Zq (i:=3) S.nd rfl (Or.inl rfl)) Zax)))
   (Zh (ZQ (Za8 (T.F_q9.pc G_q9 hr (Zb (pv 3) (Zb (pv 5) Zg)))) (Zh (Zt (ZW (Zb ZF (Zb (pv 2) Zg))))) Zz)))
   (Ze (ZQ (Za8 (T.F_ql.pc G_ql hr (Zb (pv 1) (Zb (pv 5) Zg)))) (Zh (Zt (ZW (Zb ZF (Zb ZF Zg))))) Zz)
   (Zh (Zt (ZW (Zb ZF (Zb ZF Zg))))))))))),(Zj (Zu ZbE Zi)
   (Zj (Zag (ZO ZR Za) (Zaw (ZH Zi (ZH Zi Zay)))
   (Zj (ZT (Zo (Zk ZfW Za Za)) (Zs (ZV (Zd ZL (Zd Za Zf)))) Zy)
   (Zu Za (ZbH Za Za))))
   (Zj (Zag (ZO ZlV Za) Zi
   (Zj (Zu (ZY Zkh (Zd (Zaz (ZO ZR (Zw (Zd Za Zf))) Zi (Zcy (Zo (Zk ZaN (Zk ZM Za Zm) ZL)) (Zo (Zk ZcQ (Zk ZM Za Zm) Za))) (Zk ZM Za Zm)) Zf)) Zi)
   (ZT (Zo (Zk Zd0 Za (ZZ Zf))) (Zs (ZV (Zd ZL (Zd (Zk ZM Za Zm) Zf)))) Zy)))
   (Zj (Zu (Zw (Zd Za Zf)) Zi)
   (Zj (Zag (ZO Zdv Za) (Zaw (ZH Zi (ZH Zi Zay)))
   (ZT (ZbP (Zw (Zd Za (Zd Za Zf)))) (Zs (ZV (Zd ZL (Zd Za Zf)))) Zy))
   (Zj (ZT (ZbP (Zw (Zd Za (Zd Za Zf)))) (Zs (ZV (Zd ZL (Zd ZL Zf)))) Zy)
   (Zs (ZV (Zd ZL (Zd ZL Zf))))))))))⟩
 rintro us A Q ⟨l,ns,rs,rfl,hl,hrl,hnl,hnd,hrs,qh,qr,qs⟩;walk_at "o";intro d hd;have hld:l≠d:=neA hl hd;have hzl:(ns.zip rs).length=ns.length:=by rw[List.length_zip];lia
 walk_at "d";refine⟨⟨_,by rw[Zn hld];exact hl⟩,?_⟩;refine ZaY ((ns.zip rs).map fun p=>.tup [.str p.1,p.2.toU]) (fun k ρ A2=>∃(ep:Nat)(x2 x3 x4 x5:Option U),ρ=[some (.ref l),some (.ref d),x2,x3,x4,x5]/\A2=updA A d (dS P w ep ((ns.zip (rs.map Rl.toU)).take k))) ⟨0,_,_,_,_,rfl,rfl⟩ (fun k ρ A2 _ hq=>by obtain⟨_,_,_,_,_,_,e⟩:=hq;rw[e,Zn hld];exact hl) ?_ ?_
 .rintro k u ρ A2 hu ⟨ep,x2,x3,x4,x5,rfl,rfl⟩;obtain⟨p,hp,rfl⟩:=Z7 hu;obtain⟨hz,hr⟩:=List.getElem?_zip_eq_some.mp hp;have hzp:(ns.zip (rs.map Rl.toU))[k]? = some (p.1,p.2.toU):=List.getElem?_zip_eq_some.mpr ⟨hz,by rw[Yi,hr];rfl⟩;have hk:=(Yh.mp hzp).1;have hzn:p.1∉((ns.zip (rs.map Rl.toU)).take k).map (·.1):=by
   rw[Ya9,ZaP (by rw[Yc];lia)];intro hm;obtain⟨j,hj,e⟩:=Yam.mp hm;rw[YL]at hj;rw[List.getElem_take]at e;have:=Zad hnd (i:=j) (j:=k) (x:=p.1) (by rw[Yg (by lia),e]) hz;lia
  walk_at "d";refine⟨rfl,Zbc (fun B hB=>?_) ?_⟩
  .walk_at "d";refine⟨ep,_,Zc,?_⟩;rw[Zbi hzn];exact hB
  walk_at "d";refine⟨d,p.1,ep,_,rfl,rfl,Zc,?_,fun ep'=>⟨ep',_,_,_,_,rfl,?_⟩⟩
  .rw[YL,List.length_zip,Y8];lia
  .rw[ZK,ZaH hzn,List.take_succ_eq_append_getElem hk,(Yh.mp hzp).2]
 rintro ρ A2 ⟨ep,x2,x3,x4,x5,rfl,rfl⟩;rw[Yc,Yaa (by rw[List.length_zip,List.length_zip,Yc];exact Yj _)];have e1:=Ext.new hd (o:=dS P w ep (ns.zip (rs.map Rl.toU)));have d1:updA A d (dS P w ep (ns.zip (rs.map Rl.toU))) d=some (dS P w ep (ns.zip (rs.map Rl.toU))):=Zc;generalize updA A d (dS P w ep (ns.zip (rs.map Rl.toU)))=A1 at e1 d1 ⊢;walk_at "d";refine⟨ep,_,d1,?_⟩;have hlen:(ns.zip (rs.map Rl.toU)).length=ns.length:=by rw[List.length_zip,Yc];lia
 refine Zdc (ns.zip (rs.map Rl.toU)) (fun k ρ A2=>∃(x2 x3 x4 x5:Option U),ρ=[some (.ref l),some (.ref d),x2,x3,x4,x5]/\Ext A1 A2) ⟨_,_,_,_,rfl,Ext.refl _⟩ (fun k ρ A2 _ hq=>by obtain⟨_,_,_,_,_,e⟩:=hq;exact e _ _ d1) ?_ ?_
 .rintro k p' ρ A2 hp' ⟨x2,x3,x4,x5,rfl,e2⟩;obtain⟨z,r,hz,hr,e3⟩:=Zb9 (f:=fun x=>x.2) (by rw[Yi,hp'];rfl);have e3:p'.2=r.toU:=e3;rw[e3];have hr60:=hrs r (Yk hr);have hrd:=Zbm r;have hsl:=r.subs_len;walk_at "d";refine⟨r,rfl,by lia,hr60.1,fun B l2 eB hl2 hB2=>?_⟩;walk_at "d";refine⟨⟨_,hB2⟩,fun l3 hl3=>?_⟩;walk_at "c";refine Zc2 (r.subs.map Rl.toU) (fun _=>false) (fun _=>.non) (fun τ=>∃x,τ=[x,some (.ref d)]) ⟨_,rfl⟩ hl3 (by rw[Yc];lia) (fun k A2 _ e4=>⟨_,e4 _ _ hB2,rfl⟩) ?_ ?_
  .rintro m u τ A6 hu ⟨x,rfl⟩ e6 Cy Cn _ hn;obtain⟨s,hs,rfl⟩:=Z7 hu;have hn:=hn rfl [some s.toU,some (.ref d)] A6 ⟨_,rfl⟩ (Ext.refl _);cases s with
   | named v =>
    have hv:v∈ns:=hr60.2 v (Rl.nms_subs.mpr (Yk hs));unfold Rl.toU at hn ⊢;walk_at "g";refine ZX rfl ⟨ep,_,(e2.trans (eB.trans e6)) _ _ d1,?_⟩;rw[Za4 (by rw[ZaP (by rw[Yc];lia)];exact hv)];exact ZA rfl hn
   | nothing=>unfold Rl.toU at hn ⊢;walk_at "g";exact ZA (by decide +kernel) (ZA rfl hn)
   | bead c=>unfold Rl.toU at hn ⊢;walk_at "g";exact ZA (by decide +kernel) (ZA rfl hn)
   | or a b=>unfold Rl.toU at hn ⊢;walk_at "g";exact ZA (by decide +kernel) (ZA rfl hn)
   | by_ a b=>unfold Rl.toU at hn ⊢;walk_at "g";exact ZA (by decide +kernel) (ZA rfl hn)
   | hold i a=>unfold Rl.toU at hn ⊢;walk_at "g";exact ZA (Yw (Zlm i (by decide +kernel))) (ZA rfl hn)
  intro B5 e5 hB5;rw[List.filter_eq_nil_iff.mpr fun _ _=>by decide,YaV];walk_at "d";refine⟨[],Zc,by decide,fun D zs hD hpm hso=>?_⟩;cases hpm.eq_nil;have e7:=(eB.trans (e5.trans (Ext.new hB5))).trans (Ext.new hD (o:=.lst (([]:List Str).map U.str)));have d7:updA (updA B5 l3 (.lst [])) D (.lst (([]:List Str).map U.str)) D=some (.lst (([]:List Str).map U.str)):=Zc;generalize updA (updA B5 l3 (.lst [])) D (.lst (([]:List Str).map U.str))=A7 at e7 d7 ⊢;refine Zka false (fun C hC=>?_) fun A8 e8=>?_
  .walk_at "d";exact⟨by decide,fun l4 hl4=>Zd1 (ys:=[]) (zs:=[]) (fun z h=>nomatch h) (fun z h=>nomatch h) (Ext.new hl4 _ _ d7) Zc ⟨_,rfl,hC _ (Ext.new hl4)⟩⟩
  refine ZA rfl ?_;walk_at "d";exact⟨_,_,_,_,rfl,(e2.trans e7).trans e8⟩
 rintro ρ A2 ⟨x2,x3,x4,x5,rfl,e2⟩;walk_at "d";refine⟨d,ns,rs,ep,rfl,e2 _ _ d1,hrl,hnl,hnd,fun r hr=>(hrs r hr).1,fun d' ep' kus hd' hE=>?_⟩;have e3:=e2.trans (Ext.new hd' (o:=dS P w ep' kus));have d3:updA A2 d' (dS P w ep' kus) d'=some (dS P w ep' kus):=Zc;generalize updA A2 d' (dS P w ep' kus)=A3 at e3 d3 ⊢;walk_at "d";refine⟨ep,_,e3 _ _ d1,?_⟩;refine Zdc (ns.zip (rs.map Rl.toU)) (fun k ρ A4=>∃(x2 x3 x4:Option U),ρ=[some (.ref l),some (.ref d),x2,x3,x4,some (.ref d')]/\Ext A3 A4/\∀(j:Nat) r',j<k->rs[j]? = some r'->r'.hp (nkV ns rs)=false) ⟨_,_,_,rfl,Ext.refl _,fun j _ h=>absurd h (Ybn j)⟩ (fun k ρ A4 _ hq=>by obtain⟨_,_,_,_,e,_⟩:=hq;exact e _ _ (e3 _ _ d1)) ?_ ?_
 .rintro k p' ρ A4 hp' ⟨x2,x3,x4,rfl,e4,hj⟩;obtain⟨z,r,hz,hr,e5⟩:=Zb9 (f:=fI) (by rw[Yi,hp'];rfl);rw[e5];unfold fI;walk_at "d";refine⟨rfl,Zka (r.hp (nkV ns rs)) (fun C hC=>?_) fun B eB=>?_⟩
  .walk_at "d";exact⟨r,d',ep',kus,_,rfl,(hrs r (Yk hr)).1,e4 _ _ d3,hE,fun B1 e1=>⟨_,rfl,hC B1 e1⟩⟩
  cases hh:r.hp (nkV ns rs)with
  | true =>
   refine ZX rfl ?_;walk_at "d";exact⟨Zcw,fg (qh k z r hz hr hh hj _ (e1.trans (e3.trans (e4.trans eB))))⟩
  | false =>
   refine ZA rfl ?_;walk_at "d";refine⟨_,_,_,rfl,e4.trans eB,fun j r' hlt hr'=>?_⟩;rcases Nat.lt_succ_iff_lt_or_eq.mp hlt with h|rfl
   .exact hj j r' h hr'
   .rw[hr]at hr';cases hr';exact hh
 rintro ρ A4 ⟨x2,x3,x4,rfl,e4,hj⟩;have hall:∀r∈rs,r.hp (nkV ns rs)=false:=fun r hr=>by
  obtain⟨j,hj'⟩:=List.getElem?_of_mem hr;exact hj j r (by rw[hlen,<- hrl];exact(Yh.mp hj').1) hj'
 walk_at "d";have e5:=e1.trans (e3.trans e4);refine ZoP (fun b=>(b=false->∃rk:Str->Nat,∀(k:Nat) z r,ns[k]? = some z->rs[k]? = some r->∀y∈r.lean (nkV ns rs),rk y<rk z)/\(b=true->∃L:List Str,L≠[]/\(∀z∈L,z∈ns)/\∀(k:Nat) z r,ns[k]? = some z->rs[k]? = some r->z∈L->∃y∈L,y∈r.lean (nkV ns rs))) (fun C hC=>?_) fun b A5 hb e6=>?_
 .walk_at "d";exact⟨d,d',ns,rs,ep,ep',kus,_,rfl,e4 _ _ (e3 _ _ d1),hrl,hnl,hnd,hrs,e4 _ _ d3,hE,fun B b eB h1 h2=>⟨_,rfl,hC b B ⟨h1,h2⟩ eB⟩⟩
 cases b with
 | true =>
  refine ZX rfl ?_;walk_at "d";exact⟨Zcw,fg (qr hall (hb.2 rfl) _ (e5.trans e6))⟩
 | false =>
  refine ZA rfl ?_;walk_at "d";exact⟨Zcw,fg (qs hall (hb.1 rfl) _ (e5.trans e6))⟩
end
def nkL(ns:List Str)(rs:List Rl)(z y:Str):Prop:=∃(k:Nat)(r:Rl),ns[k]? = some z/\rs[k]? = some r/\y∈r.lean (nkV ns rs)
def ZkD(P:Program)(w:World):ASp:=fun us A Q=>∃(lc l:Addr)(c:List Str)(ns:List Str)(rs:List Rl),us=[.ref lc,.ref l]/\A lc=some (.lst (c.map U.str))/\A l=some (.lst ((ns.zip rs).map fun p=>.tup [.str p.1,p.2.toU]))/\rs.length=ns.length/\ns.length<=60/\ns.Nodup/\(∀r∈rs,r.size<=60/\∀y∈r.nms,y∈ns)/\Cyc (nkL ns rs) c/\(∀z∈c,z∈ns)/\∀B,Ext A B->Q (.bl true) B
section
include T
def ZmU:T.F_qt.Ok CX0 67 (Zar K (ZkD P w)):=by
 have G_j9:=Zcn T;have G_j4:=Zd5 T 60;apply T.F_qt.okA;walk_at "f";exact fun S hr=>⟨_,(Ze (ZC (i:=2) S.nd rfl (Or.inl rfl) ZbG)
   (Ze (Zae YA rfl (Zab (pv 1)) (ZbL (n:=2) rfl (ZG (Zq (i:=3) S.nd rfl (Or.inl rfl)) (ZG (Zq (i:=4) S.nd rfl (Or.inl rfl)) Zax)))
   (Zh (ZdN (pv 4) (ZdD (pv 2) (pv 3) ZdK))))
   (Ze (ZC (i:=5) S.nd rfl (Or.inl rfl) (T.F_j9.pc G_j9 hr (Zb (pv 2) Zg)))
   (Ze (ZQ ((ZfM (Zjw (Za8 (Zac Zt1 T.n_isinstance (Zb (pv 0) (Zb (Zm1 (T:="list") (by rfl) T.n_list (by decide +kernel)) Zg))))) (ZfM (Zp (ZaV hr) (Zac ZcD T.n_len (Zb (pv 0) Zg)) Zl (ZE _)) (Zdw (Zp (Zd3 hr) (Zac Zp1 T.n_len (Zb (ZdT (ZuR rfl) T.n_set (Zb (pv 0) Zg)) Zg)) (Zac ZcD T.n_len (Zb (pv 0) Zg)) (ZE _)))))).pt (Zh (Zt Zda)) Zz)
   (Ze (Zae YA rfl (Zbe rfl T.n_range (Zb (Zac ZcD T.n_len (Zb (pv 0) Zg)) Zg)) (Zq (i:=6) S.nd rfl (Or.inl rfl))
   (Zh (ZQ ((ZfM (Zp ZdU (ZI ZaI (pv 0) (Z3 ZkL (pv 6) Zl) (fun _ _=>rfl)) (pv 2) (by with_unfolding_all rfl)) (Zdw (Zp ZrC (ZI ZaI (pv 0) (pv 6) (fun _ _=>rfl)) (T.F_j4.pc G_j4 hr (Zb (ZI ZbN (pv 2) (ZI ZaI (pv 0) (Z3 ZkL (pv 6) Zl) (fun _ _=>rfl)) (fun _ _=>rfl)) (Zb (pv 5) Zg))) (by with_unfolding_all rfl))))).pt (Zh (Zt Zda)) Zz)))
   (Zh (Zt Zda))))))),(Zj (Zu ZbE Zi)
   (Zj (Zag (ZO ZR Za) (Zaw (ZH Zi (ZH Zi Zay)))
   (Zu Za (ZbH Za Za)))
   (Zj (Zu (Zw (Zd Za Zf)) Zi)
   (Zj (ZT (ZfT (ZjC (ZbP (ZY Zqv (Zd Za (Zd Zm4 Zf))))) (ZfT (Zo (Zk ZaN (ZY Zbq (Zd Za Zf)) Zm)) (Zo (Zk Zd0 (ZY Zm3 (Zd (ZY ZoN (Zd Za Zf)) Zf)) (ZY Zbq (Zd Za Zf)))))) (Zs Zdj) Zy)
   (Zj (Zag (ZbI (Zd (ZY Zbq (Zd Za Zf)) Zf)) Zi
   (ZT (ZfT (Zo (Zk ZcQ (Zk ZM Za (Zk Zf6 Za Zm)) Za)) (Zo (Zk Zl7 (Zk ZM Za Za) (Zw (Zd (Zk ZaZ Za (Zk ZM Za (Zk Zf6 Za Zm))) (Zd Za Zf)))))) (Zs Zdj) Zy))
   (Zs Zdj))))))⟩
 rintro us A Q ⟨lc,l,c,ns,rs,rfl,hc,hl,hrl,hnl,hnd,hrs,hcy,hcn,q⟩;walk_at "o";intro d hd;have hld:l≠d:=neA hl hd;walk_at "d";refine⟨⟨_,by rw[Zn hld];exact hl⟩,?_⟩;refine ZaY ((ns.zip rs).map fun p=>.tup [.str p.1,p.2.toU]) (fun k ρ A2=>∃(ep:Nat)(x3 x4 x5 x6:Option U),ρ=[some (.ref lc),some (.ref l),some (.ref d),x3,x4,x5,x6]/\A2=updA A d (dS P w ep ((ns.zip (rs.map Rl.toU)).take k))) ⟨0,_,_,_,_,rfl,rfl⟩ (fun k ρ A2 _ hq=>by obtain⟨_,_,_,_,_,_,e⟩:=hq;rw[e,Zn hld];exact hl) ?_ ?_
 .rintro k u ρ A2 hu ⟨ep,x3,x4,x5,x6,rfl,rfl⟩;obtain⟨p,hp,rfl⟩:=Z7 hu;obtain⟨hz,hr⟩:=List.getElem?_zip_eq_some.mp hp;have hzp:(ns.zip (rs.map Rl.toU))[k]? = some (p.1,p.2.toU):=List.getElem?_zip_eq_some.mpr ⟨hz,by rw[Yi,hr];rfl⟩;have hk:=(Yh.mp hzp).1;have hzn:p.1∉((ns.zip (rs.map Rl.toU)).take k).map (·.1):=by
   rw[Ya9,ZaP (by rw[Yc];lia)];intro hm;obtain⟨j,hj,e⟩:=Yam.mp hm;rw[YL]at hj;rw[List.getElem_take]at e;have:=Zad hnd (i:=j) (j:=k) (x:=p.1) (by rw[Yg (by lia),e]) hz;lia
  walk_at "d";refine⟨rfl,d,p.1,ep,_,rfl,rfl,Zc,?_,fun ep'=>⟨ep',_,_,_,_,rfl,?_⟩⟩
  .rw[YL,List.length_zip,Y8];lia
  .rw[ZK,ZaH hzn,List.take_succ_eq_append_getElem hk,(Yh.mp hzp).2]
 rintro ρ A2 ⟨ep,x3,x4,x5,x6,rfl,rfl⟩;rw[Yc,Yaa (by rw[List.length_zip,List.length_zip,Yc];exact Yj _)];have e1:=Ext.new hd (o:=dS P w ep (ns.zip (rs.map Rl.toU)));have d1:updA A d (dS P w ep (ns.zip (rs.map Rl.toU))) d=some (dS P w ep (ns.zip (rs.map Rl.toU))):=Zc;generalize updA A d (dS P w ep (ns.zip (rs.map Rl.toU)))=A1 at e1 d1 ⊢;walk_at "d";refine⟨d,ns,rs,ep,rfl,d1,hrl,hnl,hnd,fun r hr=>(hrs r hr).1,fun d' ep' kus hd' hE=>?_⟩;have e3:=Ext.new hd' (o:=dS P w ep' kus);have d3:updA A1 d' (dS P w ep' kus) d'=some (dS P w ep' kus):=Zc;generalize updA A1 d' (dS P w ep' kus)=A3 at e3 d3 ⊢;have c3:=e3 _ _ (e1 _ _ hc);have r3:=e3 _ _ d1;replace e3:=e1.trans e3;walk_at "d";have hcl:0<c.length/\c.length<=60:=⟨List.length_pos_iff.mpr hcy.ne,YB (Zaf hcy.nd hcn) hnl⟩;refine Zka false (fun C hC=>?_) fun A4 e4=>?_
 .walk_at "d";obtain⟨hsd,hsm⟩:=Zb0 c c.length (Yj _);have hsl:(ZbA c c.length).length=c.length:=(Zft hsd hcy.nd fun z=>by rw[hsm,YZ]).length_eq;refine⟨_,c3,ZA rfl ⟨_,c3,ZA (Yw ?_) ⟨c,c3,by show c.length+1<4096;lia,fun p hp=>⟨_,Zc,_,Ext.new hp _ _ c3,?_⟩⟩⟩⟩
  .rw[Yc];lia
  .rw[hsl,Yc,YC rfl];exact hC _ (Ext.new hp)
 refine ZA rfl ?_;walk_at "d";refine⟨_,e4 _ _ c3,by rw[Yc];lia,by rw[Yc];lia,?_⟩;rw[Yc,show((c.length:Int)).toNat=c.length by lia];refine Zdh (n:=c.length) (fun k ρ A5=>∃x6,ρ=[some (.ref lc),some (.ref l),some (.ref d),x3,x4,some (.ref d'),x6]/\Ext A4 A5) ⟨_,rfl,Ext.refl _⟩ ?_ ?_
 .rintro k ρ A5 hk ⟨x6,rfl,e5⟩;obtain⟨b,hb⟩:∃b,c[k]? = some b:=⟨_,Yg hk⟩;obtain⟨a,ha,hab,hat⟩:∃a,a∈c/\nkL ns rs a b/\atI (c.map U.str) (0+(k:Int)-1)=some (.str a):=by
   rcases k with _|k
   .obtain⟨a,ha⟩:∃a,c[c.length-1]? = some a:=⟨_,Yg (by lia)⟩;refine⟨a,Yk ha,hcy.la a b ha hb,?_⟩;show(ixN (c.map U.str).length (-1)).bind _=_;unfold ixN;rw[if_neg (by decide),Yc,if_pos (by lia),Option.bind_some,show((-1:Int)+(c.length:Int)).toNat=c.length-1 by lia,Yi,ha];rfl
   .obtain⟨a,ha⟩:∃a,c[k]? = some a:=⟨_,Yg (by lia)⟩;refine⟨a,Yk ha,hcy.st k a b ha hb,?_⟩;rw[show(0:Int)+((k+1:Nat):Int)-1=(k:Int) by lia];exact Zai (by rw[Yi,ha];rfl)
  have e6:=e4.trans e5;obtain⟨i,r,hi,hr,hl⟩:=hab;have hr60:=hrs r (Yk hr);have hrd:=Zbm r;walk_at "d";refine Zka false (fun C hC=>?_) fun A6 f6=>?_
  .walk_at "d";refine⟨_,_,e6 _ _ c3,hat,?_⟩;walk_at "d";refine⟨ep,_,e6 _ _ r3,?_⟩;rw[Za4 (by rw[ZaP (by rw[Yc];lia)];exact Yk hi)];refine ZA rfl ⟨_,_,e6 _ _ c3,by rw[Int.zero_add];exact Zai (by rw[Yi,hb];rfl),_,_,e6 _ _ c3,hat,?_⟩;walk_at "d";refine⟨ep,_,_,e6 _ _ r3,Zah hnd hi (by rw[Yi,hr];rfl),r,d',ep',kus,_,rfl,by lia,hr60.1,e6 _ _ d3,hE,fun B l2 eB hl2 hB=>?_⟩;walk_at "d";refine⟨_,hB,rfl,Zdg,?_⟩;rw[Zfv,YC (show b∈r.lean (lV (nkF ns rs) ns.length)from hl)];exact hC _ eB
  refine ZA rfl ?_;walk_at "d";exact⟨_,rfl,e5.trans f6⟩
 .rintro ρ A5 ⟨x6,rfl,e5⟩;walk_at "d";exact fg (q _ (e3.trans (e4.trans e5)))
end
def ZcV(rs:List Rl):Nat:=(rs.map Rl.size).sum
def ZcL(a b:List Rl):ZcV (a++b)=ZcV a+ZcV b:=by unfold ZcV;rw[Yt,List.sum_append_nat]
def ZcO(a:Rl):ZcV [a]=a.size:=by simp[ZcV]
def Zd9:∀rs:List Rl,rs.length<=ZcV rs
 | []=>Yj _
 | r :: rs=>by
  have:=Zd9 rs
  have h:=r.sz_pos
  have e:ZcV (r::rs)=r.size+ZcV rs:=by simp[ZcV]
  rw[e,List.length_cons];lia
def ZgD:∀ {rs:List Rl},r∈rs->r.size<=ZcV rs
 | x :: rs,h=>by
  have e:ZcV (x::rs)=x.size+ZcV rs:=by simp[ZcV]
  rcases Yn.mp h with rfl|h
  .lia
  .have:=ZgD h;lia
def Zjf(h:ns≠[]):∃z∈ns,0<(ns.length:Int)/\atI (ns.map U.str) (t % (ns.length:Int))=some (.str z):=by
 have hp:0<(ns.length:Int):=by have:=List.length_pos_iff.mpr h;lia
 have h0:=Yax t (show(ns.length:Int)≠0 by lia);have h1:=Yau t hp;obtain⟨n,hn⟩:=YaH h0;have hl:n<ns.length:=by lia
 refine⟨ns[n],YaX hl,hp,?_⟩;rw[hn];exact Zai (by rw[Yi,Yg hl];rfl)
def Kx(l:Addr)(A B:AHp):Prop:=∀y u,y≠l->A y=some u->B y=some u
def Kx.of(e:Ext A B):Kx l A B:=fun y u _ h=>e y u h
def Kx.upd(e:Kx l A B):Kx l A (updA B l o):=fun y u n h=>by rw[Zn n];exact e y u n h
def Kx.new(e:Kx l A B)(hp:B p=none):Kx l A (updA B p o):=fun y u n h=>Ext.new hp y u (e y u n h)
def Kx.put(e:Kx l A B):Ext (updA A l o) (updA B l o):=fun y u h=>by
 by_cases n:y=l
 .rw[n,Zc]at h ⊢;exact h
 .rw[Zn n]at h ⊢;exact e y u n h
def Zr6:inU (.int k) [.int 5,.int 6,.int 7]=decide (k=5\/k=6\/k=7):=by
 unfold inU inV;simp only[Yq,YaV,List.any_cons,List.any_nil,U.toV,eqV,Bool.or_false];by_cases h:k=5\/k=6\/k=7
 .rw[YC h];rcases h with rfl|rfl|rfl<;>rfl
 .rw[Yw h];simp only[Bool.or_eq_false_iff,Yv];exact⟨fun e=>h (by lia),fun e=>h (by lia),fun e=>h (by lia)⟩
def tr3{α:Type}{a b c:α}:[a,b,c].length<=sizeLine:=by show 3<=sizeLine;decide
def Zuu:List Str:=["red","ash","blue","redder","as"]
def ZlU(h0:0<=k)(h5:k<5):∃c,atI (Zuu.map U.str) k=some (.str c)/\wdB c=true:=by
 obtain⟨n,rfl⟩:=YaH h0;have hn:n<5:=by lia
 rcases n with _|_|_|_|_|n
 .exact⟨"red",rfl,by decide +kernel⟩
 .exact⟨"ash",rfl,by decide +kernel⟩
 .exact⟨"blue",rfl,by decide +kernel⟩
 .exact⟨"redder",rfl,by decide +kernel⟩
 .exact⟨"as",rfl,by decide +kernel⟩
 .lia
def ZtT(k:Bool)(h1:∀B:Bool->AHp->Prop,B k A->c ρ A B)(h2:k=true->∀N:ASt->AHp->Prop,N ρ A'->t { D with nx:=N } ρ A)(h3:k=false->∀N:ASt->AHp->Prop,N ρ A'->e { D with nx:=N } ρ A)(h:D.nx ρ A'):Zmb c t e D ρ A:=h1 _ (by
 cases k with
 | true=>exact Zfr rfl (h2 rfl D.nx h)
 | false=>exact ZhM (by decide) (h3 rfl D.nx h))
def Zg4:ASp:=fun us A Q=>∃z:Int,us=[.int z]/\∀c,wdB c=true->Q (.str c) A
def WOk(ns:List Str)(r:Rl):Prop:=r.wd=true/\∀z∈r.nms,z∈ns
def WOk.or(a:WOk ns x)(b:WOk ns y):WOk ns (.or x y):=⟨by simp only[Rl.wd,a.1,b.1,Bool.and_self],fun z hz=>(Yz.mp hz).elim (a.2 z) (b.2 z)⟩
def WOk.by_(a:WOk ns x)(b:WOk ns y):WOk ns (.by_ x y):=⟨by simp only[Rl.wd,a.1,b.1,Bool.and_self],fun z hz=>(Yz.mp hz).elim (a.2 z) (b.2 z)⟩
def Zqp(h:k=5\/k=6\/k=7):∃(z:Str)(f:Rl->Rl->Rl),atI [U.str "or",U.str "by",U.str "by"] (k-5)=some (.str z)/\(∀x y,U.tup [.str z,x.toU,y.toU]=(f x y).toU/\(f x y).size=x.size+y.size+1)/\∀ns x y,WOk ns x->WOk ns y->WOk ns (f x y):=by
 rcases h with rfl|rfl|rfl
 .exact⟨_,.or,rfl,fun x y=>⟨rfl,rfl⟩,fun ns x y=>WOk.or⟩
 .exact⟨_,.by_,rfl,fun x y=>⟨rfl,rfl⟩,fun ns x y=>WOk.by_⟩
 .exact⟨_,.by_,rfl,fun x y=>⟨rfl,rfl⟩,fun ns x y=>WOk.by_⟩
def ZoV(h:k=0\/k=1):∃(z:Str)(f:Rl->Rl->Rl),atI [U.str "or",U.str "by"] k=some (.str z)/\(∀x y,U.tup [.str z,x.toU,y.toU]=(f x y).toU/\(f x y).size=x.size+y.size+1)/\∀ns x y,WOk ns x->WOk ns y->WOk ns (f x y):=by
 rcases h with rfl|rfl
 .exact⟨_,.or,rfl,fun x y=>⟨rfl,rfl⟩,fun ns x y=>WOk.or⟩
 .exact⟨_,.by_,rfl,fun x y=>⟨rfl,rfl⟩,fun ns x y=>WOk.by_⟩
def ZnQ:ASp:=fun us A Q=>∃(l nl:Addr)(c:Int)(rs:List Rl)(ns:List Str),us=[.ref l,.int c,.ref nl]/\A l=some (.lst (rs.map Rl.toU))/\A nl=some (.lst (ns.map U.str))/\ns≠[]/\(∀z∈ns,wdB z=true)/\(∀r∈rs,WOk ns r)/\ZcV rs<=27 /\
 ∀rs',(∀r∈rs',WOk ns r)->ZcV rs'<=ZcV rs+1->rs'≠[]->Q .non (updA A l (.lst (rs'.map Rl.toU)))
section
include T
def Zin:T.F_ja.Ok CX0 1 (Zar K Zg4):=by
 apply T.F_ja.okA;walk_at "f";exact fun S hr=>⟨_,(Zh (Zt (ZI ZaI (Z0 (ZbU (xs:=["red","ash","blue","redder","as"]) rfl)) (Z3 ZbS (pv 0) Zl) (fun _ _=>rfl)))),(Zs (Zk ZM (ZZ Zcu) (Zk Za1 Za Zm)))⟩;rintro us A Q ⟨z,rfl,q⟩;walk_at "o";have h5:0<=z % 5/\z % 5<5:=⟨Yax _ (by decide),Yau _ (by decide)⟩;obtain⟨c,hc,hw⟩:=ZlU h5.1 h5.2;exact⟨show 5<=sizeLine by decide,fun p hp=>⟨by decide,_,_,Zc,hc,fgx (Ext.new hp) (q c hw)⟩⟩
def ZrG:T.F_j1.Ok CX0 3 (Zar K ZnQ):=by
 have G_ja:=Zin T;apply T.F_j1.okA;walk_at "f";exact fun S hr=>⟨_,(Ze (ZC (i:=3) S.nd rfl (Or.inl rfl) (Z3 ZbS (pv 1) Zl))
   (Ze (ZC (i:=4) S.nd rfl (Or.inl rfl) (Z3 Zgx (pv 1) Zl))
   (Ze (ZC (i:=5) S.nd rfl (Or.inl rfl) (ZW (Zb ZF (Zb (T.F_ja.pc G_ja hr (Zb (pv 4) Zg)) Zg))))
   (Zh (ZQ (Zp (ZaV hr) (pv 3) Zl (ZE _)) (Zh (ZU (ZbK Yy YR YS Zaa (pv 0) (Zb (ZW (Zb ZF Zg)) Zg)))) (Zh (ZQ ((ZfM (Zp (ZaV hr) (pv 3) Zl (ZE _)) (Zdw (Zp (ZaV hr) (pv 3) Zl (ZE _))))).pt (Zh (ZU (ZbK Yy YR YS Zaa (pv 0) (Zb (ZW (Zb ZF (Zb (ZI ZaI (pv 2) (Z3 ZbS (pv 4) (Zac ZcD T.n_len (Zb (pv 2) Zg))) (fun _ _=>rfl)) Zg))) Zg)))) (Zh (ZQ ((Zcz (Zp ZpA (pv 3) (ZW (Zb Zl (Zb Zl (Zb Zl Zg)))) (by with_unfolding_all rfl)) (ZbO (Zp Zpk (Zac ZcD T.n_len (Zb (pv 0) Zg)) Zl (ZE _))))).pt (Ze (ZC (i:=6) S.nd rfl (Or.inl rfl) (Zdz Yy YaA YaB ZdM (pv 0)))
   (Zh (ZU (ZbK Yy YR YS Zaa (pv 0) (Zb (ZW (Zb (ZI ZaI (Z0 (ZbU (xs:=["or","by","by"]) rfl)) (Z3 ZkL (pv 3) Zl) (fun _ _=>rfl)) (Zb (Zdz Yy YaA YaB ZdM (pv 0)) (Zb (pv 6) Zg)))) Zg))))) (Zh (ZQ ((Zcz (Zp Zpk (pv 3) Zl (ZE _)) (Zcz (Zp Zvr (pv 3) Zl (ZE _)) (ZbO (Zp Zpk (Zac ZcD T.n_len (Zb (pv 0) Zg)) Zl (ZE _)))))).pt (Zh (ZU (ZbK Yy YR YS Zaa (pv 0) (Zb (ZW (Zb (ZI ZaI (Z0 (ZbU (xs:=["row","bag","choice","ring"]) rfl)) (Z3 ZkL (pv 3) Zl) (fun _ _=>rfl)) (Zb (Zdz Yy YaA YaB ZdM (pv 0)) Zg))) Zg)))) (Zh (ZU (ZbK Yy YR YS Zaa (pv 0) (Zb (pv 5) Zg))))))))))))))),(Zj (Zu (Zk Za1 Za Zm) Zi)
   (Zj (Zu (Zk ZgH Za Zm) Zi)
   (Zj (Zu (ZV (Zd ZL (Zd (Zw (Zd Za Zf)) Zf))) Zi)
   (ZT (Zo (Zk ZaN Za Zm)) (Z1 (ZbJ ZP ZaR Za (Zd (ZV (Zd ZL Zf)) Zf))) (ZT (ZfT (Zo (Zk ZaN Za Zm)) (Zo (Zk ZaN Za Zm))) (Z1 (ZbJ ZP ZaR Za (Zd (ZV (Zd ZL (Zd (Zk ZM Za (Zk Za1 Za (ZY Zbq (Zd Za Zf)))) Zf))) Zf))) (ZT (Zcy (Zo (Zk Zi0 Za (ZV (Zd Zm (Zd Zm (Zd Zm Zf)))))) (Zo (Zk Zjr (ZY Zbq (Zd Za Zf)) Zm))) (Zj (Zu (ZdG ZP Zci Za) Zi)
   (Z1 (ZbJ ZP ZaR Za (Zd (ZV (Zd (Zk ZM (ZZ Zcu) (Zk Zf6 Za Zm)) (Zd (ZdG ZP Zci Za) (Zd Za Zf)))) Zf)))) (ZT (Zcy (Zo (Zk Zjr Za Zm)) (Zcy (Zo (Zk Zqe Za Zm)) (Zo (Zk Zjr (ZY Zbq (Zd Za Zf)) Zm)))) (Z1 (ZbJ ZP ZaR Za (Zd (ZV (Zd (Zk ZM (ZZ Zcu) (Zk Zf6 Za Zm)) (Zd (ZdG ZP Zci Za) Zf))) Zf))) (Z1 (ZbJ ZP ZaR Za (Zd Za Zf))))))))))⟩
 rintro us A Q ⟨l,nl,c,rs,ns,rfl,hl,hnl,hne,hnw,hrs,htot,q⟩;walk_at "o";have hk:0<=c % 13/\c % 13<13:=⟨Yax _ (by decide),Yau _ (by decide)⟩;refine⟨by decide,⟨by decide,by decide⟩,c / 13,rfl,fun cc hcc=>⟨Zcw,?_⟩⟩;generalize c % 13=k at hk ⊢;generalize c / 13=t;have hrl:=Zd9 rs;have hlm:(rs.map Rl.toU).length=rs.length:=Yc _;have fin2:∀(A3:AHp)(rs':List Rl),Kx l A A3->(∀r∈rs',WOk ns r)->ZcV rs'<=ZcV rs+1->rs'≠[]->Fg Q .non (updA A3 l (.lst (rs'.map Rl.toU))):=fun A3 rs' e h1 h2 h3=>fgx e.put (q rs' h1 h2 h3);have fin:∀(r:Rl),WOk ns r->r.size<=1->Fg Q .non (updA A l (.lst (rs.map Rl.toU++[r.toU]))):=fun r h1 h2=>by
  have:=fin2 A (rs++[r]) (Kx.of (Ext.refl A)) (fun x hx=>(Yz.mp hx).elim (hrs x) fun hx=>by rw[Yp.mp hx];exact h1) (by rw[ZcL,ZcO];lia) (by simp);rw[Yt]at this;exact this
 have hbd:WOk ns (.bead cc):=⟨hcc,fun z hz=>nomatch hz⟩;by_cases h2:k=2
 .refine Zbu (fun B hB=>?_) ?_
  .walk_at "d";rw[YC h2];exact hB
  walk_at "d";exact⟨⟨_,hl⟩,Zky,_,hl,Z2 (by lia),fin .nothing ⟨rfl,fun z hz=>nomatch hz⟩ (by decide)⟩
 refine Zbc (fun B hB=>?_) ?_
 .walk_at "d";rw[Yw h2];exact hB
 by_cases h3:k=3\/k=4
 .refine Zbu (fun B hB=>?_) ?_
  .walk_at "d";rcases h3 with h3|h3
   .exact ZX (YC h3) hB
   .refine ZA (Yw (by lia)) ?_;rw[YC h3];exact hB
  obtain⟨z,hz,hp,hat⟩:=Zjf (t:=t) hne;walk_at "d";refine⟨⟨_,hl⟩,_,hnl,?_⟩;rw[Yc];exact⟨hp,_,_,hnl,hat,Zcw,_,hl,Z2 (by lia),fin (.named z) ⟨hnw z hz,fun y hy=>by rw[Yp.mp hy];exact hz⟩ (Yj 1)⟩
 refine Zbc (fun B hB=>?_) ?_
 .walk_at "d";refine ZA (Yw (by lia)) ?_;rw[Yw (by lia)];exact hB
 by_cases h5:(k=5\/k=6\/k=7)/\1<rs.length
 .refine Zbu (fun B hB=>?_) ?_
  .walk_at "d";refine⟨tr3,rfl,rfl,?_⟩;rw[Zr6];refine ZX (YC h5.1) ⟨_,hl,?_⟩;rw[hlm,YC (by lia)];exact hB
  obtain⟨rs0,x,y,rfl⟩:=Zrq h5.2;obtain⟨zz,f,hz,hf,hR⟩:=Zqp h5.1;rw[Yt]at hl;walk_at "d";refine⟨⟨_,hl⟩,_,_,hl,⟨_,Zc⟩,tr3,fun p hp=>⟨_,_,Zc,hz,?_⟩⟩;have hpl:p≠l:=fun e=>by rw[e,Zc]at hp;cases hp
  have h3:updA (updA A l (.lst ((rs0++[x]).map Rl.toU))) p (.lst [.str "or",.str "by",.str "by"]) l=some (.lst (rs0.map Rl.toU++[x.toU])):=by rw[Zn (Ne.symm hpl),Zc,Yt];rfl
  refine⟨⟨_,h3⟩,_,_,h3,tr3,_,Zc,Z2 (by rw[Yc];simp only[Ys,List.length_cons,List.length_nil]at hrl;lia),?_⟩;rw[ZK,(hf x y).1];rw[show rs0.map Rl.toU++[(f x y).toU]=(rs0++[f x y]).map Rl.toU from by rw[Yt];rfl];refine fin2 _ _ ((Kx.of (Ext.refl A)).upd.new hp) (fun r hr=>?_) ?_ (by simp)
  .rcases Yz.mp hr with hr|hr
   .exact hrs r (by simp[hr])
   .rw[Yp.mp hr];exact hR _ x y (hrs x (by simp)) (hrs y (by simp))
  .simp only[ZcL,ZcO,(hf x y).2];lia
 refine Zbc (fun B hB=>?_) ?_
 .walk_at "d";refine⟨tr3,rfl,rfl,?_⟩;rw[Zr6];refine ZhL (fun h=>⟨_,hl,?_⟩) fun _=>hB;rw[hlm,Yw fun h'=>h5 ⟨Yak h,by lia⟩];exact hB
 by_cases h6:(7<k/\k<12)/\0<rs.length
 .refine Zbu (fun B hB=>?_) ?_
  .walk_at "d";refine ZX (YC h6.1.1) (ZX (YC h6.1.2) ⟨_,hl,?_⟩);rw[hlm,YC (by lia)];exact hB
  obtain⟨rs0,x,rfl⟩:=ZuM h6.2;obtain⟨j,hj⟩:=ZqL (k:=k-8) (by lia) (by lia);have hx:=hrs x (by simp);rw[Yt]at hl;walk_at "d";refine⟨⟨_,hl⟩,Zbk,fun p hp=>⟨_,_,Zc,hj,?_⟩⟩;have hpl:p≠l:=fun e=>by rw[e,hl]at hp;cases hp
  have hl':=Ext.new hp (o:=.lst [.str "row",.str "bag",.str "choice",.str "ring"]) _ _ hl;refine⟨⟨_,hl'⟩,_,_,hl',Zcw,_,Zc,Z2 (by rw[Yc];simp only[Ys,List.length_cons,List.length_nil]at hrl;lia),?_⟩;rw[ZK,show rs0.map Rl.toU++[U.tup [.str (ZaA j),x.toU]]=(rs0++[Rl.hold j x]).map Rl.toU from by rw[Yt];rfl];refine fin2 _ _ ((Kx.of (Ext.refl A)).new hp) (fun r hr=>?_) ?_ (by simp)
  .rcases Yz.mp hr with hr|hr
   .exact hrs r (by simp[hr])
   .rw[Yp.mp hr];exact hx
  .simp only[ZcL,ZcO,Rl.size];lia
 refine Zbc (fun B hB=>?_) ?_
 .walk_at "d";refine ZhL (fun g1=>ZhL (fun g2=>⟨_,hl,?_⟩) fun _=>hB) fun _=>hB;rw[hlm,Yw fun h'=>h6 ⟨⟨Yak g1,Yak g2⟩,by lia⟩];exact hB
 walk_at "d";exact⟨⟨_,hl⟩,_,hl,Z2 (by lia),fin (.bead cc) hbd (Yj 1)⟩
end
def ZmY(e:Ext A B)(h:B x=some o):Ext (updA A x o) B:=fun y u q=>by
 by_cases n:y=x
 .rw[n,Zc]at q;rw[n,h];exact q
 .rw[Zn n]at q;exact e y u q
def Zkt:ASp:=fun us A Q=>∃(cl nl:Addr)(cs:List Int)(ns:List Str),us=[.ref cl,.ref nl]/\A cl=some (.lst (cs.map U.int))/\cs.length<=10/\A nl=some (.lst (ns.map U.str))/\ns≠[]/\(∀z∈ns,wdB z=true) /\
 ∀r,WOk ns r->r.size<=60->Q r.toU A
section
include T
def Znm:T.F_jf.Ok CX0 5 (Zar K Zkt):=by
 have G_j1:=ZrG T;apply T.F_jf.okA;walk_at "f";exact fun S hr=>⟨_,(Ze (ZC (i:=2) S.nd rfl (Or.inl rfl) (Z0 Zg))
   (Ze (Zae YA rfl (Zab (pv 0)) (Zq (i:=3) S.nd rfl (Or.inl rfl))
   (Zh (ZU (T.F_j1.pc G_j1 hr (Zb (pv 2) (Zb (Z3 ZbS (pv 3) (Z3 Zm8 Zl Zl)) (Zb (pv 1) Zg)))))))
   (Ze (ZQ (Zp (ZaV hr) (Zac ZcD T.n_len (Zb (pv 2) Zg)) Zl (ZE _)) (Zh (ZU (ZbK Yy YR YS Zaa (pv 2) (Zb (ZW (Zb ZF Zg)) Zg)))) Zz)
   (Ze (Zcb YA (Zp Zpk (Zac ZcD T.n_len (Zb (pv 2) Zg)) Zl (ZE _)) (Ze (ZC (i:=4) S.nd rfl (Or.inl rfl) (Zdz Yy YaA YaB ZdM (pv 2)))
   (Zh (ZU (ZbK Yy YR YS Zaa (pv 2) (Zb (ZW (Zb (ZI ZaI (Z0 (Zb ZF (Zb ZF Zg))) (Z3 ZbS (Zac ZcD T.n_len (Zb (pv 2) Zg)) Zl) (fun _ _=>rfl)) (Zb (Zdz Yy YaA YaB ZdM (pv 2)) (Zb (pv 4) Zg)))) Zg))))))
   (Zh (Zt (ZI ZaI (pv 2) Zl (fun _ _=>rfl)))))))),(Zj (Zu (ZZ Zf) Zi)
   (Zj (Zag (ZO ZR Za) Zi
   (Z1 (Zw (Zd Za (Zd (Zk Za1 Za (Zk Zh5 Zm Zm)) (Zd Za Zf))))))
   (Zj (ZT (Zo (Zk ZaN (ZY Zbq (Zd Za Zf)) Zm)) (Z1 (ZbJ ZP ZaR Za (Zd (ZV (Zd ZL Zf)) Zf))) Zy)
   (Zj (ZbZ (Zo (Zk Zjr (ZY Zbq (Zd Za Zf)) Zm)) (Zj (Zu (ZdG ZP Zci Za) Zi)
   (Z1 (ZbJ ZP ZaR Za (Zd (ZV (Zd (Zk ZM (ZZ (Zd ZL (Zd ZL Zf))) (Zk Za1 (ZY Zbq (Zd Za Zf)) Zm)) (Zd (ZdG ZP Zci Za) (Zd Za Zf)))) Zf)))))
   (Zs (Zk ZM Za Zm))))))⟩
 rintro us A Q ⟨cl,nl,cs,ns,rfl,hcl,hcs,hnl,hne,hnw,q⟩;walk_at "o";refine⟨by decide,fun l hl=>⟨⟨_,Ext.new hl _ _ hcl⟩,?_⟩⟩;refine ZaY (cs.map U.int) (fun k ρ A2=>∃(rs:List Rl)(x5 x6:Option U),ρ=[some (.ref cl),some (.ref nl),some (.ref l),x5,x6]/\A2=updA A l (.lst (rs.map Rl.toU))/\(∀r∈rs,WOk ns r)/\ZcV rs<=k) ⟨[],_,_,rfl,rfl,fun r h=>(nomatch h),Y2 _⟩ (fun k ρ A2 _ hq0=>by obtain⟨rs,_,_,_,e,_⟩:=hq0;rw[e,Zn (neA hcl hl)];exact hcl) ?_ ?_
 .rintro k u ρ A2 hu ⟨rs,x5,x6,rfl,rfl,hrs,htot⟩;obtain⟨c,hc,rfl⟩:=Z7 hu;have hk:=(Yh.mp hc).1;walk_at "d";refine⟨⟨by decide,by decide,by decide⟩,by decide,l,nl,_,rs,ns,rfl,Zc,Ext.new hl _ _ hnl,hne,hnw,hrs,by lia,fun rs' h1 h2 _=>⟨rs',_,_,rfl,by rw[ZK],h1,by lia⟩⟩
 rintro ρ A2 ⟨rs,x5,x6,rfl,rfl,hrs,htot⟩;rw[Yc]at htot;walk_at "d";obtain⟨rs1,h1,h2,h3,h4⟩:∃rs1:List Rl,rs1≠[]/\(∀r∈rs1,WOk ns r)/\ZcV rs1<=30/\rs1=if rs=[]then[.nothing]else rs:=by
  by_cases h:rs=[]
  .exact⟨[.nothing],by simp,fun r hr=>by rw[Yp.mp hr];exact⟨rfl,fun z hz=>nomatch hz⟩,by simp[ZcV,Rl.size],by rw[if_pos h]⟩
  .exact⟨rs,h,hrs,by lia,by rw[if_neg h]⟩
 refine ZtT (decide (rs=[])) (A':=updA A l (.lst (rs1.map Rl.toU))) (fun B hB=>?_) (fun h=>?_) (fun h=>?_) ?_
 .walk_at "d";refine⟨_,Zc,?_⟩;rw[Yc,show decide ((rs.length:Int)=0)=decide (rs=[])from decide_eq_decide.mpr (by rw[<- YaI];lia)];exact hB
 .rw[if_pos (Yak h)]at h4;subst h4;intro N hN;walk_at "d";refine⟨⟨_,Zc⟩,Zky,_,Zc,?_⟩;rw[Yak h];exact⟨Z2 (Y2 _),by rw[ZK];exact hN⟩
 .rw[if_neg (of_decide_eq_false h)]at h4;subst h4;intro N hN;exact hN
 clear htot hrs h4;walk_at "d";have hlen:=Zd9 rs1;refine⟨fun m ρ A2=>∃(rs:List Rl)(x5 x6:Option U),m=rs.length/\ρ=[some (.ref cl),some (.ref nl),some (.ref l),x5,x6]/\Kx l A A2/\A2 l=some (.lst (rs.map Rl.toU))/\rs≠[]/\(∀r∈rs,WOk ns r)/\ZcV rs+rs.length<=60,⟨_,rs1,_,_,rfl,rfl,(Kx.of (Ext.refl A)).upd,Zc,h1,h2,by lia⟩,?_⟩;rintro m ρ A2 ⟨rs,x5,x6,rfl,rfl,e2,hl2,hn,hrs,htot⟩;walk_at "d";refine⟨_,hl2,?_⟩;rw[Yc];refine ZhL (fun hlt=>?_) fun hlt=>?_
 .have hlt:=Yak hlt;obtain⟨rs0,x,y,rfl⟩:=Zrq (ws:=rs) (by lia);rw[Yt]at hl2;refine⟨_,fun ρ' A' h=>h,?_⟩;walk_at "d";refine⟨⟨_,hl2⟩,_,_,hl2,⟨_,Zc⟩,Zcw,fun p hp=>?_⟩;have hpl:p≠l:=fun e=>by rw[e,Zc]at hp;cases hp
  have h3:updA (updA A2 l (.lst ((rs0++[x]).map Rl.toU))) p (.lst [.str "or",.str "by"]) l=some (.lst (rs0.map Rl.toU++[x.toU])):=by rw[Zn (Ne.symm hpl),Zc,Yt];rfl
  have hk:(((rs0.map Rl.toU++[x.toU]).length:Nat):Int) % 2=0\/(((rs0.map Rl.toU++[x.toU]).length:Nat):Int) % 2=1:=by lia
  obtain⟨zz,f,hz,hf,hR⟩:=ZoV hk;refine⟨_,h3,by decide,_,_,Zc,hz,⟨_,h3⟩,_,_,h3,tr3,_,Zc,Z2 (by rw[Yc];simp only[Ys,List.length_cons,List.length_nil]at htot;lia),?_⟩;rw[ZK,(hf x y).1,show rs0.map Rl.toU++[(f x y).toU]=(rs0++[f x y]).map Rl.toU from by rw[Yt];rfl];refine⟨_,?_,rs0++[f x y],_,_,rfl,rfl,(e2.upd.new hp).upd,Zc,by simp,fun r hr=>?_,?_⟩
  .simp only[Ys,List.length_cons,List.length_nil];lia
  .rcases Yz.mp hr with hr|hr
   .exact hrs r (by simp[hr])
   .rw[Yp.mp hr];exact hR _ x y (hrs x (by simp)) (hrs y (by simp))
  .simp only[ZcL,ZcO,(hf x y).2,Ys,List.length_cons,List.length_nil]at htot ⊢;lia
 .have hlt:=of_decide_eq_false hlt;cases rs with
  | nil=>exact absurd rfl hn
  | cons r rs =>
   walk_at "d";refine⟨_,_,hl2,Zai (j:=0) rfl,fgx (fun y u h=>e2 y u (neA h hl) h) (q r (hrs r (.head _)) ?_)⟩;have:=ZgD (r:=r) (rs:=r::rs) (.head _);lia
end
def ZuC:∀ts:List Str,(Txt.join "" ts).cps.toList=(ts.map fun t=>t.cps.toList).flatten:=by
 have e0:(("":Str)).cps.toList=[]:=by decide +kernel
 have go:∀(x:Str)(ts:List Str),(Str.join "" (x::ts)).cps.toList=((x::ts).map fun t=>t.cps.toList).flatten:=fun x ts=>by
  induction ts generalizing x with
  | nil=>show x.cps.toList=_;simp
  | cons y ts ih =>
   show(x++""++Str.join "" (y::ts)).cps.toList=_;rw[Str.cps_append,Str.cps_append,Yb5,Yb5,e0,ih y];simp
 intro ts;unfold Txt.join;rw[StrLaws.glued_eq_join];cases ts with
 | nil=>exact e0
 | cons x ts=>exact go x ts
def Zk9:List Nat:=(Str.ofString "ckmpsuvxzdhjqt").cps.toList
def ofC(cs:List Nat):Str:=⟨cs.toArray⟩
def Zk3(cs:List Nat):Txt.join "" (cs.map fun c=>ofC [c])=ofC cs:=by
 apply Str.ext';rw[<- YbF,ZuC,Yai];show(cs.map fun c=>[c]).flatten=cs;induction cs with
 | nil=>rfl
 | cons c cs ih=>rw[Yq,List.flatten_cons,ih];rfl
def Zqb(h:∀c∈cs,c∈Zk9)(h1:1<=cs.length)(h8:cs.length<=8):wdB (ofC cs)=true:=by
 have k1:∀c∈Zk9,c∈Zeq.cps.toList:=by decide +kernel
 have k2:∀t∈keptsL,∃c∈t.cps.toList,c∉Zk9:=by decide +kernel
 have hl:(ofC cs).length=cs.length:=rfl;unfold wdB;rw[YU,YU,YU,YaW];refine⟨⟨fun c hc=>YC (k1 c (h c hc)),YC (by lia),YC (by lia)⟩,?_⟩;simp only[Bool.not_eq_true',List.contains_eq_mem,YaZ];intro hm;obtain⟨c,hc,hn⟩:=k2 _ hm;exact hn (h c hc)
def Zov(h:∀t∈ts,t.length<=1)(hl:ts.length<=1000):JoinOk "" ts=true:=by
 unfold JoinOk;have h3:(("":Str)).length=0:=by decide +kernel
 rw[StrLaws.joinFits h (by rw[h3];lia)];rfl
def Znl(pre post:List Nat)(s:Nat):Str:=ofC (pre++s::post)
def ZhW(h:Znl pre post s=Znl pre post t):s=t:=by
 have:=congrArg (fun z:Str=>z.cps.toList) h;have:=List.append_cancel_left (show pre++s::post=pre++t::post from this);injection this
def Zk0(xs:List α)(k:Nat)(h:k<=xs.length):cutL xs (some (k:Int)) none=xs.drop k:=by
 unfold cutL;rw[show HT.sIx xs.length 0 (some (k:Int))=min k xs.length from HT.sIx_nat xs.length 0 k,show HT.sIx xs.length xs.length none=xs.length from rfl,YaO h];exact Yaa (by rw[YaK];lia)
theorem ZgI{α:Type}:∀ {l:List α},(∀(i j:Nat) x,l[i]? = some x->l[j]? = some x->i=j)->l.Nodup
 | [],_=>List.nodup_nil
 | a :: l,h=>Yae.mpr ⟨fun hm=>by
   obtain⟨i,hi⟩:=List.getElem?_of_mem hm
   have:=h 0 (i+1) a rfl hi
   lia,ZgI fun i j x h1 h2=>by
   have:=h (i+1) (j+1) x h1 h2
   lia⟩
def ZiN:ASp:=fun us A Q=>∃(c:Int)(m:Nat),us=[.int c,.int m]/\0<=c/\m<=14/\∀l ws,A l=none->ws.length=m->ws.Nodup->(∀z∈ws,wdB z=true)->Q (.ref l) (updA A l (.lst (List.map U.str ws)))
section
include T
def Zkj:T.F_jc.Ok CX0 2 (Zar K ZiN):=by
 apply T.F_jc.okA;walk_at "f";exact fun S hr=>⟨_,(Ze (ZC (i:=2) S.nd rfl (Or.inr rfl) ZF)
   (Ze (Zek (i:=3) S.nd rfl (Or.inl rfl) (by with_unfolding_all rfl) (ts:=["_law_k"]) (frs':=[("_law_letters",2),("_law_cell_here",0)]) (cl:=_) rfl ⟨(by rfl),rfl,(by decide +kernel),(by decide +kernel),(ZB (by rfl) (ZB (by rfl) ZJ)),(Zal (by rfl) (by rfl)),(ZB ⟨(by rfl),(by first|exact .inl rfl|exact .inr rfl),(by first|exact .inl rfl|exact .inr rfl),(by rfl)⟩ (ZB ⟨(by rfl),(by first|exact .inl rfl|exact .inr rfl),(by first|exact .inl rfl|exact .inr rfl),(by rfl)⟩ ZJ))⟩ (Zbe rfl T.n_range (Zb (Z3 ZbS (pv 0) Zl) Zg)) (fun _ _ _ _=>Zq (i:=0) (show List.Nodup (["_law_k","_law_letters","_law_cell_here"]:List Str)from by decide +kernel) rfl (Or.inl rfl) (.inr rfl)) (fun _ _ _ _=>Zak) (fun _ _ _ _=>by exact(ZI (Zo8 K rfl) (pv 1) (Z3 ZbS (Z3 (ZqA K rfl) (Z3 Zgx (pv 2) Zl) (Z3 Zf3 (pv 0) (pv 0))) Zl) (fun _ _=>rfl))))
   (Ze (ZC (i:=4) S.nd rfl (Or.inl rfl) (Z3 ZbS (Z3 Zgx (pv 0) Zl) (Z3 Zbf (Zac ZcD T.n_len (Zb (pv 3) Zg)) Zl)))
   (Ze (ZC (i:=5) S.nd rfl (Or.inl rfl) (Z0 Zg))
   (Ze (Zae YA rfl (Zbe rfl T.n_range (Zb (pv 1) Zg)) (Zq (i:=6) S.nd rfl (Or.inl rfl))
   (Ze (ZC (i:=7) S.nd rfl (Or.inl rfl) (ZI ZaI (pv 2) (Z3 ZbS (Z3 Zbf (pv 6) (Z3 Zgx (pv 0) Zl)) Zl) (fun _ _=>rfl)))
   (Zh (ZU (ZbK Yy YR YS Zaa (pv 5) (Zb (ZbK PySem.F.plainAttrs_str PySem.F.slot_str_join PySem.F.type_str_join Zn2 ZF (Zb (Z3 Zbf (Z3 Zbf (ZbC Zhj (pv 3) ZcS (ZbQ (pv 4))) (Z0 (Zb (pv 7) Zg))) (ZbC Zhj (pv 3) (ZbQ (pv 4)) ZcS)) Zg)) Zg))))))
   (Zh (Zt (pv 5)))))))),(Zj (Zu ZL Zi)
   (Zj (Zu (Zaz (ZbI (Zd (Zk Za1 Za Zm) Zf)) Zi ZaB (Zk ZM Za (Zk Za1 (Zk Zbj (Zk ZgH Za Zm) (Zk Zgb Za Za)) Zm))) Zi)
   (Zj (Zu (Zk Za1 (Zk ZgH Za Zm) (Zk Zbj (ZY Zbq (Zd Za Zf)) Zm)) Zi)
   (Zj (Zu (ZZ Zf) Zi)
   (Zj (Zag (ZbI (Zd Za Zf)) Zi
   (Zj (Zu (Zk ZM Za (Zk Za1 (Zk Zbj Za (Zk ZgH Za Zm)) Zm)) Zi)
   (Z1 (ZbJ ZP ZaR Za (Zd (ZbJ Zkq Zkg ZL (Zd (Zk Zbj (Zk Zbj (ZhE ZdE Za Zbx (ZbV Za)) (ZZ (Zd Za Zf))) (ZhE ZdE Za (ZbV Za) Zbx)) Zf)) Zf)))))
   (Zs Za))))))⟩
 rintro us A Q ⟨c,m,rfl,hc,hm,q⟩;walk_at "o";have h8:0<=c % 8/\c % 8<8:=⟨Yax _ (by decide),Yau _ (by decide)⟩;have l14:Zk9.length=14:=by decide +kernel
 have nd14:Zk9.Nodup:=by decide +kernel
 refine⟨by decide,by lia,by lia,fun l1 hl1=>?_⟩;walk_at "c";have at14:∀t:Int,∃v,atI (Str.ofString "ckmpsuvxzdhjqt").cps.toList (t % 14)=some v/\Zk9[(t % 14).toNat]? = some v:=fun t=>Zmv (Yax _ (by decide)) (by rw[show(Str.ofString "ckmpsuvxzdhjqt").cps.toList.length=14 from l14];exact Yau _ (by decide));refine Zig (Zib 0 (c % 8).toNat) (fun _ v _=>∃s∈Zk9,v=.str (ofC [s])) (fun τ=>∃x,τ=[x,some (.str "ckmpsuvxzdhjqt"),some (.int c)]) ⟨_,rfl⟩ hl1 (by rw[rngU_len];lia) (fun j A3 _ _=>rfl) (fun j v A1 B _ _ h=>h) ?_ ?_
 .rintro k u τ A3 hu ⟨x,rfl⟩ e3 Cy hC;rw[Zec]at hu;split at hu
  .rename_i hk;cases hu;obtain⟨v,h1,h2⟩:=at14 (c / 8+(0+(k:Int))*(0+(k:Int)));walk_at "d";refine⟨⟨by decide,by decide⟩,ZbY (.inl ⟨by lia,by lia⟩),by decide,by decide +kernel,v,h1,hC _ _ A3 ⟨_,rfl⟩ (Ext.refl _) ⟨v,Yk h2,rfl⟩⟩
  .cases hu
 intro B ys eB hBl hyl hys;rw[rngU_len]at hyl;obtain⟨cs,hcs,rfl⟩:∃cs:List Nat,(∀c∈cs,c∈Zk9)/\ys=(cs.map fun c=>ofC [c]).map U.str:=by
  clear hyl;induction ys with
  | nil=>exact⟨[],(fun c h=>by cases h),rfl⟩
  | cons y ys ih =>
   obtain⟨s,hs,rfl⟩:=hys 0 y rfl;obtain⟨cs,h1,rfl⟩:=ih fun k y hy=>hys (k+1) y hy;exact⟨s::cs,fun c hc=>(Yn.mp hc).elim (fun e=>e▸hs) (h1 c),rfl⟩
 rw[Yc,Yc]at hyl;have e1:Ext A (updA B l1 (.lst ((cs.map fun c=>ofC [c]).map U.str))):=eB.trans (Ext.new hBl);have h1:updA B l1 (.lst ((cs.map fun c=>ofC [c]).map U.str)) l1=some (.lst ((cs.map fun c=>ofC [c]).map U.str)):=Zc;generalize updA B l1 (.lst ((cs.map fun c=>ofC [c]).map U.str))=B1 at e1 h1 ⊢;refine⟨⟨by decide,by decide⟩,?_⟩;walk_at "d";refine⟨_,h1,?_⟩;rw[Yc,Yc];walk_at "d";have hpos:(0:Int)<(cs.length:Int)+1:=by lia
 have ha0:=Yax (c / 112) (show(cs.length:Int)+1≠0 by lia);have ha1:=Yau (c / 112) hpos;obtain⟨a,ha⟩:=YaH ha0;rw[ha]at ha1 ⊢;refine⟨hpos,by decide,fun l hl=>⟨by lia,by lia,?_⟩⟩;have hlA:A l=none:=Za2 e1 hl;refine Zdh (n:=m) (fun k ρ A2=>∃(ss:List Nat)(x6 x7:Option U),ρ=[some (.int c),some (.int m),some (.str "ckmpsuvxzdhjqt"),some (.ref l1),some (.int a),some (.ref l),x6,x7]/\Ext A A2/\A2 l1=some (.lst ((cs.map fun c=>ofC [c]).map U.str))/\A2 l=some (.lst ((ss.map (Znl (cs.take a) (cs.drop a))).map U.str))/\ss.length=k/\∀(j:Nat) s,ss[j]? = some s->Zk9[(((j:Int)+c / 896) % 14).toNat]? = some s) ⟨[],_,_,rfl,e1.trans (Ext.new hl),Ext.new hl _ _ h1,Zc,rfl,fun j s h=>by simp at h⟩ ?_ ?_
 .rintro k ρ A2 hk ⟨ss,x6,x7,rfl,e2,h2,h3,hsl,hss⟩;obtain⟨v,h4,h5⟩:=at14 (0+(k:Int)+c / 896);walk_at "d";refine⟨⟨by decide,by decide⟩,by decide,by decide +kernel,v,h4,⟨⟨_,h3⟩,trivial,_,h2,?_⟩⟩;rw[Zb8,Zgn,<- Ya9];refine fun p hp=>⟨Zky,fun p1 hp1=>⟨_,_,Ext.new hp1 _ _ Zc,Zc,Zem (by simp;lia),fun p2 hp2=>?_⟩⟩;rw[show((cs.take a).map fun c=>ofC [c]).map U.str++[U.str ⟨#[v]⟩]=((cs.take a++[v]).map fun c=>ofC [c]).map U.str from by rw[Yt,Yt];rfl];have e3:=((Ext.new hp (o:=.lst (((cs.take a).map fun c=>ofC [c]).map U.str))).trans (Ext.new hp1 (o:=.lst [.str ⟨#[v]⟩]))).trans (Ext.new hp2 (o:=.lst (((cs.take a++[v]).map fun c=>ofC [c]).map U.str)));have h6:updA (updA (updA A2 p (.lst (((cs.take a).map fun c=>ofC [c]).map U.str))) p1 (.lst [.str ⟨#[v]⟩])) p2 (.lst (((cs.take a++[v]).map fun c=>ofC [c]).map U.str)) p2=some (.lst (((cs.take a++[v]).map fun c=>ofC [c]).map U.str)):=Zc;generalize updA (updA (updA A2 p (.lst (((cs.take a).map fun c=>ofC [c]).map U.str))) p1 (.lst [.str ⟨#[v]⟩])) p2 (.lst (((cs.take a++[v]).map fun c=>ofC [c]).map U.str))=A3 at e3 h6 ⊢;refine⟨_,e3 _ _ h2,?_⟩;rw[Zb8,Zk0 _ a (by rw[Yc];lia),<- List.map_drop];refine fun p3 hp3=>⟨_,_,Ext.new hp3 _ _ h6,Zc,Zem (by simp;lia),fun p4 hp4=>?_⟩;rw[<- Yt,<- Yt,Ya1];walk_at "d";refine⟨_,Zc,Zov (fun t ht=>?_) (by simp;lia),_,Ext.new hp4 _ _ (Ext.new hp3 _ _ (e3 _ _ h3)),Z2 (by simp;lia),ss++[v],_,_,rfl,?_,?_,?_,by simp[hsl],fun j s hj=>?_⟩
  .obtain⟨c,_,rfl⟩:=YQ.mp ht;exact Yj 1
  .exact ZaM (((e2.trans e3).trans (Ext.new hp3)).trans (Ext.new hp4)) hlA
  .rw[Zn (neA h1 hl)];exact Ext.new hp4 _ _ (Ext.new hp3 _ _ (e3 _ _ h2))
  .rw[Zc,Zk3,Yt,Yt];rfl
  .by_cases hjl:j<ss.length
   .rw[Y6 hjl]at hj;exact hss j s hj
   .rw[YW (by lia)]at hj;have hj1:=(Yh.mp hj).1;simp only[List.length_cons,List.length_nil]at hj1;obtain rfl:j=ss.length:=by lia
    rw[Ybg]at hj;cases hj;rw[hsl];rw[Int.zero_add]at h5;exact h5
 rintro ρ A2 ⟨ss,x6,x7,rfl,e2,h2,h3,hsl,hss⟩;walk_at "d";refine fgx (ZmY e2 h3) (q l _ hlA (by rw[Yc,hsl]) ?_ fun z hz=>?_)
 .refine ZgI fun i j x h1 h2=>?_;rw[Yi]at h1 h2;obtain⟨s,g1,rfl⟩:=YK.mp h1;obtain⟨t,g2,e⟩:=YK.mp h2;obtain rfl:=ZhW e;have hi:=(Yh.mp g1).1;have hj:=(Yh.mp g2).1;have f1:=Yh.mp (hss i t g1);have f2:=Yh.mp (hss j t g2);have:=(List.getElem_inj nd14).mp (f1.2.trans f2.2.symm);lia
 .obtain⟨s,hs,rfl⟩:=YQ.mp hz;obtain⟨j,hj⟩:=List.getElem?_of_mem hs;have hsm:=Yk (hss j s hj);refine Zqb (fun c hc=>?_) (by simp;lia) (by simp;lia);rcases Yz.mp hc with hc|hc
  .exact hcs c (List.mem_of_mem_take hc)
  .rcases Yn.mp hc with rfl|hc
   .exact hsm
   .exact hcs c (List.mem_of_mem_drop hc)
end
def ZkK:ASp:=fun us A Q=>∃ns:List Int,us=[.rol (ns.map U.int)]/\ns.length<=63/\∀l ms,A l=none->ms.length<=63->Q (.ref l) (updA A l (.lst (List.map U.int ms)))
def ZiH:ASp:=fun us A Q=>∃(l:Addr)(ns:List Int)(k:Int),us=[.ref l,.int k]/\A l=some (.lst (ns.map U.int))/\0<=k/\∀z,Q (.int z) A
section
include T
def ZlG:T.F_je.Ok CX0 1 (Zar K ZiH):=by
 apply T.F_je.okA
 walk_at "f"
 exact fun S hr=>⟨_,(Ze (ZQ (Zp Zvr (pv 1) (Zac ZcD T.n_len (Zb (pv 0) Zg)) (ZE _)) (Zh (Zt (ZI ZaI (pv 0) (pv 1) (fun _ _=>rfl)))) Zz)
   (Zh (Zt Zl))),(Zj (Zas (Zo (Zk Zqe Za (ZY Zbq (Zd Za Zf)))) (Zs (Zk ZM Za Za)) Zy)
   (Zs Zm))⟩
 rintro us A Q ⟨l,ns,k,rfl,hl,hk,q⟩
 walk_at "o"
 refine⟨_,hl,?_⟩
 rw[Yc]
 refine ZhL (fun h=>?_) fun _=>fg (q 0)
 have h':k<ns.length:=by simpa using h
 obtain⟨z,h1,_⟩:=ZeS hk h'
 exact⟨_,_,hl,h1,fg (q z)⟩
def ZnL:T.F_jg.Ok CX0 1 (Zar K ZkK):=by
 apply T.F_jg.okA;walk_at "f";exact fun S hr=>⟨_,(Ze (ZC (i:=1) S.nd rfl (Or.inl rfl) (Z0 Zg))
   (Ze (Zae YA rfl (Zkf (by rfl) T.n_enumerate (Zb (pv 0) Zg)) (ZbL (n:=2) rfl (ZG (Zq (i:=2) S.nd rfl (Or.inl rfl)) (ZG (Zq (i:=3) S.nd rfl (Or.inl rfl)) Zax)))
   (Zh (ZU (ZbK Yy YR YS Zaa (pv 1) (Zb (Z3 ZbS (Z3 Zf3 (Z3 ZbS (Z3 Zbf (Z3 Zf3 (Z3 ZbS (pv 3) (Z3 Zm8 Zl Zl)) Zl) (Z3 Zf3 Zl (pv 2))) Zl) Zl) Zl) Zg)))))
   (Zh (Zt (pv 1))))),(Zj (Zu (ZZ Zf) Zi)
   (Zj (Zag (Zet Zh8 (Zd Za Zf)) (Zaw (ZH Zi (ZH Zi Zay)))
   (Z1 (ZbJ ZP ZaR Za (Zd (Zk Za1 (Zk Zgb (Zk Za1 (Zk Zbj (Zk Zgb (Zk Za1 Za (Zk Zh5 Zm Zm)) Zm) (Zk Zgb Zm Za)) Zm) Zm) Zm) Zf))))
   (Zs Za)))⟩
 rintro us A Q ⟨ns,rfl,hn,q⟩;walk_at "o";refine⟨by decide,fun p hp=>Zil (us:=enU (ns.map U.int)) (fun k ρ A2=>∃(ms:List Int)(x2 x3:Option U),ρ=[some (.rol (ns.map U.int)),some (.ref p),x2,x3]/\A2=updA A p (.lst (ms.map U.int))/\ms.length=k) ⟨[],_,_,rfl,rfl,rfl⟩ ?_ ?_⟩
 .rintro k u ρ A2 hu ⟨ms,x2,x3,rfl,rfl,hm⟩;rw[Zfy,Yi]at hu;cases hk:ns[k]? with
  | none=>rw[hk]at hu;cases hu
  | some z =>
   rw[hk]at hu;cases hu;have hkl:=(Yh.mp hk).1;walk_at "d";refine⟨rfl,⟨_,Zc⟩,⟨by decide,by decide,by decide⟩,by decide,ZbY (.inr ⟨by decide,by decide⟩),ZbY (.inl ⟨by decide,by decide⟩),by decide,ZbY (.inr ⟨by decide,by decide⟩),by decide,_,Zc,Z2 (by rw[Yc];lia),ms++[_],_,_,rfl,by rw[ZK,Yt];rfl,by simp[hm]⟩
 .rintro ρ A2 ⟨ms,x2,x3,rfl,rfl,hm⟩;rw[Zni,Yc]at hm;walk_at "d";exact fg (q p ms hp (by lia))
end
def Zi5(P:Program)(w:World):ASp:=fun us A Q=>∃(l:Addr)(ns:List Str)(rs:List Rl),us=[.ref l]/\A l=some (.lst ((ns.zip rs).map fun p=>.tup [.str p.1,p.2.toU]))/\rs.length=ns.length/\ns.length<=60/\ns.Nodup/\(∀z∈ns,wdB z=true)/\(∀r∈rs,r.size<=60/\r.wd=true/\∀y∈r.nms,y∈ns) /\
 ((∀r∈rs,r.hp (nkV ns rs)=false)->(∃rk:Str->Nat,∀z∈ns,∀y,nkL ns rs z y->rk y<rk z)->∀B lc,Ext A B->Q (.tup [.str "sound",.str "",.ref lc]) B) /\
 (∀(k:Nat) z r,ns[k]? = some z->rs[k]? = some r->r.hp (nkV ns rs)=true->(∀(j:Nat) r',j<k->rs[j]? = some r'->r'.hp (nkV ns rs)=false)->∀B lc,Ext A B->Q (.tup [.str "hollow",.str z,.ref lc]) B) /\
 ((∀r∈rs,r.hp (nkV ns rs)=false)->∀c,Cyc (nkL ns rs) c->(∀z∈c,z∈ns)->∀B lc,Ext A B->B lc=some (.lst (List.map U.str c))->Q (.tup [.str "round",.str "",.ref lc]) B)
def ZmN(h1:A p=some (.lst [.bl a,.bl b,.bl c,.bl d,.bl e]))(h2:A q=some (.lst [.bl a,.bl b,.bl c,.bl d,.bl e]))(h:Q (.bl false) A):Za5 true (.ref p) (.ref q) A Q:=by
 have g:DUs A [.bl a,.bl b,.bl c,.bl d,.bl e] [.bool a,.bool b,.bool c,.bool d,.bool e]:=.cons (.bl a) (.cons (.bl b) (.cons (.bl c) (.cons (.bl d) (.cons (.bl e) .nil))));refine⟨.list [.bool a,.bool b,.bool c,.bool d,.bool e],.list [.bool a,.bool b,.bool c,.bool d,.bool e],.lst h1 g,.lst h2 g,rfl,rfl,by simp[PyData.depth,PyData.depthAll],?_⟩;rw[if_pos rfl,show PyData.eqv (.list [.bool a,.bool b,.bool c,.bool d,.bool e]) (.list [.bool a,.bool b,.bool c,.bool d,.bool e])=true from by cases a<;>cases b<;>cases c<;>cases d<;>cases e<;>decide +kernel];exact h
def Cyc.norank{ns:List Str}{rk:Str->Nat}(h:Cyc le c)(hc:∀z∈c,z∈ns)(hr:∀z∈ns,∀y,le z y->rk y<rk z):False:=by
 have hlen:0<c.length:=List.length_pos_iff.mpr h.ne;have h0:c[0]? = some c[0]:=Yg hlen;have go:∀(j:Nat) a,c[j]? = some a->rk a+j<=rk c[0]:=by
  intro j;induction j with
  | zero=>intro a ha;rw[h0]at ha;cases ha;exact Yj _
  | succ j ih =>
   intro a ha;have hj:=(Yh.mp ha).1;have hb:c[j]? = some c[j]:=Yg (by lia);have i1:=ih _ hb;have i2:=hr _ (hc _ (Yk hb)) _ (h.st j _ _ hb ha);lia
 have hz:c[c.length-1]? = some c[c.length-1]:=Yg (by lia);have i1:=go _ _ hz;have i2:=hr _ (hc _ (Yk hz)) _ (h.la _ _ hz h0);lia
section
include T
def ZeN{N:U->Addr->AHp->Prop}(hl:A l=some (.lst ((ns.zip rs).map fun p=>.tup [.str p.1,p.2.toU])))(hrl:rs.length=ns.length)(hnl:ns.length<=60)(hnd:ns.Nodup)(hnw:∀z∈ns,wdB z=true)(hrs:∀r∈rs,r.size<=60/\r.wd=true/\∀y∈r.nms,y∈ns)(hl1:A l1=none)(q1:(∀r∈rs,r.hp (nkV ns rs)=false)->(∃rk:Str->Nat,∀z∈ns,∀y,nkL ns rs z y->rk y<rk z)->∀B x ps,Ext A B->ps.map (·.1)=ns->ZfH cS B ps rs->Zen P w a_Book B x ps rs->N .non x B)(q2:∀(k:Nat) z r,ns[k]? = some z->rs[k]? = some r->r.hp (nkV ns rs)=true->(∀(j:Nat) r',j<k->rs[j]? = some r'->r'.hp (nkV ns rs)=false)->∀B,Ext A B->X a_Hollow [("name",.str z)] B)(q3:(∀r∈rs,r.hp (nkV ns rs)=false)->∀c,Cyc (nkL ns rs) c->(∀z∈c,z∈ns)->∀B lc,Ext A B->B lc=some (.lst (List.map U.str c))->X a_Round [("circle",.ref lc)] B):
  aCL (Zoh l) (Zto 2 (ZkM (Zdr 0) (ZkM (Zdr 1) Zta))) ZfK (Zul (Zim (ZmQ 0) (Zim (Znb (Zd8 cS 60) (Zim (ZmQ 1) Zsv)) Zsv))) l1 (fun x A1=>∀x_1 dx,A1 x_1=none->ZdQ P w a_Book a_Hollow a_Round cS [.ref x_1,x] (updA A1 x_1 (.ins a_Book dx [])) (fun u A2=>N u x_1 A2) X) [none,none] (updA A l1 (.lst [])):=by
 have hlen:((ns.zip rs).map fun p:Str×Rl=>U.tup [.str p.1,p.2.toU]).length=ns.length:=by rw[Yc,List.length_zip];lia
 refine Zig ((ns.zip rs).map fun p=>.tup [.str p.1,p.2.toU]) (fun k v A1=>∃b z r,ns[k]? = some z/\rs[k]? = some r/\v=.tup [.str z,.ref b]/\RlO cS A1 b r) (fun τ=>∃x y,τ=[x,y]) ⟨_,_,rfl⟩ hl1 (by rw[hlen];lia) (fun k A2 _ e2=>⟨_,e2 _ _ hl,rfl⟩) ?_ ?_ ?_
 .rintro k v A1 B h1 h2 ⟨b,z,r,g1,g2,g3,ho⟩;refine⟨b,z,r,g1,g2,g3,RlO.kp (fun {a C dx fs} h=>h2 _ _ (fun e=>?_) h) ho⟩;rcases h1 with h1|⟨ys,h1⟩
  .rw[e,h1]at h;cases h
  .rw[e,h1]at h;cases h
 .rintro k u τ A2 hu ⟨x,y,rfl⟩ e2 Cy hC;obtain⟨p,hp,rfl⟩:=Z7 hu;obtain⟨hz,hr⟩:=List.getElem?_zip_eq_some.mp hp;have:=(hrs p.2 (Yk hr)).1;have:=Zbm p.2;walk_at "d";exact⟨rfl,p.2,rfl,by lia,fun B b eB ho=>⟨Zcw,hC _ _ B ⟨_,_,rfl⟩ eB ⟨b,p.1,p.2,hz,hr,rfl,ho⟩⟩⟩
 .intro B ys eB hBl hyl hys;rw[hlen]at hyl;obtain⟨ps,rfl,p2,p3⟩:=ZgK hyl hrl hys;intro x dx hx;subst p2;have e6:=eB.trans (Ext.new hBl (o:=.lst (List.map (fun p:Str×Addr=>.tup [.str p.1,.ref p.2]) ps)));have hB:ZfH cS (updA B l1 (.lst (List.map (fun p:Str×Addr=>.tup [.str p.1,.ref p.2]) ps))) ps rs:=⟨p3.ext (Ext.new hBl),hnd,fun r hr=>by
   have h:=hrs r hr;have:=Zbm r;exact⟨by lia,h.1,h.2.2⟩,by rw[Yc]at hnl;exact hnl⟩
  exact⟨x,dx,l1,_,ps,rs,rfl,rfl,hx,Zc,hB,fun z hz=>⟨(Zj2 (hnw z hz)).2.2.1,Zgg (hnw z hz)⟩,fun h1 h2 B2 e2 hb=>q1 h1 h2 B2 x ps (e6.trans e2) rfl (hB.ext e2) hb,fun k z r g1 g2 g3 g4 B2 e2=>q2 k z r g1 g2 g3 g4 B2 (e6.trans e2),fun h1 c hc hcn B2 lc e2 _ hb=>q3 h1 c hc hcn B2 lc (e6.trans e2) hb⟩
def ZlB : T.F_jd.Ok CX0 75 (Zar K (Zi5 P w)):=by
 have G_j8:=Zl0 T 60;have G_qb:=Zfc T;apply T.F_jd.okA;walk_at "f";exact fun S hr=>⟨_,(Ze (ZC (i:=1) S.nd rfl (Or.inr rfl) (ZW (Zb ZF (Zb ZF Zg))))
   (Ze (ZC (i:=2) S.nd rfl (Or.inl rfl) (Z0 Zg))
   (Ze (ZC (i:=3) S.nd rfl (Or.inl rfl) (Z0 Zg))
   (Ze (ZnC (j:=4) ⟨rfl,rfl⟩ S.nd rfl rfl (Zgr (ZfZ T.K_Book G_qb.mn hr (by rfl) T.m_Book T.F_qb.b (Zb (Za3 (ts:=["_law_name","_law_rule"]) (frs':=[]) (cl:=[]) rfl ⟨rfl,rfl,(by decide +kernel),(by decide +kernel),(fun _ z=>nomatch z),(ZaW rfl rfl),(fun _ z=>nomatch z)⟩ (Zab (pv 0)) (fun _ _ _ _=>Zcs K rfl 2 rfl (ZG (Zq (i:=0) (show List.Nodup (["_law_name","_law_rule"]:List Str)from by decide +kernel) rfl (Or.inl rfl) (.inr rfl)) (ZG (Zq (i:=1) (show List.Nodup (["_law_name","_law_rule"]:List Str)from by decide +kernel) rfl (Or.inl rfl) (.inr rfl)) Zax)) (by rfl) (by rfl)) (fun _ _ _ _=>Zak) (fun _ _ _ _=>by exact(ZW (Zb (pv 0) (Zb (T.F_j8.pc G_j8 hr (Zb (pv 1) Zg)) Zg))))) Zg))) (by rfl) T.m_FigureError (fun _=>(Ze (ZC (i:=3) S.nd rfl (Or.inl rfl) (Z0 (Zb (Zac ZiZ T.n_isinstance (Zb (pv 4) (Zb (Zan (v:=.ref _) (by rfl) T.m_Twice rfl) Zg))) (Zb (Zac ZiZ T.n_isinstance (Zb (pv 4) (Zb (Zan (v:=.ref _) (by rfl) T.m_NoClass rfl) Zg))) (Zb (Zac ZiZ T.n_isinstance (Zb (pv 4) (Zb (Zan (v:=.ref _) (by rfl) T.m_Hollow rfl) Zg))) (Zb (Zac ZiZ T.n_isinstance (Zb (pv 4) (Zb (Zan (v:=.ref _) (by rfl) T.m_Round rfl) Zg))) Zg))))))
   (Zh (ZU (ZbK Yy YR YS Zaa (pv 3) (Zb (Zac ZiZ T.n_isinstance (Zb (pv 4) (Zb (Zm1 (T:="ValueError") (by rfl) T.n_ValueError (by decide +kernel)) Zg))) Zg)))))))
   (Ze (ZoJ ⟨rfl,rfl⟩ (Zgr (ZfZ T.K_Book G_qb.mn hr (by rfl) T.m_Book T.F_qb.b (Zb (Za3 (ts:=["_law_name","_law_rule"]) (frs':=[]) (cl:=[]) rfl ⟨rfl,rfl,(by decide +kernel),(by decide +kernel),(fun _ z=>nomatch z),(ZaW rfl rfl),(fun _ z=>nomatch z)⟩ (Zab (pv 0)) (fun _ _ _ _=>Zcs K rfl 2 rfl (ZG (Zq (i:=0) (show List.Nodup (["_law_name","_law_rule"]:List Str)from by decide +kernel) rfl (Or.inl rfl) (.inr rfl)) (ZG (Zq (i:=1) (show List.Nodup (["_law_name","_law_rule"]:List Str)from by decide +kernel) rfl (Or.inl rfl) (.inr rfl)) Zax)) (by rfl) (by rfl)) (fun _ _ _ _=>Zak) (fun _ _ _ _=>by exact(ZW (Zb (pv 0) (Zb (T.F_j8.pc G_j8 hr (Zb (pv 1) Zg)) Zg))))) Zg))) (Zea (j:=4) ⟨rfl,rfl⟩ S.nd rfl rfl (by rfl) T.m_Twice (fun _=>(Zh (ZC (i:=1) S.nd rfl (Or.inr rfl) (ZW (Zb ZF (Zb (Zef (pv 4) rfl) Zg)))))) (Zea (j:=4) ⟨rfl,rfl⟩ S.nd rfl rfl (by rfl) T.m_NoClass (fun _=>(Zh (ZC (i:=1) S.nd rfl (Or.inr rfl) (ZW (Zb ZF (Zb (Zef (pv 4) rfl) Zg)))))) (Zea (j:=4) ⟨rfl,rfl⟩ S.nd rfl rfl (by rfl) T.m_Hollow (fun _=>(Zh (ZC (i:=1) S.nd rfl (Or.inr rfl) (ZW (Zb ZF (Zb (Zef (pv 4) rfl) Zg)))))) (Zea (j:=4) ⟨rfl,rfl⟩ S.nd rfl rfl (by rfl) T.m_Round (fun _=>(Ze (ZC (i:=1) S.nd rfl (Or.inr rfl) (ZW (Zb ZF (Zb ZF Zg))))
   (Zh (ZC (i:=2) S.nd rfl (Or.inl rfl) (Zef (pv 4) rfl))))) ZpE)))))
   (Ze (ZC (i:=5) S.nd rfl (Or.inl rfl) (Z0 (ZbU (xs:=["twice","class","hollow","round"]) rfl)))
   (Ze (ZQ ((Zcz (Zp (Zd3 hr) (ZI ZaI (pv 1) Zl (fun _ _=>rfl)) ZF (ZE _)) (ZbO (Zp (Zd3 hr) (pv 3) (Z3 Zbf (Za3 (ts:=["_law_word"]) (frs':=[("_law_told",1)]) (cl:=_) rfl ⟨(by rfl),rfl,(by decide +kernel),(by decide +kernel),(ZB (by rfl) ZJ),(Zal (by rfl) (by rfl)),(ZB ⟨(by rfl),(by first|exact .inl rfl|exact .inr rfl),(by first|exact .inl rfl|exact .inr rfl),(by rfl)⟩ ZJ)⟩ (Zab (pv 5)) (fun _ _ _ _=>Zq (i:=0) (show List.Nodup (["_law_word","_law_told"]:List Str)from by decide +kernel) rfl (Or.inl rfl) (.inr rfl)) (fun _ _ _ _=>Zak) (fun _ _ _ _=>by exact(Zdf (Zpo K rfl hr) (ZI (Zo8 K rfl) (pv 1) Zl (fun _ _=>rfl)) (pv 0) (ZE _)))) (Z0 (Zb Zda Zg))) (ZE _))))).pt (Zh (Zt (ZW (Zb ZF (Zb ZF (Zb (Z0 Zg) Zg)))))) Zz)
   (Zh (Zt (ZW (Zb (ZI ZaI (pv 1) Zl (fun _ _=>rfl)) (Zb (ZI ZaI (pv 1) Zl (fun _ _=>rfl)) (Zb (pv 2) Zg))))))))))))),(Zj (Zu (ZV (Zd ZL (Zd ZL Zf))) Zi)
   (Zj (Zu (ZZ Zf) Zi)
   (Zj (Zu (ZZ Zf) Zi)
   (Zj (Znu (ZeH (Zf4 (Zd (Zaz (ZO ZR Za) (Zaw (ZH Zi (ZH Zi Zay))) ZaB (ZV (Zd Za (Zd (Zw (Zd Za Zf)) Zf)))) Zf))) (Zj (Zu (ZZ (Zd (ZY ZeJ (Zd Za (Zd ZaK Zf))) (Zd (ZY ZeJ (Zd Za (Zd ZaK Zf))) (Zd (ZY ZeJ (Zd Za (Zd ZaK Zf))) (Zd (ZY ZeJ (Zd Za (Zd ZaK Zf))) Zf))))) Zi)
   (Z1 (ZbJ ZP ZaR Za (Zd (ZY ZeJ (Zd Za (Zd Zm4 Zf))) Zf)))))
   (Zj (ZnS (ZeH (Zf4 (Zd (Zaz (ZO ZR Za) (Zaw (ZH Zi (ZH Zi Zay))) ZaB (ZV (Zd Za (Zd (Zw (Zd Za Zf)) Zf)))) Zf))) (Zk1 (Zu (ZV (Zd ZL (Zd (ZdS Za) Zf))) Zi) (Zk1 (Zu (ZV (Zd ZL (Zd (ZdS Za) Zf))) Zi) (Zk1 (Zu (ZV (Zd ZL (Zd (ZdS Za) Zf))) Zi) (Zk1 (Zj (Zu (ZV (Zd ZL (Zd ZL Zf))) Zi)
   (Zu (ZdS Za) Zi)) Ztu)))))
   (Zj (Zu (ZZ Zcu) Zi)
   (Zj (ZT (Zcy (Zo (Zk Zd0 (Zk ZM Za Zm) ZL)) (Zo (Zk Zd0 Za (Zk Zbj (Zaz (ZO ZR Za) Zi ZaB (Zk ZaN (Zk ZM Za Zm) Za)) (ZZ (Zd Zdj Zf)))))) (Zs (ZV (Zd ZL (Zd ZL (Zd (ZZ Zf) Zf))))) Zy)
   (Zs (ZV (Zd (Zk ZM Za Zm) (Zd (Zk ZM Za Zm) (Zd Za Zf))))))))))))⟩
 rintro us A Q ⟨l,ns,rs,rfl,hl,hrl,hnl,hnd,hnw,hrs,q1,q2,q3⟩;walk_at "o";refine⟨Zcw,by decide,fun p hp=>⟨by decide,fun p1 hp1=>?_⟩⟩;have hpp:p≠p1:=fun e=>by rw[<- e,Zc]at hp1;cases hp1
 have e1:=(Ext.new hp (o:=.lst [])).trans (Ext.new hp1 (o:=.lst []));have b1:updA (updA A p (.lst [])) p1 (.lst []) p=some (.lst []):=by rw[Zn hpp,Zc]
 have b2:updA (updA A p (.lst [])) p1 (.lst []) p1=some (.lst []):=Zc;generalize updA (updA A p (.lst [])) p1 (.lst [])=A1 at e1 b1 b2 ⊢;refine⟨⟨_,e1 _ _ hl⟩,fun l1 hl1=>ZeN (e1 _ _ hl) hrl hnl hnd hnw hrs hl1 (fun hh hrk A2 x ps e2 hps hbi hbk=>⟨rfl,⟨_,(e1.trans e2) _ _ hl⟩,fun l2 hl2=>?_⟩) (fun k z r g1 g2 g3 g4 A2 e2=>?_) (fun hh c hc hcn A2 lc e2 hlc=>?_)⟩
 .refine ZeN ((e1.trans e2) _ _ hl) hrl hnl hnd hnw hrs hl2 (fun _ _ A3 x3 ps3 e3 _ _ _=>⟨rfl,Zbk,fun p4 hp4=>?_⟩) (fun k z r g1 g2 g3=>by rw[hh r (Yk g2)]at g3;cases g3) (fun _ c hc hcn A3 lc e3 _=>by obtain⟨rk,hrk⟩:=hrk;exact(hc.norank hcn hrk).elim);have e4:=((e1.trans e2).trans e3).trans (Ext.new hp4 (o:=.lst [.str "twice",.str "class",.str "hollow",.str "round"]));refine Zbc (fun B hB=>?_) ?_
  .walk_at "d";exact ZA (by decide) hB
  walk_at "d";exact⟨tr3,fg (q1 hh hrk _ p e4)⟩
 .have hcon:¬ ∀r∈rs,r.hp (nkV ns rs)=false:=fun h=>by rw[h r (Yk g2)]at g3;cases g3
  refine⟨T.Y_Hollow_FigureError,fun a ax ha hax hne=>?_⟩;have f1:updA (updA A2 ax (oXd [("name",.str z)])) a (oX a_Hollow ax) a=some (oX a_Hollow ax):=Zc;have f2:updA (updA A2 ax (oXd [("name",.str z)])) a (oX a_Hollow ax) ax=some (oXd [("name",.str z)]):=by rw[Zn (Ne.symm hne),Zc]
  have f3:Ext A1 (updA (updA A2 ax (oXd [("name",.str z)])) a (oX a_Hollow ax)):=(e2.trans (Ext.new hax)).trans (Ext.new (by rw[Zn hne];exact ha));generalize updA (updA A2 ax (oXd [("name",.str z)])) a (oX a_Hollow ax)=A3 at f1 f2 f3 ⊢;refine⟨a,a_Hollow,ax,_,_,false,rfl,f1,f2,T.X_Hollow,.inl ⟨_,rfl,T.XI_0⟩,a,a_Hollow,ax,_,_,false,rfl,f1,f2,T.X_Hollow,.inl ⟨_,rfl,T.XI_1⟩,a,a_Hollow,ax,_,_,true,rfl,f1,f2,T.X_Hollow,.inl ⟨_,rfl,T.XI_2⟩,a,a_Hollow,ax,_,_,false,rfl,f1,f2,T.X_Hollow,.inl ⟨_,rfl,T.XI_3⟩,Zbk,fun pk hpk=>?_⟩;have hak:=Ext.new hpk (o:=.lst [.bl false,.bl false,.bl true,.bl false]);refine⟨⟨_,Zc⟩,a,a_Hollow,ax,_,_,true,rfl,hak _ _ f1,hak _ _ f2,T.X_Hollow,.inr (.inl ⟨_,rfl,T.XI_4⟩),_,Zc,Z2 (by decide),?_⟩;rw[ZK];have e5:=(e1.trans f3).trans (Ext.new hpk (o:=.lst ([.bl false,.bl false,.bl true,.bl false]++[.bl true])));have bk:updA A3 pk (.lst ([.bl false,.bl false,.bl true,.bl false]++[.bl true])) pk=some (.lst ([.bl false,.bl false,.bl true,.bl false,.bl true])):=Zc;have bp:updA A3 pk (.lst ([.bl false,.bl false,.bl true,.bl false]++[.bl true])) p=some (.lst []):=Ext.new hpk _ _ (f3 _ _ b1);generalize updA A3 pk (.lst ([.bl false,.bl false,.bl true,.bl false]++[.bl true]))=A5 at e5 bk bp ⊢;refine⟨⟨_,e5 _ _ hl⟩,fun l2 hl2=>ZeN (e5 _ _ hl) hrl hnl hnd hnw hrs hl2 (fun h=>absurd h hcon) (fun k' z' r' g1' g2' g3' g4' A6 e6=>.inr ⟨T.Y_Hollow_Twice,.inr ⟨T.Y_Hollow_NoClass,.inl ⟨T.Y_Hollow_Hollow,fun a2 ax2 ha2 hax2 hne2=>⟨a2,a_Hollow,ax2,_,_,rfl,Zc,by rw[Zn (Ne.symm hne2),Zc],T.X_Hollow,T.N_Hollow_name,lkp,Zcw,Zbk,fun p4 hp4=>?_⟩⟩⟩⟩) (fun h=>absurd h hcon)⟩;have e7:=(((e5.trans e6).trans (Ext.new hax2)).trans (Ext.new (by rw[Zn hne2];exact ha2))).trans (Ext.new hp4 (o:=.lst [.str "twice",.str "class",.str "hollow",.str "round"]));have e8:=((e6.trans (Ext.new hax2)).trans (Ext.new (by rw[Zn hne2];exact ha2))).trans (Ext.new hp4 (o:=.lst [.str "twice",.str "class",.str "hollow",.str "round"]));refine Zka false (fun B hB=>?_) fun B eB=>ZA rfl ?_
  .walk_at "d";refine ZX (by decide +kernel) ⟨⟨_,Zc⟩,fun l3 hl3=>?_⟩;walk_at "c";refine Zmq [.str "twice",.str "class",.str "hollow",.str "round"] [.bl false,.bl false,.bl true,.bl false] rfl hl3 (by decide) (fun k A2 _ e2=>⟨_,e2 _ _ Zc,rfl⟩) ?_ ?_
   .rintro k u y A7 hu hy e9 Cy hC;rcases k with _|_|_|_|k
    .cases hu;cases hy;walk_at "d";rw[show decide (Str.ofString "hollow"=Str.ofString "twice")=false by decide +kernel];exact hC
    .cases hu;cases hy;walk_at "d";rw[show decide (Str.ofString "hollow"=Str.ofString "class")=false by decide +kernel];exact hC
    .cases hu;cases hy;walk_at "d";exact hC
    .cases hu;cases hy;walk_at "d";rw[show decide (Str.ofString "hollow"=Str.ofString "round")=false by decide +kernel];exact hC
    .cases hu
   .refine⟨by decide,fun p5 hp5=>⟨_,_,Ext.new hp5 _ _ Zc,Zc,by decide,fun p6 hp6=>?_⟩⟩;walk_at "d";have e10:=((Ext.new hl3 (o:=.lst [.bl false,.bl false,.bl true,.bl false])).trans (Ext.new hp5 (o:=.lst [.bl true]))).trans (Ext.new hp6 (o:=.lst ([.bl false,.bl false,.bl true,.bl false]++[.bl true])));exact ZmN ((e8.trans e10) _ _ bk) Zc ⟨_,rfl,hB _ e10⟩
  walk_at "d";exact⟨tr3,fg (q2 k' z' r' g1' g2' g3' g4' _ p (e7.trans eB))⟩
 .refine⟨T.Y_Round_FigureError,fun a ax ha hax hne=>?_⟩;have f1:updA (updA A2 ax (oXd [("circle",.ref lc)])) a (oX a_Round ax) a=some (oX a_Round ax):=Zc;have f2:updA (updA A2 ax (oXd [("circle",.ref lc)])) a (oX a_Round ax) ax=some (oXd [("circle",.ref lc)]):=by rw[Zn (Ne.symm hne),Zc]
  have f3:Ext A1 (updA (updA A2 ax (oXd [("circle",.ref lc)])) a (oX a_Round ax)):=(e2.trans (Ext.new hax)).trans (Ext.new (by rw[Zn hne];exact ha));generalize updA (updA A2 ax (oXd [("circle",.ref lc)])) a (oX a_Round ax)=A3 at f1 f2 f3 ⊢;refine⟨a,a_Round,ax,_,_,false,rfl,f1,f2,T.X_Round,.inl ⟨_,rfl,T.XI_5⟩,a,a_Round,ax,_,_,false,rfl,f1,f2,T.X_Round,.inl ⟨_,rfl,T.XI_6⟩,a,a_Round,ax,_,_,false,rfl,f1,f2,T.X_Round,.inl ⟨_,rfl,T.XI_7⟩,a,a_Round,ax,_,_,true,rfl,f1,f2,T.X_Round,.inl ⟨_,rfl,T.XI_8⟩,Zbk,fun pk hpk=>?_⟩;have hak:=Ext.new hpk (o:=.lst [.bl false,.bl false,.bl false,.bl true]);refine⟨⟨_,Zc⟩,a,a_Round,ax,_,_,true,rfl,hak _ _ f1,hak _ _ f2,T.X_Round,.inr (.inl ⟨_,rfl,T.XI_9⟩),_,Zc,Z2 (by decide),?_⟩;rw[ZK];have e5:=(e1.trans f3).trans (Ext.new hpk (o:=.lst ([.bl false,.bl false,.bl false,.bl true]++[.bl true])));have bk:updA A3 pk (.lst ([.bl false,.bl false,.bl false,.bl true]++[.bl true])) pk=some (.lst ([.bl false,.bl false,.bl false,.bl true,.bl true])):=Zc;have bp:updA A3 pk (.lst ([.bl false,.bl false,.bl false,.bl true]++[.bl true])) p=some (.lst []):=Ext.new hpk _ _ (f3 _ _ b1);generalize updA A3 pk (.lst ([.bl false,.bl false,.bl false,.bl true]++[.bl true]))=A5 at e5 bk bp ⊢;refine⟨⟨_,e5 _ _ hl⟩,fun l2 hl2=>?_⟩;refine ZeN (e5 _ _ hl) hrl hnl hnd hnw hrs hl2 (fun _ h=>by obtain⟨rk,hrk⟩:=h;exact(hc.norank hcn hrk).elim) (fun k z r g1 g2 g3=>by rw[hh r (Yk g2)]at g3;cases g3) (fun _ c' hc' hcn' A6 lc' e6 hlc'=>.inr ⟨T.Y_Round_Twice,.inr ⟨T.Y_Round_NoClass,.inr ⟨T.Y_Round_Hollow,.inl ⟨T.Y_Round_Round,fun a2 ax2 ha2 hax2 hne2=>⟨Zcw,a2,a_Round,ax2,_,_,rfl,Zc,by rw[Zn (Ne.symm hne2),Zc],T.X_Round,T.N_Round_circle,lkp,Zbk,fun p4 hp4=>?_⟩⟩⟩⟩⟩);have e7:=(((e5.trans e6).trans (Ext.new hax2)).trans (Ext.new (by rw[Zn hne2];exact ha2))).trans (Ext.new hp4 (o:=.lst [.str "twice",.str "class",.str "hollow",.str "round"]));have e8:=((e6.trans (Ext.new hax2)).trans (Ext.new (by rw[Zn hne2];exact ha2))).trans (Ext.new hp4 (o:=.lst [.str "twice",.str "class",.str "hollow",.str "round"]));refine Zka false (fun B hB=>?_) fun B eB=>ZA rfl ?_
  .walk_at "d";refine ZX (by decide +kernel) ⟨⟨_,Zc⟩,fun l3 hl3=>?_⟩;walk_at "c";refine Zmq [.str "twice",.str "class",.str "hollow",.str "round"] [.bl false,.bl false,.bl false,.bl true] rfl hl3 (by decide) (fun k A2 _ e2=>⟨_,e2 _ _ Zc,rfl⟩) ?_ ?_
   .rintro k u y A7 hu hy e9 Cy hC;rcases k with _|_|_|_|k
    .cases hu;cases hy;walk_at "d";rw[show decide (Str.ofString "round"=Str.ofString "twice")=false by decide +kernel];exact hC
    .cases hu;cases hy;walk_at "d";rw[show decide (Str.ofString "round"=Str.ofString "class")=false by decide +kernel];exact hC
    .cases hu;cases hy;walk_at "d";rw[show decide (Str.ofString "round"=Str.ofString "hollow")=false by decide +kernel];exact hC
    .cases hu;cases hy;walk_at "d";exact hC
    .cases hu
   .refine⟨by decide,fun p5 hp5=>⟨_,_,Ext.new hp5 _ _ Zc,Zc,by decide,fun p6 hp6=>?_⟩⟩;walk_at "d";have e10:=((Ext.new hl3 (o:=.lst [.bl false,.bl false,.bl false,.bl true])).trans (Ext.new hp5 (o:=.lst [.bl true]))).trans (Ext.new hp6 (o:=.lst ([.bl false,.bl false,.bl false,.bl true]++[.bl true])));exact ZmN ((e8.trans e10) _ _ bk) Zc ⟨_,rfl,hB _ e10⟩
  walk_at "d";exact⟨tr3,fg (q3 hh c' hc' hcn' _ lc' (e7.trans eB) ((((Ext.new hax2).trans (Ext.new (by rw[Zn hne2];exact ha2))).trans ((Ext.new hp4).trans eB)) _ _ hlc'))⟩
end
def ZkY(P:Program)(w:World)(C D:Addr):Zc7:=fun us A Q X=>∃(b:Addr)(z:Str)(ps:List (Str×Addr))(rs:List Rl),us=[.ref b,.str z]/\Zen P w C A b ps rs/\z.length<=1000/\(z∈ps.map (·.1)->Q .non A)/\(z∉ps.map (·.1)->X D [("name",.str z)] A)
def ZiL{a b c d:U}(h:m∉(["rule_by","least_by","leans_by","speaks_by"]:List Str)):List.lookup m [(("rule_by":Str),a),(("least_by":Str),b),(("leans_by":Str),c),(("speaks_by":Str),d)]=none:=Zbi h
def Zhg(P:Program)(w:World)(C D:Addr):Zc7:=fun us A Q X=>∃(b:Addr)(z:Str)(ps:List (Str×Addr))(rs:List Rl),us=[.ref b,.str z]/\Zen P w C A b ps rs/\z.length<=1000/\(z∈ps.map (·.1)->Q (oU (bkV ps rs z)) A)/\(z∉ps.map (·.1)->X D [("name",.str z)] A)
def ZdB(P:Program)(w:World)(C:Addr):ASp:=fun us A Q=>∃(b:Addr)(ps:List (Str×Addr))(rs:List Rl),us=[.ref b]/\Zen P w C A b ps rs/\∀l,A l=none->Q (.ref l) (updA A l (.lst ((ps.map (·.1)).map U.str)))
def Zhv(P:Program)(w:World)(C D:Addr):Zc7:=fun us A Q X=>∃(b:Addr)(z:Str)(ps:List (Str×Addr))(rs:List Rl),us=[.ref b,.str z]/\Zen P w C A b ps rs/\(ps.map (·.1)).Nodup/\rs.length=ps.length/\z.length<=1000/\(∀(k:Nat) r zs l,(ps.map (·.1))[k]? = some z->rs[k]? = some r->ZqY zs (r.lean (bkV ps rs))->A l=none->Q (.ref l) (updA A l (.lst (zs.map U.str))))/\(z∉ps.map (·.1)->X D [("name",.str z)] A)
section
include T
def Zqw:T.F_q1.Ok CX0 1 (Zf7 Zap "name" okT):=ZgA (okV:=okT) T.K_NoClass T.N_NoClass_name rfl rfl (Zwc (t1:="no class is called ") (by decide)) (fun cdv A outer s H E hr=>(Ze (ZU (ZiW T.XB (by rfl) T.m_FigureError (Zb (pv 0) (Zb (ZjB (Zdb ZF (Zdb (ZmE (pv 1)) Zml))) Zg))))
   (Zh (ZfI (pv 0) (pv 1))))) T.F_q1.f rfl T.F_q1.s
def Zi3:T.F_q4.Ok (CXX P w) 3 (Zcm K (ZkY P w a_Book Zap)):=by
 have G_q1:=Zqw T;apply T.F_q4.okX;walk_at "f";exact fun S hr hE=>⟨_,(Zh (ZQ (Zp ZdU (pv 1) (Z4 (pv 0) rfl) (by with_unfolding_all rfl)) (Zh (Zc6 rfl T.K_NoClass G_q1.mn hr (by rfl) T.m_NoClass T.F_q1.b (Zb (pv 1) Zg))) Zz)),(ZT (Zo (Zk ZcQ Za (Z5 Za))) (ZgP hE Zve (Zd Za Zf)) Zy)⟩;rintro us A Q X ⟨b,z,ps,rs,rfl,hb,hz,q1,q2⟩;walk_at "o";obtain⟨dx,d1,d2,d3,d4,e1,e2,e3,e4,v3,v4,h0,h1,h2,h3,h4,h5,h6,h7,h8⟩:=hb.all;refine Zcl (!decide (z∈ps.map (·.1))) (fun B hB=>?_) ?_
 .walk_at "d";refine⟨b,_,dx,_,_,rfl,h0,T.L_Book,T.N_Book_rule_by,lkh,?_⟩;walk_at "d";refine⟨e1,_,h1,?_⟩;by_cases hz:z∈ps.map (·.1)
  .rw[Za4 (by rw[Zdn];exact hz),<- YC hz];exact hB
  .rw[Zbi (by rw[Zdn];exact hz)];rw[Yw hz]at hB;exact hB
 by_cases hz':z∈ps.map (·.1)
 .refine ZA (by simp only[YC hz',Bool.not_true]) ?_;walk_at "d";exact fg (q1 hz')
 .refine ZX (by simp only[Yw hz',Bool.not_false]) ?_;walk_at "d";exact⟨_,rfl,⟨z,rfl,hz⟩,q2 hz'⟩
def ZhP:T.F_qu.Ok (CXX P w) 5 (Zcm K (Zhg P w a_Book Zap)):=by
 have G_q4:=Zi3 T
 apply T.F_qu.okX
 walk_at "f"
 exact fun S hr hE=>⟨_,(Ze (ZU (Zge Zcv (pv 0) T.L_Book T.W_q4 G_q4.mn hr T.F_q4.b (Zb (pv 1) Zg)))
   (Zh (Zt (ZI ZbN (Z4 (pv 0) rfl) (pv 1) (fun _ _=>rfl))))),(Zj (Z1 (Zgv hE Za (Zd Za Zf)))
   (Zs (Zk ZaZ (Z5 Za) Za)))⟩
 rintro us A Q X ⟨b,z,ps,rs,rfl,hb,hz,q1,q2⟩
 walk_at "o"
 obtain⟨dx,d1,d2,d3,d4,e1,e2,e3,e4,v3,v4,h0,h1,h2,h3,h4,h5,h6,h7,h8⟩:=hb.all
 refine⟨b,dx,_,rfl,h0,ZiL (by decide +kernel),b,z,ps,rs,rfl,hb,hz,fun hm=>?_,q2⟩
 walk_at "d"
 refine⟨b,_,dx,_,_,rfl,h0,T.L_Book,T.N_Book_least_by,lkt (by decide +kernel) lkh,?_⟩
 walk_at "d"
 exact⟨e2,_,_,h2,ZeP hm,fg (q1 hm)⟩
def ZiK:T.F_j0.Ok CX0 3 (Zar K (ZdB P w a_Book)):=by
 apply T.F_j0.okA;walk_at "f";exact fun S hr=>⟨_,(Zh (Zt (ZdT (ZcG rfl) T.n_list (Zb (Z4 (pv 0) rfl) Zg)))),(Zs (ZY Zb4 (Zd (Z5 Za) Zf)))⟩;rintro us A Q ⟨b,ps,rs,rfl,hb,q⟩;walk_at "o";obtain⟨dx,d1,d2,d3,d4,e1,e2,e3,e4,v3,v4,h0,h1,h2,h3,h4,h5,h6,h7,h8⟩:=hb.all;refine⟨b,_,dx,_,_,rfl,h0,T.L_Book,T.N_Book_rule_by,lkh,?_⟩;walk_at "d";refine⟨e1,_,h1,fun l hl=>fg ?_⟩;have:=q l hl;rw[<- Zdn,Yai]at this;exact this
def ZjS:T.F_qv.Ok (CXX P w) 5 (Zcm K (Zhv P w a_Book Zap)):=by
 have G_q4:=Zi3 T
 apply T.F_qv.okX
 walk_at "f"
 exact fun S hr hE=>⟨_,(Ze (ZU (Zge Zcv (pv 0) T.L_Book T.W_q4 G_q4.mn hr T.F_q4.b (Zb (pv 1) Zg)))
   (Zh (Zt (ZdT ZmH T.n_list (Zb (ZI ZbN (Z4 (pv 0) rfl) (pv 1) (fun _ _=>rfl)) Zg))))),(Zj (Z1 (Zgv hE Za (Zd Za Zf)))
   (Zs (ZY Zih (Zd (Zk ZaZ (Z5 Za) Za) Zf))))⟩
 rintro us A Q X ⟨b,z,ps,rs,rfl,hb,hnd,hrl,hz,q1,q2⟩
 walk_at "o"
 obtain⟨dx,d1,d2,d3,d4,e1,e2,e3,e4,v3,v4,h0,h1,h2,h3,h4,h5,h6,h7,h8⟩:=hb.all
 refine⟨b,dx,_,rfl,h0,ZiL (by decide +kernel),b,z,ps,rs,rfl,hb,hz,fun hm=>?_,q2⟩
 obtain⟨k,hk⟩:=List.getElem?_of_mem hm
 have hkl:k<ps.length:=by have:=(Yh.mp hk).1;rwa [Yc]at this
 obtain⟨v,hv⟩:∃v,v3[k]? = some v:=⟨_,Yg (by lia)⟩
 obtain⟨p,zs,rfl,hp,hR⟩:=h6 k v hv
 obtain⟨r,hr⟩:∃r,rs[k]? = some r:=⟨_,Yg (by lia)⟩
 walk_at "d"
 refine⟨b,_,dx,_,_,rfl,h0,T.L_Book,T.N_Book_leans_by,lkt (by decide +kernel) (lkt (by decide +kernel) lkh),?_⟩
 walk_at "d"
 refine⟨e3,_,_,h3,Zah hnd hk hv,?_⟩
 walk_at "d"
 exact⟨_,hp,fun l hl=>fg (q1 k r zs l hk hr (hR r hr) hl)⟩
end
def ZgY(P:Program)(w:World):ASp:=fun us A Q=>∃(l:Addr)(ns:List Str)(rs:List Rl),us=[.ref l]/\A l=some (.lst ((ns.zip rs).map fun p=>.tup [.str p.1,p.2.toU]))/\rs.length=ns.length/\ns.length<=60/\ns.Nodup/\(∀z∈ns,wdB z=true)/\(∀r∈rs,r.size<=60/\r.wd=true/\∀y∈r.nms,y∈ns)/\(∀r∈rs,r.hp (nkV ns rs)=false)/\(∃rk:Str->Nat,∀z∈ns,∀y,nkL ns rs z y->rk y<rk z)/\∀B,Ext A B->Q (.bl true) B
section
include T
def Zjd:T.F_qk.Ok CX0 76 (Zar K (ZgY P w)):=by
 have G_j8:=Zl0 T 60;have G_j9:=Zcn T;have G_j4:=Zd5 T 60;have G_qb:=Zfc T;have G_qu:=ZhP T;have G_qv:=ZjS T;have HD_names:MOk P w K mg base CX0 3 "names" (([(a_Book,ZdB P w a_Book)]:List (Addr×ASp)).map fun p=>(p.1,Zar K p.2)):=fun C s hin=>by
  cases Yp.mp hin;exact⟨_,_,_,T.L_Book,T.W_j0,ZiK T,T.F_j0.b⟩
 apply T.F_qk.okA;walk_at "f";exact fun S hr=>⟨_,(Ze (ZC (i:=1) S.nd rfl (Or.inl rfl) ZbG)
   (Ze (Zae YA rfl (Zab (pv 0)) (ZbL (n:=2) rfl (ZG (Zq (i:=2) S.nd rfl (Or.inl rfl)) (ZG (Zq (i:=3) S.nd rfl (Or.inl rfl)) Zax)))
   (Zh (ZdN (pv 3) (ZdD (pv 1) (pv 2) ZdK))))
   (Ze (ZC (i:=4) S.nd rfl (Or.inl rfl) (T.F_j9.pc G_j9 hr (Zb (pv 1) Zg)))
   (Ze (ZC (i:=5) S.nd rfl (Or.inl rfl) (Zbp T.K_Book G_qb.mn hr (by rfl) T.m_Book T.F_qb.b .nil ZoM (Zb (Za3 (ts:=["_law_name","_law_rule"]) (frs':=[]) (cl:=[]) rfl ⟨rfl,rfl,(by decide +kernel),(by decide +kernel),(fun _ z=>nomatch z),(ZaW rfl rfl),(fun _ z=>nomatch z)⟩ (Zab (pv 0)) (fun _ _ _ _=>Zcs K rfl 2 rfl (ZG (Zq (i:=0) (show List.Nodup (["_law_name","_law_rule"]:List Str)from by decide +kernel) rfl (Or.inl rfl) (.inr rfl)) (ZG (Zq (i:=1) (show List.Nodup (["_law_name","_law_rule"]:List Str)from by decide +kernel) rfl (Or.inl rfl) (.inr rfl)) Zax)) (by rfl) (by rfl)) (fun _ _ _ _=>Zak) (fun _ _ _ _=>by exact(ZW (Zb (pv 0) (Zb (T.F_j8.pc G_j8 hr (Zb (pv 1) Zg)) Zg))))) Zg)))
   (Ze (Zae YA rfl (ZnR (pv 1)) (Zq (i:=2) S.nd rfl (Or.inl rfl))
   (Ze (ZQ (Zp (Zd3 hr) (Zis (pv 5) T.L_Book T.W_qu G_qu.mn hr T.F_qu.b .nil ZoM (Zb (pv 2) Zg)) (Zex (pv 4) (Zb (pv 2) Zg)) (ZE _)) (Zh (Zt Zda)) Zz)
   (Zh (ZQ (Zp (Zd3 hr) (Zis (pv 5) T.L_Book T.W_qv G_qv.mn hr T.F_qv.b .nil ZoM (Zb (pv 2) Zg)) (Zac (Zeu rfl) T.n_sorted (Zb (ZdT (ZuR rfl) T.n_set (Zb (T.F_j4.pc G_j4 hr (Zb (ZI ZbN (pv 1) (pv 2) (fun _ _=>rfl)) (Zb (pv 4) Zg))) Zg)) Zg)) (ZE _)) (Zh (Zt Zda)) Zz))))
   (Zh (Zt (Zdf (ZaV hr) (ZaD (pv 5) HD_names.mn hr Zbs) (ZdT (ZcG rfl) T.n_list (Zb (pv 1) Zg)) (ZE _))))))))),(Zj (Zu ZbE Zi)
   (Zj (Zag (ZO ZR Za) (Zaw (ZH Zi (ZH Zi Zay)))
   (Zu Za (ZbH Za Za)))
   (Zj (Zu (Zw (Zd Za Zf)) Zi)
   (Zj (Zu (ZkI (Zd (Zaz (ZO ZR Za) (Zaw (ZH Zi (ZH Zi Zay))) ZaB (ZV (Zd Za (Zd (Zw (Zd Za Zf)) Zf)))) Zf)) Zi)
   (Zj (Zag (ZO Zi9 Za) Zi
   (Zj (ZT (Zo (Zk Zd0 (ZgO Za (Zd Za Zf)) (Zd4 Za (Zd Za Zf)))) (Zs Zdj) Zy)
   (ZT (Zo (Zk Zd0 (ZgO Za (Zd Za Zf)) (ZY ZcH (Zd (ZY ZoN (Zd (Zw (Zd (Zk ZaZ Za Za) (Zd Za Zf))) Zf)) Zf)))) (Zs Zdj) Zy)))
   (Zs (Zk ZaN (ZaU Za Zf) (ZY Zb4 (Zd Za Zf)))))))))⟩
 rintro us A Q ⟨l,ns,rs,rfl,hl,hrl,hnl,hnd,hnw,hrs,hh,hrk,q⟩;walk_at "o";intro d hd;have hld:l≠d:=neA hl hd;walk_at "d";refine⟨⟨_,by rw[Zn hld];exact hl⟩,?_⟩;refine ZaY ((ns.zip rs).map fun p=>.tup [.str p.1,p.2.toU]) (fun k ρ A2=>∃(ep:Nat)(x3 x4 x5 x6:Option U),ρ=[some (.ref l),some (.ref d),x3,x4,x5,x6]/\A2=updA A d (dS P w ep ((ns.zip (rs.map Rl.toU)).take k))) ⟨0,_,_,_,_,rfl,rfl⟩ (fun k ρ A2 _ hq=>by obtain⟨_,_,_,_,_,_,e⟩:=hq;rw[e,Zn hld];exact hl) ?_ ?_
 .rintro k u ρ A2 hu ⟨ep,x3,x4,x5,x6,rfl,rfl⟩;obtain⟨p,hp,rfl⟩:=Z7 hu;obtain⟨hz,hr⟩:=List.getElem?_zip_eq_some.mp hp;have hzp:(ns.zip (rs.map Rl.toU))[k]? = some (p.1,p.2.toU):=List.getElem?_zip_eq_some.mpr ⟨hz,by rw[Yi,hr];rfl⟩;have hk:=(Yh.mp hzp).1;have hzn:p.1∉((ns.zip (rs.map Rl.toU)).take k).map (·.1):=by
   rw[Ya9,ZaP (by rw[Yc];lia)];intro hm;obtain⟨j,hj,e⟩:=Yam.mp hm;rw[YL]at hj;rw[List.getElem_take]at e;have:=Zad hnd (i:=j) (j:=k) (x:=p.1) (by rw[Yg (by lia),e]) hz;lia
  walk_at "d";refine⟨rfl,d,p.1,ep,_,rfl,rfl,Zc,?_,fun ep'=>⟨ep',_,_,_,_,rfl,?_⟩⟩
  .rw[YL,List.length_zip,Y8];lia
  .rw[ZK,ZaH hzn,List.take_succ_eq_append_getElem hk,(Yh.mp hzp).2]
 rintro ρ A2 ⟨ep,x3,x4,x5,x6,rfl,rfl⟩;rw[Yc,Yaa (by rw[List.length_zip,List.length_zip,Yc];exact Yj _)];have e1:=Ext.new hd (o:=dS P w ep (ns.zip (rs.map Rl.toU)));have d1:updA A d (dS P w ep (ns.zip (rs.map Rl.toU))) d=some (dS P w ep (ns.zip (rs.map Rl.toU))):=Zc;generalize updA A d (dS P w ep (ns.zip (rs.map Rl.toU)))=A1 at e1 d1 ⊢;walk_at "d";refine⟨d,ns,rs,ep,rfl,d1,hrl,hnl,hnd,fun r hr=>(hrs r hr).1,fun d' ep' kus hd' hE=>?_⟩;have e3:=Ext.new hd' (o:=dS P w ep' kus);have d3:updA A1 d' (dS P w ep' kus) d'=some (dS P w ep' kus):=Zc;generalize updA A1 d' (dS P w ep' kus)=A3 at e3 d3 ⊢;have r3:=e3 _ _ d1;replace e3:=e1.trans e3;walk_at "d";refine⟨⟨_,e3 _ _ hl⟩,fun l1 hl1=>?_⟩;refine ZeN (e3 _ _ hl) hrl hnl hnd hnw hrs hl1 (fun _ _ A4 x ps e4 hps hbi hbk=>⟨rfl,?_⟩) (fun k z r g1 g2 g3=>by rw[hh r (Yk g2)]at g3;cases g3) (fun _ c hc hcn=>by obtain⟨rk,hrk⟩:=hrk;exact(hc.norank hcn hrk).elim);subst hps;have hpl:=hbi.len;have hrl':rs.length=ps.length:=by rw[Yc]at hrl;exact hrl
 walk_at "d";refine⟨ep,_,e4 _ _ r3,?_⟩;refine Zdc ((ps.map (·.1)).zip (rs.map Rl.toU)) (fun k ρ A5=>∃(x2 x3:Option U),ρ=[some (.ref l),some (.ref d),x2,x3,some (.ref d'),some (.ref x)]/\Ext A4 A5) ⟨_,_,rfl,Ext.refl _⟩ (fun k ρ A5 _ hq=>by obtain⟨_,_,_,e⟩:=hq;exact e _ _ (e4 _ _ r3)) ?_ ?_
 .rintro k p' ρ A5 hp' ⟨x2,x3,rfl,e5⟩;obtain⟨z,r,hz,hr,e⟩:=Zb9 (f:=fun x=>.tup [.str x.1,x.2]) (by rw[Yi,hp'];rfl);have hp1:p'.1=z:=by injection e with e;injection e with e _;injection e
  have hp2:p'.2=r.toU:=by injection e with e;injection e with _ e;injection e
  unfold fK;rw[hp1];have hzm:=Yk hz;have hz8:=(Zj2 (hnw z hzm)).2.2.1;obtain⟨dx,d1',d2',d3',d4',e1',e2',e3',e4',v3,v4,h0,_⟩:=hbk.all;walk_at "d";refine Zbc (fun B hB=>?_) ?_
  .walk_at "d";refine⟨x,dx,_,rfl,e5 _ _ h0,ZiL (by decide +kernel),x,z,ps,rs,rfl,hbk.ext e5,by lia,fun _=>?_,fun h=>h hzm⟩;walk_at "d";refine⟨d',ep',kus,rfl,(e4.trans e5) _ _ d3,z,.non,ep',kus,rfl,(e4.trans e5) _ _ d3,?_⟩;rw[hE.get];show xNe (oU (nkV (ps.map (·.1)) rs z)) (oU (nkV (ps.map (·.1)) rs z)) A5 _;cases nkV (ps.map (·.1)) rs z with
   | none =>
    unfold oU;walk_at "d";exact hB
   | some n =>
    unfold oU;walk_at "d";simpa using hB
  walk_at "d";refine Zka false (fun B hBB=>?_) fun A6 e6=>?_
  .walk_at "d";obtain⟨hrd,hr60,hrn⟩:=hbi.sz r (Yk hr);refine⟨x,dx,_,rfl,e5 _ _ h0,ZiL (by decide +kernel),x,z,ps,rs,rfl,hbk.ext e5,hbi.nd,hrl',by lia,fun k' r' zs l4 hk' hr' hs hl4=>?_,fun h=>h hzm⟩;have hkk:=Zad hbi.nd hk' hz;subst hkk;rw[hr]at hr';cases hr';have f6:=e5.trans (Ext.new hl4 (o:=.lst (zs.map U.str)));have a6:updA A5 l4 (.lst (zs.map U.str)) l4=some (.lst (zs.map U.str)):=Zc;have e56:=Ext.new hl4 (o:=.lst (zs.map U.str));generalize updA A5 l4 (.lst (zs.map U.str))=A6 at f6 a6 e56 ⊢;have hll:=r.lean_len (e:=bkV ps rs);walk_at "d";refine⟨ep,_,_,f6 _ _ (e4 _ _ r3),Zah hbi.nd hz (by rw[Yi,hr];rfl),r,d',ep',kus,bkV ps rs,rfl,hrd,hr60,f6 _ _ (e4 _ _ d3),hE,fun B1 l3 e7 hl3 hB3=>?_⟩;walk_at "d";refine⟨_,hB3,by show(r.lean (bkV ps rs)).length+1<4096;lia,fun p4 hp4=>?_⟩;walk_at "d";have hal:=Zbw (r.lean (bkV ps rs)) (r.lean (bkV ps rs)).length;obtain⟨hnd',hmm⟩:=Zb0 (r.lean (bkV ps rs)) (r.lean (bkV ps rs)).length (Yj _);refine⟨_,Zc,by lia,fun D zs3 hD hpm hso=>?_⟩;have e8:=(e7.trans (Ext.new hp4)).trans (Ext.new hD (o:=.lst (zs3.map U.str)));have h34:zs=zs3:=Zc5 hs.so hso (Zft hs.nd (hpm.nodup_iff.mpr hnd') fun y=>by rw[hs.mem,hpm.mem_iff,hmm,YZ]);subst h34;have hzs:∀y∈zs,PyData.strOk y=true:=fun y hy=>Zgg (hnw y (hrn y (Rl.lean_nms ((hs.mem y).mp hy))));walk_at "d";refine Zd1 hzs hzs (e8 _ _ a6) Zc ⟨_,rfl,?_⟩;have:=hBB _ (e56.trans e8);simpa using this
  refine ZA rfl ?_;walk_at "d";exact⟨_,_,rfl,e5.trans e6⟩
 rintro ρ A5 ⟨x2,x3,rfl,e5⟩;walk_at "d";obtain⟨dx,d1',d2',d3',d4',e1',e2',e3',e4',v3,v4,h0,_⟩:=hbk.all;refine⟨x,dx,_,a_Book,_,rfl,e5 _ _ h0,.head _,ZiL (by decide +kernel),x,ps,rs,rfl,hbk.ext e5,fun lt hlt=>⟨ep,_,Ext.new hlt _ _ (e5 _ _ (e4 _ _ r3)),fun l5 hl5=>?_⟩⟩;have hNs:∀z∈ps.map (·.1),PyData.strOk z=true:=fun z hz=>Zgg (hnw z hz);have hfk:List.map fK ((ps.map (·.1)).zip (rs.map Rl.toU))=List.map U.str (ps.map (·.1)):=by
  have h:=ZaP (xs:=ps.map (·.1)) (ys:=rs.map Rl.toU) (by rw[Yc,Yc];lia);calc List.map fK ((ps.map (·.1)).zip (rs.map Rl.toU))=List.map U.str (((ps.map (·.1)).zip (rs.map Rl.toU)).map (·.1)):=by rw[Yai];rfl
   _=_:=by rw[h]
 rw[hfk];walk_at "d";refine Zd1 hNs hNs (Ext.new hl5 _ _ Zc) Zc ?_;have:=q _ ((((e3.trans e4).trans e5).trans (Ext.new hlt (o:=.lst ((ps.map (·.1)).map U.str)))).trans (Ext.new hl5 (o:=.lst ((ps.map (·.1)).map U.str))));simpa using fg this
end
def Ztq(hx:PyData.strOk x=true)(hy:PyData.strOk y=true)(h:Q (.bl false) A):Za5 true (.tup [.str x,.str y]) (.tup [.str x,.str y]) A Q:=by
 obtain⟨g1,g2,g3⟩:=ZcI (A:=A) (zs:=[x,y]) (by simp[hx,hy]);refine⟨.tuple ([x,y].map PyData.str),.tuple ([x,y].map PyData.str),.tup g1,.tup g1,?_,?_,?_,?_⟩
 .simp only[PyData.canLay0,g2]
 .simp only[PyData.canLay0,g2]
 .simp only[PyData.depth];lia
 .rw[show PyData.eqv (.tuple ([x,y].map PyData.str)) (.tuple ([x,y].map PyData.str))=true from by simp only[PyData.eqv,ZdV,decide_true]];exact h
theorem ZgJ{α β:Type}:∀ {ws:List α} {rs:List β} {z:α} {r:β},ws[rs.length]? = some z->ws.zip (rs++[r])=ws.zip rs++[(z,r)]
 | [],rs,z,r,h=>by simp at h
 | w :: ws,[],z,r,h=>by
  simp only[List.length_nil,List.getElem?_cons_zero,Option.some.injEq]at h
  subst h
  simp
 | w :: ws,x::rs,z,r,h=>by
  simp only[List.cons_append,List.zip_cons_cons]
  rw[ZgJ (by simpa using h)]
def Zkx{ns:List Str}{rs:List Rl}{rk:Str->Nat}(hrl:rs.length=ns.length)(h0:L≠[])(hn:∀z∈L,z∈ns)(hL:∀(k:Nat) z r,ns[k]? = some z->rs[k]? = some r->z∈L->∃y∈L,y∈r.lean e)(hr:∀(k:Nat) z r,ns[k]? = some z->rs[k]? = some r->∀y∈r.lean e,rk y<rk z):False:=by
 have go:∀(n:Nat) z,z∈L->rk z<=n->False:=by
  intro n;induction n with
  | zero =>
   intro z hz hle;obtain⟨k,hk⟩:=List.getElem?_of_mem (hn z hz);obtain⟨r,hr'⟩:∃r,rs[k]? = some r:=⟨_,Yg (by rw[hrl];exact(Yh.mp hk).1)⟩;obtain⟨y,hy,hyl⟩:=hL k z r hk hr' hz;have:=hr k z r hk hr' y hyl;lia
  | succ n ih =>
   intro z hz hle;obtain⟨k,hk⟩:=List.getElem?_of_mem (hn z hz);obtain⟨r,hr'⟩:∃r,rs[k]? = some r:=⟨_,Yg (by rw[hrl];exact(Yh.mp hk).1)⟩;obtain⟨y,hy,hyl⟩:=hL k z r hk hr' hz;have:=hr k z r hk hr' y hyl;exact ih y hy (by lia)
 cases L with
 | nil=>exact h0 rfl
 | cons z L=>exact go _ z (.head _) (Yj _)
section
include T
def ok_jh:T.F_jh.Ok CX0 130 (Zar K ZgB):=by
 have G_jg:=ZnL T;have G_je:=ZlG T;have G_jc:=Zkj T;have G_jf:=Znm T;have G_j2:=Zkp T;have G_jd:=ZlB T;have G_qt:=ZmU T;have G_qk:=Zjd T;apply T.F_jh.okA;walk_at "f";exact fun S hr=>⟨_,(Ze (ZC (i:=0) S.nd rfl (Or.inl rfl) (T.F_jg.pc G_jg hr (Zb (pv 0) Zg)))
   (Ze (ZC (i:=1) S.nd rfl (Or.inl rfl) (Z3 Zbf Zl (Z3 ZbS (T.F_je.pc G_je hr (Zb (pv 0) (Zb Zl Zg))) Zl)))
   (Ze (ZC (i:=2) S.nd rfl (Or.inl rfl) (T.F_jc.pc G_jc hr (Zb (Z3 ZbS (T.F_je.pc G_je hr (Zb (pv 0) (Zb Zl Zg))) (Z3 Zm8 Zl Zl)) (Zb (pv 1) Zg))))
   (Ze (ZC (i:=3) S.nd rfl (Or.inr rfl) (ZbC Zhj (pv 0) (ZbQ Zl) (ZbQ Zl)))
   (Ze (ZC (i:=4) S.nd rfl (Or.inl rfl) (Z0 Zg))
   (Ze (Zae YA rfl (Zbe rfl T.n_range (Zb (pv 1) Zg)) (Zq (i:=5) S.nd rfl (Or.inl rfl))
   (Ze (Zek (i:=6) S.nd rfl (Or.inl rfl) (by with_unfolding_all rfl) (ts:=["_law_k"]) (frs':=[("_law_cells",3)]) (cl:=_) rfl ⟨(by rfl),rfl,(by decide +kernel),(by decide +kernel),(ZB (by rfl) ZJ),(Zal (by rfl) (by rfl)),(ZB ⟨(by rfl),(by first|exact .inl rfl|exact .inr rfl),(by first|exact .inl rfl|exact .inr rfl),(by rfl)⟩ ZJ)⟩ (ZjE rfl T.n_range (Zb (pv 5) (Zb (Zac ZcD T.n_len (Zb (pv 3) Zg)) (Zb (pv 1) Zg)))) (fun _ _ _ _=>Zq (i:=0) (show List.Nodup (["_law_k","_law_cells"]:List Str)from by decide +kernel) rfl (Or.inl rfl) (.inr rfl)) (fun _ _ _ _=>Zak) (fun _ _ _ _=>by exact(ZI (Zo8 K rfl) (pv 1) (pv 0) (fun _ _=>rfl))))
   (Zh (ZU (ZbK Yy YR YS Zaa (pv 4) (Zb (ZW (Zb (ZI ZaI (pv 2) (pv 5) (fun _ _=>rfl)) (Zb (T.F_jf.pc G_jf hr (Zb (ZbC Zhj (pv 6) ZcS (ZbQ (Z3 Zbf Zl (Z3 ZbS (T.F_je.pc G_je hr (Zb (pv 0) (Zb Zl Zg))) Zl)))) (Zb (pv 2) Zg))) Zg))) Zg))))))
   (Ze (ZC (i:=7) S.nd rfl (Or.inl rfl) (T.F_j2.pc G_j2 hr (Zb (pv 4) Zg)))
   (Ze (ZC (i:=8) S.nd rfl (Or.inl rfl) (T.F_jd.pc G_jd hr (Zb (pv 4) Zg)))
   (Ze (ZQ (Zp (Zd3 hr) (ZW (Zb (ZI ZaI (pv 8) Zl (fun _ _=>rfl)) (Zb (ZI ZaI (pv 8) Zl (fun _ _=>rfl)) Zg))) (pv 7) (ZE _)) (Zh (Zt Zda)) Zz)
   (Ze (ZQ (Zp (ZaV hr) (ZI ZaI (pv 7) Zl (fun _ _=>rfl)) ZF (ZE _)) (Zh (Zt (T.F_qt.pc G_qt hr (Zb (ZI ZaI (pv 8) Zl (fun _ _=>rfl)) (Zb (pv 4) Zg))))) Zz)
   (Zh (Zt (Zte (Zdf (Zd3 hr) (ZI ZaI (pv 7) Zl (fun _ _=>rfl)) ZF (ZE _)) (Zq8 (T.F_qk.pc G_qk hr (Zb (pv 4) Zg)))))))))))))))),(Zj (Zu (Zw (Zd Za Zf)) Zi)
   (Zj (Zu (Zk Zbj Zm (Zk Za1 (Zw (Zd Za (Zd Zm Zf))) Zm)) Zi)
   (Zj (Zu (Zw (Zd (Zk Za1 (Zw (Zd Za (Zd Zm Zf))) (Zk Zh5 Zm Zm)) (Zd Za Zf))) Zi)
   (Zj (Zu (ZhE ZdE Za (ZbV Zm) (ZbV Zm)) Zi)
   (Zj (Zu (ZZ Zf) Zi)
   (Zj (Zag (ZbI (Zd Za Zf)) Zi
   (Zj (Zu (Zaz (Zkk (Zd Za (Zd (ZY Zbq (Zd Za Zf)) (Zd Za Zf)))) Zi ZaB (Zk ZM Za Za)) Zi)
   (Z1 (ZbJ ZP ZaR Za (Zd (ZV (Zd (Zk ZM Za Za) (Zd (Zw (Zd (ZhE ZdE Za Zbx (ZbV (Zk Zbj Zm (Zk Za1 (Zw (Zd Za (Zd Zm Zf))) Zm)))) (Zd Za Zf))) Zf))) Zf)))))
   (Zj (Zu (Zw (Zd Za Zf)) Zi)
   (Zj (Zu (Zw (Zd Za Zf)) Zi)
   (Zj (ZT (Zo (Zk Zd0 (ZV (Zd (Zk ZM Za Zm) (Zd (Zk ZM Za Zm) Zf))) Za)) (Zs Zdj) Zy)
   (Zj (ZT (Zo (Zk ZaN (Zk ZM Za Zm) ZL)) (Zs (Zw (Zd (Zk ZM Za Zm) (Zd Za Zf)))) Zy)
   (Zs (Zrv (Zk Zd0 (Zk ZM Za Zm) ZL) (Zw (Zd Za Zf))))))))))))))⟩
 rintro us A Q ⟨ns,rfl,hl,q⟩;walk_at "o";refine⟨ns,rfl,hl,fun l0 ms hl0 hms=>?_⟩;have a0:updA A l0 (.lst (ms.map U.int)) l0=some (.lst (ms.map U.int)):=Zc;generalize updA A l0 (.lst (ms.map U.int))=A0 at a0 ⊢;refine⟨l0,ms,1,rfl,a0,by decide,fun c1=>?_⟩;walk_at "d";have h8:0<=c1 % 5/\c1 % 5<5:=⟨Yax _ (by decide),Yau _ (by decide)⟩;obtain⟨m,hm⟩:=YaH h8.1;rw[hm,show(1:Int)+(m:Int)=((m+1:Nat):Int) by lia];have hm8:m<5:=by lia
 refine⟨by decide,l0,ms,0,rfl,a0,by decide,fun c0=>⟨⟨by decide,by decide,by decide⟩,?_⟩⟩;walk_at "d";refine⟨by decide,_,m+1,rfl,Yax _ (by decide),by lia,fun lw ws hlw hwl hwn hww=>?_⟩;have a1:=Ext.new hlw (o:=.lst (List.map U.str ws)) _ _ a0;have w1:updA A0 lw (.lst (List.map U.str ws)) lw=some (.lst (ws.map U.str)):=Zc;generalize updA A0 lw (.lst (List.map U.str ws))=A1 at a1 w1 ⊢;walk_at "d";refine⟨_,a1,?_⟩;rw[Zb8];intro lc hlc;have hcl:(cutL ms (some 3) (some 63)).length<=63:=by
  unfold cutL;rw[YL,YaK];lia
 generalize cutL ms (some 3) (some 63)=cs at hcl ⊢;refine⟨by decide,fun p hp=>⟨by lia,by lia,?_⟩⟩;have e3:=(Ext.new hlc (o:=.lst (cs.map U.int))).trans (Ext.new hp (o:=.lst []));have a3:=e3 _ _ a1;have w3:=e3 _ _ w1;have c3:updA (updA A1 lc (.lst (cs.map U.int))) p (.lst []) lc=some (.lst (cs.map U.int)):=Ext.new hp _ _ Zc;have p3:updA (updA A1 lc (.lst (cs.map U.int))) p (.lst []) p=some (.lst []):=Zc;have n1:l0≠p:=neA (Ext.new hlc _ _ a1) hp;have n2:lw≠p:=neA (Ext.new hlc _ _ w1) hp;have n3:lc≠p:=neA Zc hp;generalize updA (updA A1 lc (.lst (cs.map U.int))) p (.lst [])=A3 at a3 w3 c3 p3 ⊢;have hne:ws≠[]:=fun e=>by rw[e]at hwl;cases hwl
 refine Zdh (n:=m+1) (fun k ρ A2=>∃(rs:List Rl)(x5 x6 x7 x8:Option U),ρ=[some (.ref l0),some (.int ((m+1:Nat):Int)),some (.ref lw),some (.ref lc),some (.ref p),x5,x6,x7,x8]/\A2 l0=some (.lst (ms.map U.int))/\A2 lw=some (.lst (ws.map U.str))/\A2 lc=some (.lst (cs.map U.int))/\A2 p=some (.lst ((ws.zip rs).map fun q=>.tup [.str q.1,q.2.toU]))/\rs.length=k/\∀r∈rs,WOk ws r/\r.size<=60) ⟨[],_,_,_,_,rfl,a3,w3,c3,by rw[List.zip_nil_right];exact p3,rfl,fun r h=>nomatch h⟩ ?_ ?_
 .rintro k ρ A2 hk ⟨rs,x5,x6,x7,x8,rfl,a2,w2,c2,p2,hrl,hrs⟩;rw[Int.zero_add];obtain⟨z0,hz⟩:∃z0,ws[k]? = some z0:=⟨_,Yg (by lia)⟩;walk_at "d";refine⟨_,c2,?_⟩;rw[Yc];walk_at "d";refine⟨⟨by lia,by lia,by lia,by lia,by lia,by lia⟩,fun n hn hb l hl=>?_⟩;walk_at "c";refine Zig (Zmg k ((m+1:Nat):Int) n) (fun _ v _=>∃z:Int,v=.int z) (fun τ=>∃x,τ=[x,some (.ref lc)]) ⟨_,rfl⟩ hl (by unfold Zmg;rw[Yc,Yav];lia) (fun j A3 _ _=>rfl) (fun j v A1 B _ _ h=>h) ?_ ?_
  .rintro j u τ A3 hu ⟨x,rfl⟩ e3 Cy hC;rw[ZgQ]at hu;split at hu
   .rename_i hj;cases hu;have hj1:=hb j hj;have hj2:(0:Int)<=(j:Int)*((m+1:Nat):Int):=Int.mul_nonneg (by lia) (by lia);obtain⟨z,hz1,_⟩:=ZeS (ns:=cs) (i:=(k:Int)+j*((m+1:Nat):Int)) (by lia) (by lia);walk_at "d";exact⟨_,_,e3 _ _ c2,hz1,hC _ _ A3 ⟨_,rfl⟩ (Ext.refl _) ⟨z,rfl⟩⟩
   .cases hu
  intro B ys eB hBl hyl hys;obtain⟨ms',rfl⟩:=Zjn hys;have e4:Ext A2 (updA B l (.lst (ms'.map U.int))):=eB.trans (Ext.new hBl);have l4:updA B l (.lst (ms'.map U.int)) l=some (.lst (ms'.map U.int)):=Zc;generalize updA B l (.lst (ms'.map U.int))=B3 at e4 l4 ⊢;walk_at "d";refine⟨⟨_,e4 _ _ p2⟩,_,_,e4 _ _ w2,Zai (by rw[Yi,hz];rfl),l0,ms,2,rfl,e4 _ _ a2,by decide,fun c5=>?_⟩;walk_at "d";have h9:0<=c5 % 9/\c5 % 9<9:=⟨Yax _ (by decide),Yau _ (by decide)⟩;obtain⟨t,ht⟩:=YaH h9.1;rw[ht,show(2:Int)+(t:Int)=((2+t:Nat):Int) by lia];refine⟨by decide,_,l4,?_⟩;rw[Zb8,Zgn];intro p6 hp6;have e6:=e4.trans (Ext.new hp6 (o:=.lst ((ms'.take (2+t)).map U.int)));refine⟨p6,lw,ms'.take (2+t),ws,rfl,Zc,by rw[YL];lia,e6 _ _ w2,hne,hww,fun r hr hr60=>⟨Zcw,_,e6 _ _ p2,Z2 (by rw[Yc,List.length_zip];lia),rs++[r],_,_,_,_,rfl,by rw[Zn n1];exact e6 _ _ a2,by rw[Zn n2];exact e6 _ _ w2,by rw[Zn n3];exact e6 _ _ c2,?_,by simp[hrl],fun r' hr'=>?_⟩⟩
  .rw[Zc,ZgJ (by rw[hrl];exact hz),Yt];rfl
  .rcases Yz.mp hr' with h|h
   .exact hrs r' h
   .rw[Yp.mp h];exact⟨hr,hr60⟩
 rintro ρ A2 ⟨rs,x5,x6,x7,x8,rfl,a2,w2,c2,p2,hrl,hrs⟩;walk_at "d";have hrl':rs.length=ws.length:=by lia
 have hw3:∀r∈rs,r.size<=60/\r.wd=true/\∀y∈r.nms,y∈ws:=fun r hr=>⟨(hrs r hr).2,(hrs r hr).1.1,(hrs r hr).1.2⟩;refine⟨p,ws,rs,rfl,p2,hrl',by lia,hwn,fun r hr=>⟨(hrs r hr).2,(hrs r hr).1.2⟩,fun k z r g1 g2 g3 g4 B eB=>?_,fun hh hL B eB=>?_,fun hh hrk B eB=>?_⟩
 .walk_at "d";have hcon:¬ ∀r∈rs,r.hp (nkV ws rs)=false:=fun h=>by rw[h r (Yk g2)]at g3;cases g3
  refine⟨p,ws,rs,rfl,eB _ _ p2,hrl',by lia,hwn,hww,hw3,fun h=>absurd h hcon,fun k' z' r' g1' g2' g3' g4' B2 lc2 e2=>?_,fun h=>absurd h hcon⟩;have hkk:k'=k:=by
   rcases Nat.lt_trichotomy k' k with h|h|h
   .rw[g4 k' r' h g2']at g3';cases g3'
   .exact h
   .rw[g4' k r h g2]at g3;cases g3
  subst hkk;rw[g1]at g1';cases g1';refine Zbc (fun B hB=>?_) ?_
  .walk_at "d";exact⟨Zcw,Ztq (by decide +kernel) (Zgg (hww z (Yk g1))) ⟨_,rfl,hB⟩⟩
  walk_at "d";refine Zbc (fun B hB=>?_) ?_
  .walk_at "d";rw[show decide (Str.ofString "hollow"=Str.ofString "round")=false by decide +kernel];exact hB
  walk_at "d";exact ZX (by decide +kernel) (fg (q _))
 .walk_at "d";obtain⟨L,hL1,hL2,hL3⟩:=hL;refine⟨p,ws,rs,rfl,eB _ _ p2,hrl',by lia,hwn,hww,hw3,fun _ h=>?_,fun k z r g1 g2 g3=>(by rw[hh r (Yk g2)]at g3;cases g3),fun _ c hc hcn B2 lc2 e2 hlc2=>?_⟩
  .obtain⟨rk,hrk⟩:=h;exact(Zkx hrl' hL1 hL2 hL3 fun k z r hz hr y hy=>hrk z (Yk hz) y ⟨k,r,hz,hr,hy⟩).elim
  refine Zbc (fun B hB=>?_) ?_
  .walk_at "d";exact⟨Zcw,Ztq (by decide +kernel) (by decide +kernel) ⟨_,rfl,hB⟩⟩
  walk_at "d";refine Zbu (fun B hB=>?_) ?_
  .walk_at "d";exact hB
  walk_at "d";exact⟨lc2,p,c,ws,rs,rfl,hlc2,e2 _ _ (eB _ _ p2),hrl',by lia,hwn,fun r hr=>⟨(hrs r hr).2,(hrs r hr).1.2⟩,hc,hcn,fun B3 _=>fg (q _)⟩
 .walk_at "d";have hrk':∃rk:Str->Nat,∀z∈ws,∀y,nkL ws rs z y->rk y<rk z:=by
   obtain⟨rk,hrk⟩:=hrk;exact⟨rk,fun z _ y ⟨k,r,hz,hr,hy⟩=>hrk k z r hz hr y hy⟩
  refine⟨p,ws,rs,rfl,eB _ _ p2,hrl',by lia,hwn,hww,hw3,fun _ _ B2 lc2 e2=>?_,fun k z r g1 g2 g3=>(by rw[hh r (Yk g2)]at g3;cases g3),fun _ c hc hcn=>by obtain⟨rk,hrk⟩:=hrk';exact(hc.norank hcn hrk).elim⟩;refine Zbc (fun B hB=>?_) ?_
  .walk_at "d";exact⟨Zcw,Ztq (by decide +kernel) (by decide +kernel) ⟨_,rfl,hB⟩⟩
  walk_at "d";refine Zbc (fun B hB=>?_) ?_
  .walk_at "d";rw[show decide (Str.ofString "sound"=Str.ofString "round")=false by decide +kernel];exact hB
  walk_at "d";exact ZA (by decide) ⟨p,ws,rs,rfl,e2 _ _ (eB _ _ p2),hrl',by lia,hwn,hww,hw3,hh,hrk',fun B3 _=>fg (q _)⟩
end
def walk{l:PySem.W.OpenLaw}{K:Params->YFr}(hn:l.most=some 63)(hdf:d.params.defaults=[])(hY:∀ (w:World) (h:Heap),YP w h->(K w.params).In h)(F : ∀ (w:World) (mg:Str->Option Value) (fa:Addr) (h:Heap),(K w.params).In h->h.Ns mainGlobals mg->mg d.name=some (.ref fa) ->
   ∃fd:FuncData,(∀(s:Shared)(u:Value),BindsTo s fd ⟨[u],[]⟩ [("_law_script",u)])/\∀base:Heap,(K w.params).In base->base.Ns mainGlobals mg->ZbB l.prog w (K w.params) mg base CX0 130 fa fd ["_law_script"] (Zar (K w.params) ZgB)):
  PySem.W.WalkO q loose XP YP l.row.toRowW d [] (fun f vs=>PySem.call f vs) :=
 L2.walk_of (n:=63) (k:=130) (x:="_law_script") (CX:=fun _=>CX0) (sp:=fun w=>Zar (K w.params) ZgB) hn (by decide) hdf ⟨rfl,by decide,by decide⟩ hY F (fun _ _ a ns hl hO hS=>Zp7 hl hO hS) fun _ _ _ _ _ z=>z
def _root_.PySem.W.Fast.tw14598715356260435866:=PySem.W.boot_o_0
def _root_.PySem.W.Fast.te14598715356260435866:PySem.W.boot_o_0=PySem.W.Fast.tw14598715356260435866:=rfl
def _root_.PySem.W.Fast.tw10322843679517422317:=PySem.Challenge.pw_figurebook_k09_whole_sound_or_round
def _root_.PySem.W.Fast.te10322843679517422317:PySem.Challenge.pw_figurebook_k09_whole_sound_or_round=PySem.W.Fast.tw10322843679517422317:=rfl
def hq:Program:=view PySem.Challenge.pw_figurebook_k09_whole_sound_or_round [51]
def hloose:List Str:=(["_wall","FigureError","Twice","NoClass","Hollow","Round","Rule","Nothing","Bead","Or","By","Row","Bag","Choice","Ring","Named","term_text","factor_text","Book","rules_by_name","leasts_by_name","least_of","refuse_hollow_parts","has_hollow_part","leans_by_name"]:List Str)++(["leaning_names","leaning_parts","refuse_rounds","round_from","spoken_names","_law_cell","_law_words","_law_colour","_law_object","_law_least","_law_leasts","_law_leaning","_law_inside","_law_hollow_part","_law_goes_round","_law_verdict","_law_is_round","_law_asked","_law_wild_op","_law_wild","_law_told_right","_law_mix"]:List Str)
def hAs:List Addr:=[2,3,20,21,30,31,50,51,66,67,69,70,85,86,88,89,104,105,107,108,123,124,130,131,133,134,154,155,170,171,180,181,196,197,203,204,213,214,229,230,236,237,246,247,262,263,269,270,279,280,295,296,302,303,312,313,328,329,335,336,345,346,361,362,368,369,378,379,394,395,401,402,411,412,439,440,446,447,467,468,474,475,509,510,512,513,523,524,528,529,533,534,540,541,545,546,550,551,557,558,562,563,567,568,574,575,581,582,588,589,593,594,600,601,607,608,612,613,619,620,626,627,633,634,640,641,645,646,650,651,657,658,662,663,669,670,676,677,681,682,688,689,693,694]
def hTs:List Addr:=[]
abbrev hH:PySem.W.Hook:=kmHook hK hAs (fun _=>rfl) hTs
abbrev hXt:Shared->Bool:=fun s=>xlAt hq [] s&&recOk (RowW.records (PySem.W.OpenRow.toRowW (PySem.W.OpenLaw.row PySem.Challenge.rw_figurebook_k09_whole_sound_or_round))) s
def hL(w:World)(os:OsState):=Zke PySem.Challenge.pw_figurebook_k09_whole_sound_or_round w os 11 (some (.ref 6)) 40000 (fun s=>(PySem.W.staticsOk (importedModules PySem.Challenge.pw_figurebook_k09_whole_sound_or_round.main.body) (PySem.W.boot_heap w.params) s.heap&&PySem.W.namesBound PySem.Challenge.pw_figurebook_k09_whole_sound_or_round s.heap&&PySem.W.gensDone s&&PySem.W.laidKept (PySem.W.boot_heap w.params) s.heap,PySem.W.openSeen hq hloose (importedModules PySem.Challenge.pw_figurebook_k09_whole_sound_or_round.main.body) hXt true s,(hAs.map s.heap.get?,hTs.map s.heap.get?)))
def hR(w:World)(_:OsState):=some (true,PySem.W.openGood hq hloose,((hKl w.params).map fun p=>some p.2,hTs.map fun _=>some (tabObj #[])))
lay_quick My.hL My.hR L2.hBoot
def Zuz(w:World)(os:OsState):hL w os=hR w os:=(congrFun (congrFun PySem.W.Fast.te13887445390003487561 w) os).trans (Eq.trans (by kernel_rfl) (congrFun (congrFun PySem.W.Fast.te6075038599416009561 w) os).symm)
def Zpv(w:World):hBoot w=(true,11,some (.ref 6)):=(congrFun PySem.W.Fast.te16037136179764453472 w).trans (by kernel_rfl)
def h_left:PySem.W.LeftO PySem.Challenge.pw_figurebook_k09_whole_sound_or_round hq hloose hXt (PySem.W.Hook.obs hH) (PySem.W.Hook.val hH) 40000:=Zg0 (by rfl) (by decide) (fun s=>rfl) Zpv Zuz
end My
open PySem PySem.W PyProof.Rows
set_option maxRecDepth 100000 in
set_option maxHeartbeats 0 in
theorem PySem.Challenge.cw_figurebook_k09_whole_sound_or_round_holds : PySem.Challenge.rw_figurebook_k09_whole_sound_or_round.Holds := by
 w_on;o_law
 refine holds_open (q:=My.hq) (loose:=My.hloose) (Xt:=My.hXt) (XP:=XL My.hq []) (Yf:=Hook.obs My.hH) (Ya:=Hook.val My.hH) (YP:=Hook.says My.hH) (N:=40000) My.h_left (Hook.of My.hH) (Hook.keeps My.hH) (fun s e=>xl_of s (Yb0.mp e).1) XL.keeps (by rfl) (by rfl) (by rfl) (fun s e=>recFacts_of (Yb0.mp e).2) (by rfl) (by first | assumption | decide +kernel) (by decide +kernel) ⟨rfl,rfl,rfl,rfl,rfl,by decide +kernel⟩ ?hw ?hc
 case hw=>w_witness2
 k_fill
 refine My.walk (l:=PySem.Challenge.rw_figurebook_k09_whole_sound_or_round) rfl rfl (fun w h Y=>PySem.W.km_in_of Y) ?F
 case F =>
  intro w mg fa h KX G hmg
  have T:∀ P base,My.TX P w (My.hK w.params) mg base:=fun _ _=>⟨rfl,h,KX,G⟩
  cases hmg.symm.trans (My.TX.F_jh (T default default)).m
  exact ⟨_,fun s v=>.of_eq rfl,fun base _ _=>My.ok_jh (T _ base)⟩

