import PyProof.Rows.All
import Wide.All
import OpenK.AllK
import Wide.FinOn
import Lean
import PyProof.EqAt
import PyProof.EqKinds
import PyProof.TupleCall
import KE.KSortTup
import PyProof.TupleKey
import PyProof.DictRoadsH
import KE.KLam
import KE.KNestM
import KE.KDflt
import KE.KMinKey
import PyProof.Rows.FactsExc_ValueError
import PyProof.StationsW
import PyProof.RulesAs
import PyProof.InstStoreFacts
import PyProof.ExcArgsOwn
import KE.KIsAll
import PyProof.NsDelKeeps
import PyProof.FactsAll.NoneType_1
import PyProof.Rows.SetFrom
import PyProof.Rows.SortStr
import PyProof.Rows.SortWalk
import PyProof.Rows.EqNone
import KE.KItemsList
import PySem.Challenge.RW_figurebook_k07_refused_in_order
noncomputable section
open PySem.W (Frag InitBack Looks RowW any_some bind_fn callWith_K0 clsIn emptyDict findObj_own handedOut_of instIn instObj keq_eq keq_flat kia_tup kitAny kitx_own kmHook lookIn looks_clsIn looks_find looks_findIn looks_instIn looks_mroIn make_core makes_of methodCall_KW methodObj mroIn notCls oi_run osa_eq plainGet_of recOk set_plain specialIn tabObj takesIn view xlAt)
section
open PySem PySem.Spec PyProof.Rows
abbrev au:=Frag
def Yb:=@wpAny_bind
def Yc:=@List.length_map
def Yd:=@Heap.get?_push_of_some
def Ye:=@wpAny_pure
def Yg:=@List.getElem?_eq_some_iff
def Yh:=@List.getElem?_eq_getElem
def Yi:=@List.mem_of_getElem?
def Yj:=@List.getElem?_map
def Yk:=@Nat.le_refl
def Yl:=@Heap.get?_push_size
def Ym:=@Heap.lt_size
def Yn:=@List.mem_singleton
def Yo:=@Nat.ne_of_lt
def Yp:=@List.mem_cons
def Yq:=@List.length_append
def Yr:=@List.map_cons
def Ys:=@List.size_toArray
def Yt:=@List.map_append
def Yu:=@decide_eq_false
def Yv:=@List.mem_append
def Yw:=@Bool.false_ne_true
def Yx:=@beq_eq_false_iff_ne
def Yy:=@List.mem_append_right
def Yz:=@PySem.F.plainAttrs_list
def YA:=@Option.some.inj
def YB:=@Nat.le_trans
def YC:=@decide_eq_true
def YD:=@List.length_take
def YE:=@Heap.get?_update_self
def YF:=@Heap.get?_update_other
def YG:=@PassesOwn.never
def YH:=@wpAny_mono
def YI:=@List.getElem?_eq_none_iff
def YJ:=@Nat.lt_of_lt_of_le
def YK:=@Heap.size_push
def YL:=@List.mem_map
def YM:=@Option.map_eq_some_iff
def YN:=@List.not_mem_nil
def YO:=@wpAny_newObj_type
def YQ:=@Bool.and_eq_true
def YR:=@Nat.lt_succ_of_lt
def YS:=@PySem.F.slot_list_append
def YT:=@PySem.F.type_list_append
def YU:=@wpAny_holding
def YV:=@List.take_length
def YW:=@List.append_nil
def YX:=@Obj.data_mapFields
def YY:=@List.mem_append_left
def YZ:=@List.getElem?_append_right
def Y0:=@List.getD_eq_getElem?_getD
def Y1:=@wpAny_call_entry
def Y2:=@sizeLine_eq
def Y3:=@List.getElem?_eq_none
def Y4:=@wpAny_callSpecial?_slot
def Y5:=@PySem.W.kia_one
def Y6:=@List.getElem?_append_left
def Y7:=@Nat.lt_succ_self
def Y8:=@wpAny_field
def Y9:=@Nat.zero_le
def m8:=@List.take_of_length_le
def kM:=@Bool.false_eq_true
def fV:=@Nat.le_succ
def lE:=@Heap.SameBut.update
def m9:=@List.mem_cons_of_mem
def lF:=@wpAny_Call_Name_kw
def jV:=@List.nodup_cons
def lG:=@of_decide_eq_true
def uH:=@PyProof.Rows.slot_tuple_getitem
def m_:=@List.mem_cons_self
def p9:=@Calls.callWith_builtin
def jk:=@List.map_map
def p_:=@List.mem_iff_getElem
def fH:=@or_false
def qa:=@Around.under_plainId
def qb:=@PySem.mem_of_lookup
def fW:=@if_false
def nc:=@codeAny_builtin
def ng:=@Int.emod_nonneg
def rn:=@Array.getElem?_toList
def kN:=@codeAny_mono
def og:=@List.length_drop
def qc:=@Int.emod_lt_of_pos
def uI:=@Int.eq_ofNat_of_zero_le
def qd:=@List.length_range
def wm:=@PyProof.Rows.callWith_type1
def oh:=@wpAny_updateSeq
def lH:=@Nat.le_of_lt
def lI:=@Nat.ne_of_gt
def oj:=@List.mem_range
def uJ:=@PySem.F.slot_list_pop
def uK:=@PySem.F.type_list_pop
def wo:=@Array.getElem?_eq_getElem
def kO:=@wpAny_call
def wq:=@wpAny_loadPart'
def rp:=@wpAny_truthy_bool
def om:=@Nat.lt_irrefl
def oo:=@wpAny_standAt
def oq:=@plainId_quiet
def wt:=@List.length_eq_zero_iff
def rq:=@List.getElem_mem
def rz:=@wpAny_execs_nil
def rA:=@wpAny_passesOwn
def rB:=@Nat.min_eq_left
def rC:=@Nat.not_lt_zero
def zA:=@F.slot_tuple_iterator_next
def qe:=@wpAny_attempt
def uL:=@wpAny_pyIter_list
def zB:=@Option.isSome_iff_exists
def uM:=@Nat.le_of_not_lt
def zC:=@decide_eq_false_iff_not
def wu:=@PySem.W.callWith_K
def wx:=@wpAny_setField_rec
def wy:=@List.append_assoc
def wz:=@decide_eq_true_eq
def rD:=@wpAny_typeOf
def Ya4:=@List.map_nil
def uN:=@wpAny_seqItems
def zD:=@F.slot_enumerate_next
def zE:=@List.eq_nil_or_concat
def wA:=@List.all_eq_true
def qf:=@wpAny_rule
def wB:=@wpAny_isInstance
def rE:=@wpAny_letGo
def zF:=@List.filter_eq_self
def wC:=@Bool.eq_iff_iff
def Ci:=@List.getElem?_take_of_lt
def Cj:=@PySem.F.args_tuple_add_2
def zG:=@List.filter_append
def uO:=@Nat.sub_self
def rF:=@call_meets
def Ck:=@PySem.F.entry_tuple_add
def zH:=@wpAny_pyIter_enum
def Cm:=@List.getElem?_set_self
def Co:=@PySem.F.slot_tuple_add
def wD:=@List.map_take
def Cp:=@List.getElem?_set_ne
def zI:=@List.cons.injEq
def zJ:=@List.length_set
def zK:=@List.forIn_cons
def Cq:=@List.getElem?_range
def zL:=@List.drop_zero
def HY:=@F.args_tuple_iterator_next_1
def zM:=@wpAny_tryCatch
def wF:=@wpAny_of_eq
def HZ:=@F.entry_tuple_iterator_next
def Cr:=@Nat.add_sub_cancel
def Cs:=@wpAny_pyIter_tuple
def Ct:=@List.getElem?_drop
def H_:=@Calls.Name_function_global
def Ia:=@wpAny_letOwnedTupleGo_enum
def Cu:=@wpAny_assign_Name
def Cv:=@PySem.W.kitx_list
def Ib:=@List.drop_eq_getElem_cons
def wG:=@Walks.list
def Cw:=@wpAny_execs_cons
def zN:=@concat_meets
def Cz:=@Array.toList_inj
def Ic:=@PySem.F.slot_list_extend
def Ie:=@PySem.F.type_list_extend
def Ig:=@List.getElem?_replicate
def Ih:=@F.args_enumerate_next_1
def CA:=@List.of_mem_zip
def CB:=@Nat.min_le_left
def Ii:=@wpAny_pyNext_range_end
def Ij:=@wpAny_pyIter_rangeiter
def Ik:=@PyProof.noPylong_small
def Il:=@PySem.W.cellsFrom_some
def Im:=@subscriptTail_builtinR
def Io:=@F.entry_enumerate_next
def Ip:=@List.length_replicate
def CC:=@Bool.and_false
def Iq:=@builtinLookup_eq_fast
def Ir:=@List.mem_iff_getElem?
def Iu:=@List.dropLast_eq_take
def Iv:=@List.take_append_drop
def Iw:=@F.args_list_extend_2
def Iy:=@codeAny_extend_loopS
def Iz:=@Bool.and_eq_true_iff
def CD:=@wpAny_newList
def IA:=@F.entry_list_extend
def IB:=@List.map_congr_left
def IC:=@F.plain_extend_loop
def ID:=@Array.toList_append
def IE:=@SeqAt.EqAt.int_str
def IF:=@SeqAt.EqAt.str_int
def IG:=@wpAny_pyIter_range
def IH:=@List.mem_filterMap
def II:=@PySem.W.kitx_tuple
def IJ:=@Calls.spliced_cons
def IK:=@F.slot_list_extend
def CF:=@Nat.le_of_eq
def IL:=@PySem.W.kitx_dict
def IM:=@Calls.spliced_nil
def IP:=@wpAny_sequenceKey
def IQ:=@slot_list_getitem
def IS:=@List.ext_getElem?
def IU:=@F.plain_list_iadd
def IV:=@noFill_tuple_add
def IW:=@Nat.le_add_right
def IX:=@List.ext_getElem
def IY:=@beq_self_eq_true
def CG:=@wpAny_Name
end
set_option Elab.async false
set_option compiler.extract_closed false
set_option bootstrap.genMatcherCode false
set_option linter.all false
set_option maxRecDepth 100000
namespace L2
open PySem PySem.Spec PyProof.Rows
abbrev Key:=Sum Int Str
def IZ:Key->Value->Bool
 | .inl k,v=>Value.isInt k v
 | .inr x,v=>Value.isStrOf x v
def Pj(w:World):Key->Int
 | .inl k=>hashInt k
 | .inr x=>hashStr w x
def aL:∀ {k:Key} {v:Value},IZ k v=true->(∃i t,k=Sum.inl i/\v=Value.int i t)\/(∃x t,k=Sum.inr x/\v=Value.str x t)
 | .inl i,v,h=>by
  obtain⟨t,e⟩:=Value.isInt_shape (k:=i) (v:=v) h
  exact .inl ⟨i,t,rfl,e⟩
 | .inr x,v,h=>by
  obtain⟨t,e⟩:=Value.isStrOf_shape (x:=x) (v:=v) h
  exact .inr ⟨x,t,rfl,e⟩
def Pk(a b:Int):decide ((Sum.inl a:Key)=Sum.inl b)=(a==b):=by
 by_cases e:a=b
 .subst e;simp
 .have h:¬(Sum.inl a:Key)=Sum.inl b:=fun q=>e (Sum.inl.inj q);rw[Yu h];exact(Yx.mpr e).symm
def Pl(a b:Str):decide ((Sum.inr a:Key)=Sum.inr b)=decide (a=b):=by
 by_cases e:a=b
 .subst e;simp
 .have h:¬(Sum.inr a:Key)=Sum.inr b:=fun q=>e (Sum.inr.inj q);rw[Yu h,Yu e]
def Pm(a:Int)(b:Str):decide ((Sum.inl a:Key)=Sum.inr b)=false:=Yu (fun q=>nomatch q)
def Pn(a:Str)(b:Int):decide ((Sum.inr a:Key)=Sum.inl b)=false:=Yu (fun q=>nomatch q)
def CH(prog:Program)(w:World):PySem.KeyKind prog w Key where
 is:=IZ
 hash:=Pj w
 inj := fun v a b ha hb=>by
  rcases aL ha with⟨i,t,rfl,rfl⟩|⟨x,t,rfl,rfl⟩
  .rcases aL hb with⟨j,u,rfl,e⟩|⟨y,u,rfl,e⟩
   .injection e with e1 _;rw[e1]
   .exact nomatch e
  .rcases aL hb with⟨j,u,rfl,e⟩|⟨y,u,rfl,e⟩
   .exact nomatch e
   .injection e with e1 _;rw[e1]
 byValue:=fun k v h=>by
  rcases aL h with⟨i,t,rfl,rfl⟩|⟨x,t,rfl,rfl⟩<;>rfl
 pyHash:=fun hv h=>by
  rcases aL hv with⟨i,t,rfl,rfl⟩|⟨x,t,rfl,rfl⟩
  .exact wpAny_pyHash_int h
  .exact wpAny_pyHash_str h
 eqBool:=fun hu hv h=>by
  rcases aL hu with⟨i,t,rfl,rfl⟩|⟨x,t,rfl,rfl⟩
  .rcases aL hv with⟨j,u,rfl,rfl⟩|⟨y,u,rfl,rfl⟩
   .rw[Pk]at h;exact wpAny_eqBool_int h
   .rw[Pm]at h;exact IE i t y u _ _ _ _ h
  .rcases aL hv with⟨j,u,rfl,rfl⟩|⟨y,u,rfl,rfl⟩
   .rw[Pn]at h;exact IF x t j u _ _ _ _ h
   .rw[Pl]at h;exact wpAny_eqBool_str h
 «strs»:=fun k x t v h=>by
  rcases aL h with⟨i,u,rfl,e⟩|⟨y,u,rfl,e⟩
  .exact nomatch e
  .injection e with e1 _
   subst e1
   cases v<;>rfl
inductive V where
 | ay|bl (b:Bool)|int (i:Int)|str (x:Str)|jl (b:Array UInt8)|rG (b:UInt64)|ref (a:Addr)|ty (n:String)
 deriving DecidableEq
def aX:V->Value->Prop
 | .ay,u=>u=Value.none
 | .bl b,u=>u=Value.bool b
 | .int i,u=>∃t,u=Value.int i t
 | .str x,u=>∃t,u=Value.str x t
 | .jl b,u=>∃t,u=Value.bytes b t
 | .rG b,u=>∃t,u=Value.float b t
 | .ref a,u=>u=Value.ref a
 | .ty n,u=>u=Value.type n
abbrev ZU:List V->List Value->Prop:=Paired aX
def ZU.length(r:ZU xs us):xs.length=us.length:=Paired.length r
theorem ZU.get:∀ {xs:List V} {us:List Value} {i:Nat} {x:V},ZU xs us->xs[i]? = some x->∃u,us[i]? = some u/\aX x u
 | _,_,_,_,.nil,e=>by simp at e
 | _,_,0,_,.cons r _,e=>by simp at e;subst e;exact⟨_,rfl,r⟩
 | _, _,i+1,x,.cons _ t,e=>by
  obtain⟨u,h1,h2⟩:=ZU.get (i:=i) (x:=x) t (by simpa using e)
  exact⟨u,by simpa using h1,h2⟩
theorem ZU.set(r:aX x u):∀ {xs:List V} {us:List Value} (i:Nat),ZU xs us->ZU (xs.set i x) (us.set i u)
 | _,_,_,.nil=>.nil
 | _,_,0,.cons _ t=>.cons r t
 | _,_,i+1,.cons q t=>.cons q (ZU.set r i t)
theorem ZU.append:∀ {xs ys:List V} {us ws:List Value},ZU xs us->ZU ys ws->ZU (xs++ys) (us++ws)
 | _,_,_,_,.nil,s=>s
 | _,_,_,_,.cons r t,s=>.cons r (ZU.append t s)
theorem ZU.take:∀ {xs:List V} {us:List Value} (n:Nat),ZU xs us->ZU (xs.take n) (us.take n)
 | _,_,0,_=>.nil
 | _,_,_+1,.nil=>.nil
 | _,_,n+1,.cons r t=>.cons r (ZU.take n t)
theorem ZU.drop:∀ {xs:List V} {us:List Value} (n:Nat),ZU xs us->ZU (xs.drop n) (us.drop n)
 | _,_,0,r=>r
 | _,_,_+1,.nil=>.nil
 | _,_,n+1,.cons _ t=>ZU.drop n t
theorem ZU.none_of:∀ {xs:List V} {us:List Value} {i:Nat},ZU xs us->xs[i]? = none->us[i]? = none:=fun {xs us i} r e=>by
 have h1:=r.length
 have h2:xs.length<=i:=YI.mp e
 exact YI.mpr (by lia)
def iI:Option V->Option Value->Prop
 | some v,some u=>aX v u
 | none,none=>True
 | _,_=>False
def KV{κ:Type}:List (κ×V)->List (κ×Value)->Prop:=Paired fun(p:κ×V)(q:κ×Value)=>p.1=q.1/\aX p.2 q.2
def kV:Key->V
 | .inl i=>.int i
 | .inr x=>.str x
inductive HO where
 | lst (xs:List V)
 | tup (xs:List V)
 | dK (aq:List (Key×V))|dT (aq:List (List Key×V))
 | set (S:Int->Bool) (n:Nat)
 | ins (C dx:Addr) (fs:List (Str×V))
 | own (x:Addr)
 | xd (fs:List (Str×V))
 | met (f x:Addr)
 | CI (lo hi:Int)
 | gN (o:Obj) (u:HO)
 | dZ (ps:Array Value)
 | ext (φ:Heap->Prop)
abbrev Hp:=Addr->Option HO
def upd(H:Hp)(a:Addr)(o:HO):Hp:=fun b=>if b=a then some o else H b
def Zs:upd H a o a=some o:=by unfold upd;rw[if_pos rfl]
def Zn(h:b≠a):upd H a o b=H b:=by unfold upd;rw[if_neg h]
def kP{H:Hp}(h:H a=some o)(h':H b=some u)(d:o≠u):a≠b:=by
 intro e;subst e;rw[h]at h';exact d (YA h')
def ZY{H:Hp}(h:H a=some o)(h':H b=none):a≠b:=by
 intro e;subst e;rw[h]at h';cases h'
section
variable(P:Program)(w:World)
def dD(H:Hp)(h:Heap)(a:Addr):HO->Prop
 | .lst xs=>xs.length<=sizeLine/\∃(its:List Value)(n:Nat),ZU xs its/\h.get? a=some { cls:=.type "list",data:=.seq its.toArray n }
 | .tup xs=>xs.length<=sizeLine/\∃its:List Value,ZU xs its/\IsTup h a its.toArray
 | .dK aq=>aq.length<=sizeLine/\(a==sysModules)=false/\∃vs,KV aq vs/\h.DictOf (CH P w) a vs
 | .dT aq=>aq.length<=sizeLine/\(a==sysModules)=false/\∃xs:List (List Key×Addr×Value),
   Paired (fun(p:List Key×V)(q:List Key×Addr×Value)=>p.1=q.1/\H q.2.1=some (.tup (p.1.map kV))/\aX p.2 q.2.2) aq xs /\
   ∃o es ep,h.get? a=some o/\o.ExactDict/\o.data=.dict es ep/\es.toList=xs.map (entryOfKey (tupleKind (CH P w)))/\(xs.map (·.1)).Nodup
 | .set S n=>h.SetOf (intKind P w) a S n
 | .ins C dx fs=>H dx=some (.own a)/\fs.length<=1000/\dx≠a/\h.get? a=some (instObj C dx) /\
   ∃mA,h.Ns1 dx mA/\(∀f,iI (fs.lookup f) (mA f))/\PySem.Within mA (fs.map (·.1))
 | .own _=>∃o,h.get? a=some o
 | .xd fs=>∃mA,h.Ns1 a mA/\∀f,iI (fs.lookup f) (mA f)
 | .CI lo hi=>∃t u v,h.get? a=some { cls:=.type "range",data:=.fields #[.int lo t,.int hi u,.int 1 v] }
 | .gN o u=>h.get? a=some o/\dD H h a u
 | .dZ ps=>h.get? a=some { cls:=.none,data:=.fields ps }
 | .met f x=>h.get? a=some (methodObj (.ref f) (.ref x))
 | .ext φ=>φ h/\(∃o,h.get? a=some o)/\∀h1 h2:Heap,φ h1->(∀o,h1.get? a=some o->h2.get? a=some o)->φ h2
def cQ(H:Hp)(h:Heap):Prop:=∀a o,H a=some o->dD P w H h a o
end
section
variable{P:Program}{w:World}{H H':Hp}{h h':Heap}{a:Addr}{o:HO}
def dD.lt(x:dD P w H h a o):a<h.objs.size:=by
 cases o with
 | lst xs=>obtain⟨_,_,_,_,e⟩:=x;exact Ym e
 | tup xs=>obtain⟨_,_,_,p⟩:=x;exact p.lt
 | dK aq=>obtain⟨_,_,_,_,o,_,_,e,_⟩:=x;exact Ym e
 | dT aq=>obtain⟨_,_,_,_,o,_,_,e,_⟩:=x;exact Ym e
 | set S n=>obtain⟨o,_,_,_,e,_⟩:=x;exact Ym e
 | ins C dx fs=>obtain⟨_,_,_,e,_⟩:=x;exact Ym e
 | own y=>obtain⟨_,e⟩:=x;exact Ym e
 | xd fs=>obtain⟨_,⟨_,_,_,e,_⟩,_⟩:=x;exact Ym e
 | CI lo hi=>obtain⟨_,_,_,e⟩:=x;exact Ym e
 | gN ob u=>obtain⟨e,_⟩:=x;exact Ym e
 | dZ ps=>exact Ym (show h.get? a=some _ from x)
 | met f y=>exact Ym (show h.get? a=some _ from x)
 | ext φ=>obtain⟨_,⟨_,e⟩,_⟩:=x;exact Ym e
theorem Paired.wH:∀ {wI:List α} {wJ:List β},Paired F wI wJ->(∀a b,F a b->G a b)->Paired G wI wJ
 | _,_,.nil,_=>.nil
 | _,_,.cons r t,f=>.cons (f _ _ r) (Paired.wH t f)
def dD.dh(x:dD P w H h a o)(k:∀b u,(b=a\/H b=some (.own a))->h.get? b=some u->h'.get? b=some u)(ho:∀b,H b=some (.own a)->H' b=some (.own a))(ht:∀b xs,H b=some (.tup xs)->H' b=some (.tup xs)):dD P w H' h' a o:=by
 induction o with
 | lst xs=>obtain⟨z,its,n,r,e⟩:=x;exact⟨z,its,n,r,k _ _ (.inl rfl) e⟩
 | tup xs=>obtain⟨z,its,r,ob,e,c⟩:=x;exact⟨z,its,r,ob,k _ _ (.inl rfl) e,c⟩
 | dK aq=>obtain⟨z,y,vs,r,ob,es,ep,e,c⟩:=x;exact⟨z,y,vs,r,ob,es,ep,k _ _ (.inl rfl) e,c⟩
 | dT aq =>
  obtain⟨z,y,xs,r,ob,es,ep,e,c⟩:=x;exact⟨z,y,xs,Paired.wH r fun p q z=>⟨z.1,ht _ _ z.2.1,z.2.2⟩,ob,es,ep,k _ _ (.inl rfl) e,c⟩
 | set S n=>obtain⟨ob,es,ep,t,e,c⟩:=x;exact⟨ob,es,ep,t,k _ _ (.inl rfl) e,c⟩
 | ins C dx fs =>
  obtain⟨d,z,ne,e,mA,⟨od,es,ep,e2,c⟩,r⟩:=x;exact⟨ho _ d,z,ne,k _ _ (.inl rfl) e,mA,⟨od,es,ep,k _ _ (.inr d) e2,c⟩,r⟩
 | own y=>obtain⟨ob,e⟩:=x;exact⟨ob,k _ _ (.inl rfl) e⟩
 | xd fs=>obtain⟨mA,⟨od,es,ep,e,c⟩,r⟩:=x;exact⟨mA,⟨od,es,ep,k _ _ (.inl rfl) e,c⟩,r⟩
 | CI lo hi=>obtain⟨t,u,v,e⟩:=x;exact⟨t,u,v,k _ _ (.inl rfl) e⟩
 | gN ob u ih=>obtain⟨e,q⟩:=x;exact⟨k _ _ (.inl rfl) e,ih q⟩
 | dZ ps =>
  have e:h.get? a=some { cls:=.none,data:=.fields ps }:=x;show h'.get? a=some { cls:=.none,data:=.fields ps };exact k a _ (.inl rfl) e
 | met f y =>
  have e:h.get? a=some (methodObj (.ref f) (.ref y)):=x;show h'.get? a=some (methodObj (.ref f) (.ref y));exact k a _ (.inl rfl) e
 | ext φ=>obtain⟨p,⟨o,e⟩,st⟩:=x;exact⟨st _ _ p fun o q=>k _ _ (.inl rfl) q,⟨o,k _ _ (.inl rfl) e⟩,st⟩
def cQ.lt(x:cQ P w H h)(e:H a=some o):a<h.objs.size:=(x a o e).lt
def cQ.fresh(x:cQ P w H h)(e:h.objs.size<=a):H a=none:=by
 cases q:H a with
 | none=>rfl
 | some u=>exact absurd (YJ (x.lt q) e) (om _)
def cQ.kept(x:cQ P w H h)(k:∀b u,h.get? b=some u->h'.get? b=some u):cQ P w H h':=fun a o e =>
 (x a o e).dh (fun b u _ q=>k b u q) (fun _ q=>q) fun _ _ q=>q
def cQ.laid(x:cQ P w H h)(k:∀b u,h.get? b=some u->h'.get? b=some u)(hp:h.objs.size<=a)(new:dD P w (upd H a o) h' a o):cQ P w (upd H a o) h':=fun b u e=>by
 have hn:=x.fresh hp
 by_cases hb:b=a
 .subst hb;rw[Zs]at e;cases e;exact new
 .rw[Zn hb]at e
  exact(x b u e).dh (fun c v _ q=>k c v q) (fun c q=>by rw[Zn (ZY q hn)];exact q) fun c xs q=>by rw[Zn (ZY q hn)];exact q
end
def Rd(H:Hp)(a:Addr)(u:HO):Prop:=H a=some u\/∃o,H a=some (.gN o u)
def Rd.ok(r:Rd H a u)(x:cQ P w H h):dD P w H h a u:=by
 rcases r with r|⟨o,r⟩
 .exact x a u r
 .obtain⟨_,q⟩:=x a _ r;exact q
def zO:Option HO->Prop
 | some (.lst _)=>True
 | some (.dK _)=>True
 | some (.dT _)=>True
 | some (.set _ _)=>True
 | some (.ins _ _ _)=>True
 | some (.ext _)=>True
 | _=>False
section
variable{P:Program}{w:World}{H:Hp}{h h':Heap}{x e:Addr}{o':HO}
def cQ.write(ok:cQ P w H h)(mu:zO (H x))(he:e=x\/H e=some (.own x))(k:∀b u,b≠e->h.get? b=some u->h'.get? b=some u)(uP:∃u,h'.get? e=some u)(new:dD P w (upd H x o') h' x o'):cQ P w (upd H x o') h':=fun b u q=>by
 have wK:∀c y,H c=some (.own y)->c≠x:=fun c y r z=>by subst z;rw[r]at mu;exact mu
 have CJ:∀c xs,H c=some (.tup xs)->c≠x:=fun c xs r z=>by subst z;rw[r]at mu;exact mu
 by_cases hb:b=x
 .subst hb;rw[Zs]at q;cases q;exact new
 .rw[Zn hb]at q
  by_cases jW:b=e
  .have q':H b=some (.own x):=by
    rcases he with z|z
    .exact absurd (jW.trans z) hb
    .rw[jW];exact z
   rw[q]at q';cases q';obtain⟨v,hv⟩:=uP;exact⟨v,by rw[jW];exact hv⟩
  .refine(ok b u q).dh (fun c v hc r=>k c v ?_ r) (fun c r=>by rw[Zn (wK c b r)];exact r) fun c xs r=>by rw[Zn (CJ c xs r)];exact r
   rcases hc with rfl|hc
   .exact jW
   .rintro rfl;rcases he with z|z
    .exact wK c b hc z
    .rw[hc]at z;cases z;exact hb rfl
end
structure Un (fs ex:List Addr) (H H':Hp) (h h':Heap):Prop where
 keep:∀b o,h.get? b=some o->H b=none->b∉fs->b∉ex->h'.get? b=some o
 slot:∀b o,h.get? b=some o->H b=none->b∈fs->b∉ex->∃sl,h'.get? b=some { o with slots:=sl }
 free:∀b o,h.get? b=some o->H b=none->b∉ex->H' b=none
 there:∀b o,h.get? b=some o->b∉ex->∃o',h'.get? b=some o'
 bM:∀b xs,H b=some (.tup xs)->H' b=some (.tup xs)
 cy:∀b o u,H b=some (.gN o u)->H' b=some (.gN o u)
 dI:∀b ps,H b=some (.dZ ps)->∃more,H' b=some (.dZ (ps++more))
section
variable{fs Po ex Z':List Addr}{H H1 H2:Hp}{h h1 h2 h':Heap}{a x e:Addr}{o:HO}
def Un.any(u:Un fs ex H H1 h h1)(q:h.get? b=some ob)(n:H b=none)(hx:b∉ex):∃sl,h1.get? b=some { ob with slots:=sl }:=by
 by_cases hb:b∈fs
 .exact u.slot b ob q n hb hx
 .exact⟨ob.slots,u.keep b ob q n hb hx⟩
def Un.kept(k:∀b u,h.get? b=some u->h'.get? b=some u):Un fs ex H H h h' :=
 ⟨fun b ob q _ _ _=>k b ob q,fun b ob q _ _ _=>⟨ob.slots,k b ob q⟩,fun _ _ _ n _=>n,fun b ob q _=>⟨ob,k b ob q⟩,fun _ _ q=>q,fun _ _ _ q=>q,fun _ ps q=>⟨#[],by rw[q];simp⟩⟩
def Un.refl:Un fs ex H H h h:=Un.kept fun _ _ q=>q
def Un.laid(k:∀b u,h.get? b=some u->h'.get? b=some u)(hp:h.objs.size<=a)(hn:H a=none):Un fs ex H (upd H a o) h h' where
 keep:=fun b u q _ _ _=>k b u q
 slot:=fun b u q _ _ _=>⟨u.slots,k b u q⟩
 free:=fun b u q n _=>by rw[Zn (Yo (YJ (Ym q) hp))];exact n
 there:=fun b u q _=>⟨u,k b u q⟩
 bM:=fun b xs q=>by rw[Zn (ZY q hn)];exact q
 cy:=fun b u xs q=>by rw[Zn (ZY q hn)];exact q
 dI:=fun b ps q=>⟨#[],by rw[Zn (ZY q hn),q];simp⟩
def Un.write(mu:zO (H x))(he:e=x\/H e=some (.own x))(k:∀b u,b≠e->h.get? b=some u->h'.get? b=some u)(uP:∃u,h'.get? e=some u):Un fs ex H (upd H x o) h h':=by
 have hx:∀b,H b=none->b≠x:=fun b n z=>by subst z;rw[n]at mu;exact mu
 have hb:∀b,H b=none->b≠e:=fun b n z=>by
  subst z;rcases he with r|r
  .exact hx b n r
  .rw[n]at r;cases r
 have hm:∀b u,H b=some u->¬zO (some u)->b≠x:=fun b u q nm z=>by subst z;rw[q]at mu;exact nm mu
 refine⟨fun b u q n _ _=>k b u (hb b n) q,fun b u q n _ _=>⟨u.slots,k b u (hb b n) q⟩,fun b u q n _=>by rw[Zn (hx b n)];exact n,fun b u q _=>?_,
  fun b xs q=>by rw[Zn (hm b _ q fun z=>z)];exact q,fun b u xs q=>by rw[Zn (hm b _ q fun z=>z)];exact q,fun b ps q=>⟨#[],by rw[Zn (hm b _ q fun z=>z),q];simp⟩⟩
 by_cases jW:b=e
 .subst jW;exact uP
 .exact⟨u,k b u jW q⟩
end
def zP(h:Heap)(H:Hp):List Addr:=(List.range h.objs.size).filter fun a=>(H a).isSome
def ot(h:Heap)(H:Hp):Heap:=PySem.W.hideAll h (zP h H)
def Pp(h:Heap)(H:Hp):(ot h H).objs.size=h.objs.size:=PySem.W.hideAll_size _ _
def Pq(e:h.get? b=some o)(n:H b=none):(ot h H).get? b=some o :=
 PySem.W.hideAll_get _ e fun hm=>by
  have q:(H b).isSome=true:=(List.mem_filter.mp hm).2
  rw[n]at q;simp at q
def Pr(e:(ot h H).get? b=some o):h.get? b=some o/\H b=none:=by
 have e':h.get? b=some o:=PySem.W.of_hideAll (zP h H) e;refine⟨e',?_⟩;cases q:H b with
 | none=>rfl
 | some x =>
  have hm:b∈zP h H:=List.mem_filter.mpr ⟨oj.mpr (Ym e'),by simp[q]⟩;have z:(ot h H).get? b=none:=PySem.W.hideAll_none (zP h H) hm;rw[z]at e;cases e
def Pt(g h:Heap)(L:Addr):List (Addr×Obj):=(List.range h.objs.size).filterMap fun a=>if a=L\/(g.get? a).isSome=true then none else(h.get? a).map fun o=>(a,o)
def rest(g h:Heap)(L d:Addr):List (Addr×Obj):=(Pt g h L).filter fun p=>decide (p.1≠d)
structure Mod (K:au) (mg:Str->Option Value) (base:Heap):Prop where
 rH:K.In base
 glob:base.Ns mainGlobals mg
 blt:∃mb,base.Ns builtinsNs mb/\∀x:Str,x≠"__name__"->mb x=bootBuiltins x
 nolimit:base.NoLimit
structure Cx where
 prog:Program
 w : World
 K : au
 mg:Str->Option Value
 base:Heap
 A : Around
 N : List Str
 bB:Shared
 iR:Hp
 env:Env
 outer:List Env
 stack:List Env
 ex:List Addr
 fn:Str->Bool
 calm:Bool
 pn:List (Addr×Obj)
 xe:Value->Shared->Prop
def bx(l:List Env):List Addr:=l.filterMap (·.frame)
abbrev Cx.fs(X:Cx):List Addr:=bx X.outer
def zQ(sc:Scope)(x:Str):Prop:=sc.names.lookup x=some .local\/sc.names.lookup x=some .cell\/sc.names.lookup x=some .free
def Loc(sc:Scope)(x:Str):Prop:=sc.names.lookup x=some .local\/sc.names.lookup x=some .cell
def Pu(env:Env)(h:Heap)(m:Str->Option Value)(x:Str)(u:Value):Prop :=
 (env.kindOf x=some .local/\m x=some u)\/((env.kindOf x=some .cell\/env.kindOf x=some .free)/\∃c,env.cells.lookup x=some c/\h.IsCell c (some u))
structure Cx.Ok (X:Cx):Prop where
 mod:Mod X.K X.mg X.base
 kind:X.env.scope.kind=.function
 glob:X.env.globals=mainGlobals
 blt:X.env.builtins=builtinsNs
 above:X.bB.heap.objs.size<=X.env.locals
 inj:∀x y c,X.env.cells.lookup x=some c->X.env.cells.lookup y=some c->x=y
 has:∀x,(X.env.kindOf x=some .cell\/X.env.kindOf x=some .free)->∃c,X.env.cells.lookup x=some c
 wL:∀x c,X.fn x=true->X.env.cells.lookup x=some c->X.bB.heap.objs.size<=c
 hd:X.calm=true->X.A.handled=none
 frames:X.A.frames=some X.stack
 zR:X.stack=X.outer\/(X.stack=X.env::X.outer/\X.env.frame=some X.env.locals)
 I_:∀b∈X.ex,b≠X.env.locals/\∀x c,X.env.cells.lookup x=some c->c≠b
 bs:∀b o,X.base.get? b=some o->X.bB.heap.get? b=some o/\X.iR b=none
 ou:X.base.objs.size<=X.bB.heap.objs.size
 lJ:∀b o,X.base.get? b=some o->b∉X.ex
 oy:∀b∈X.ex,b∉X.fs
 dJ:X.bB.heap.FunFrames X.base X.outer
 rJ:∀b∈X.fs,X.iR b=none
structure Inv (X:Cx) (pins:List (Addr×Obj)) (σ:List (Option V)) (H:Hp) (s:Shared):Prop where
 ok:X.Ok
 os:s.os=X.bB.os
 bare:AllBare s.gens
 base:Un X.fs X.ex X.iR H X.bB.heap s.heap
 loc:∃m,s.heap.Ns X.env.locals m/\∀(i:Nat)(x:Str)(v:V),X.N[i]? = some x->σ[i]? = some (some v)->zQ X.env.scope x->∃u,aX v u/\Pu X.env s.heap m x u
 cell:∀x c,X.env.cells.lookup x=some c->∃v,s.heap.IsCell c v
 free:H X.env.locals=none
 bz:∀x c,X.env.cells.lookup x=some c->H c=none
 pin:∀p∈X.pn++pins,s.heap.get? p.1=some p.2/\H p.1=none/\p.1≠X.env.locals/\p.1∉X.fs/\∀v,p.2.data≠.cell v
 aE:cQ X.prog X.w H s.heap
 len:σ.length=X.N.length
section
variable{X:Cx}{pins:List (Addr×Obj)}{σ:List (Option V)}{H H':Hp}{s:Shared}{h':Heap}
def Cx.Ok.CK(ok:X.Ok)(e:X.base.get? b=some o):b∉X.fs:=fun hb=>by
 have:=(ok.dJ.mem hb).1
 rw[e]at this;cases this
def Inv.bs(I:Inv X pins σ H s):∀b o,X.base.get? b=some o->s.heap.get? b=some o/\H b=none:=fun b o e =>
 ⟨I.base.keep b o (I.ok.bs b o e).1 (I.ok.bs b o e).2 (I.ok.CK e) (I.ok.lJ b o e),I.base.free b o (I.ok.bs b o e).1 (I.ok.bs b o e).2 (I.ok.lJ b o e)⟩
def Inv.bk(I:Inv X pins σ H s):∀b o,X.base.get? b=some o->s.heap.get? b=some o:=fun b o e=>(I.bs b o e).1
def Inv.mod(I:Inv X pins σ H s):Mod X.K X.mg X.base:=I.ok.mod
def Inv.br(I:Inv X pins σ H s):X.K.In s.heap:=I.ok.mod.rH.keeps I.bk
def Inv.lt(I:Inv X pins σ H s):X.env.locals<s.heap.objs.size:=let⟨_,hn,_⟩:=I.loc;hn.lt
def Inv.sz(I:Inv X pins σ H s):X.bB.heap.objs.size<=s.heap.objs.size:=YB I.ok.above (lH I.lt)
def Inv.CL(I:Inv X pins σ H s)(h:s.heap.objs.size<=a):a∉X.fs:=fun hb=>by
 obtain⟨_,o,ho,_⟩:=I.ok.dJ.mem hb
 exact absurd (YJ (Ym ho) (YB I.sz h)) (om _)
def Inv.lK(I:Inv X pins σ H s):∀x c,X.env.cells.lookup x=some c->c≠X.env.locals:=fun x c e z=>by
 obtain⟨v,o,ho,hd⟩:=I.cell x c e
 obtain⟨m,⟨o',es,ep,gO,fb,_⟩,_⟩:=I.loc
 rw[z,gO]at ho;cases ho;rw[fb]at hd;cases hd
def Inv.dJ(I:Inv X pins σ H s):s.heap.FunFrames X.base X.outer:=by
 have all:∀(l:List Env),(∀b∈bx l,b∈X.fs)->X.bB.heap.FunFrames X.base l->s.heap.FunFrames X.base l:=by
  intro l;induction l with
  | nil=>intro _ _;trivial
  | cons env r ih =>
   intro hs hl;obtain⟨hk,⟨L,o,hf,hn,ho,hd⟩,hr⟩:=hl;have hL:L∈X.fs:=hs L (by unfold bx;rw[List.filterMap_cons,hf];exact m_);obtain⟨sl,e⟩:=I.base.slot L o ho (I.ok.rJ L hL) hL fun z=>I.ok.oy L z hL;exact⟨hk,⟨L,_,hf,hn,e,hd⟩,ih (fun b hb=>hs b (by unfold bx;rw[List.filterMap_cons,hf];exact m9 _ hb)) hr⟩
 exact all X.outer (fun _ hb=>hb) I.ok.dJ
def Inv.stack(I:Inv X pins σ H s):s.heap.FunFrames X.base X.stack:=by
 rcases I.ok.zR with e|⟨e,hf⟩
 .rw[e];exact I.dJ
 .rw[e];obtain⟨m,hn,_⟩:=I.loc;refine .cons (by rw[I.ok.kind];decide) hf hn ?_ I.dJ;exact Heap.get?_none_of_le (YB I.ok.ou I.ok.above)
def Inv.di(I:Inv X pins σ H s):∀b∈bx X.stack,b∈X.env.locals::X.fs:=fun b hb=>by
 rcases I.ok.zR with e|⟨e,hf⟩
 .rw[e]at hb;exact m9 _ hb
 .rw[e]at hb
  unfold bx at hb
  rw[List.filterMap_cons,hf]at hb
  exact hb
def Inv.fX(I:Inv X pins σ H s):∀b∈bx X.stack,H b=none:=fun b hb=>by
 rcases Yp.mp (I.di b hb)with e|hb
 .rw[e];exact I.free
 .obtain⟨_,o,ho,_⟩:=I.ok.dJ.mem hb
  exact I.base.free b o ho (I.ok.rJ b hb) fun z=>I.ok.oy b z hb
def Inv.step{ch:List Addr}(I:Inv X pins σ H s)(eW:∀b∈ch,(b∈X.ex\/X.bB.heap.objs.size<=b)/\b≠X.env.locals/\(∀x c,X.env.cells.lookup x=some c->c≠b)/\∀p∈X.pn++pins,p.1≠b)(keep:∀b o,b≠X.env.locals->b∉X.fs->b∉ch->s.heap.get? b=some o->H b=none->h'.get? b=some o)(slot:∀b o,b≠X.env.locals->b∈X.fs->b∉ch->s.heap.get? b=some o->H b=none->∃sl,h'.get? b=some { o with slots:=sl })(free:∀b o,b∉ch->s.heap.get? b=some o->H b=none->H' b=none)(there:∀b o,b∉ch->s.heap.get? b=some o->∃o',h'.get? b=some o')(bM:∀b xs,H b=some (.tup xs)->H' b=some (.tup xs))(cy:∀b o u,H b=some (.gN o u)->H' b=some (.gN o u))(dI:∀b ps,H b=some (.dZ ps)->∃more,H' b=some (.dZ (ps++more)))(ns:∀m,s.heap.Ns X.env.locals m->h'.Ns X.env.locals m)(aE:cQ X.prog X.w H' h')(hg:AllBare g'):
  Inv X pins σ H' { s with heap:=h',gens:=g',drawn:=d',toks:=t' }:=by
 have Ja:∀b o,X.bB.heap.get? b=some o->b≠X.env.locals:=fun b o e=>Yo (YJ (Ym e) I.ok.above);have zS:∀b o,X.bB.heap.get? b=some o->b∉X.ex->b∉ch:=fun b o e hx hb=>by
  rcases(eW b hb).1 with z|z
  .exact hx z
  .exact absurd (YJ (Ym e) z) (om _)
 have cellK:∀x c,X.env.cells.lookup x=some c->∀v,s.heap.IsCell c v->h'.IsCell c v:=fun x c e v aD=>by
  obtain⟨o,ho,hd⟩:=aD;have gF:c∉ch:=fun z=>(eW c z).2.2.1 x c e rfl;by_cases hc:c∈X.fs
  .obtain⟨sl,q⟩:=slot c o (I.lK x c e) hc gF ho (I.bz x c e);exact⟨_,q,hd⟩
  .exact⟨o,keep c o (I.lK x c e) hc gF ho (I.bz x c e),hd⟩
 refine⟨I.ok,I.os,hg,⟨fun b o e n hb hx=>keep b o (Ja b o e) hb (zS b o e hx) (I.base.keep b o e n hb hx) (I.base.free b o e n hx),fun b o e n hb hx=>?_,fun b o e n hx=>?_,fun b o e hx=>?_,fun b xs e=>bM b xs (I.base.bM b xs e),fun b o xs e=>cy b o xs (I.base.cy b o xs e),fun b ps e=>?_⟩,?_,fun x c e=>?_,?_,fun x c e=>?_,fun p hp=>?_,aE,I.len⟩
 .obtain⟨sl,e1⟩:=I.base.slot b o e n hb hx;obtain⟨CM,e2⟩:=slot b _ (Ja b o e) hb (zS b o e hx) e1 (I.base.free b o e n hx);exact⟨CM,e2⟩
 .obtain⟨o',e1⟩:=I.base.there b o e hx;exact free b o' (zS b o e hx) e1 (I.base.free b o e n hx)
 .obtain⟨o',e1⟩:=I.base.there b o e hx;exact there b o' (zS b o e hx) e1
 .obtain⟨m1,e1⟩:=I.base.dI b ps e;obtain⟨m2,e2⟩:=dI b _ e1;exact⟨m1++m2,by rw[e2,Array.append_assoc]⟩
 .obtain⟨m,hn,hl⟩:=I.loc;refine⟨m,ns m hn,fun i x v e1 e2 e3=>?_⟩;obtain⟨u,r,l⟩:=hl i x v e1 e2 e3;refine⟨u,r,?_⟩;rcases l with l|⟨k,c,e,z⟩
  .exact .inl l
  .exact .inr ⟨k,c,e,cellK x c e _ z⟩
 .obtain⟨v,z⟩:=I.cell x c e;exact⟨v,cellK x c e v z⟩
 .obtain⟨m,⟨o,_,_,ho,_⟩,_⟩:=I.loc;exact free _ o (fun z=>(eW _ z).2.1 rfl) ho I.free
 .obtain⟨v,o,ho,hd⟩:=I.cell x c e;exact free c o (fun z=>(eW c z).2.2.1 x c e rfl) ho (I.bz x c e)
 .obtain⟨e,n,ne,nf,d⟩:=I.pin p hp;have gF:p.1∉ch:=fun z=>(eW p.1 z).2.2.2 p hp rfl;exact⟨keep p.1 p.2 ne nf gF e n,free p.1 p.2 gF e n,ne,nf,d⟩
def Inv.un(I:Inv X pins σ H s)(u:Un X.fs [] H H' s.heap h')(aE:cQ X.prog X.w H' h'):Inv X pins σ H' { s with heap:=h',toks:=t' }:=by
 obtain⟨m,⟨o,es,ep,ho,r⟩,_⟩:=id I.loc;obtain⟨sl,hL⟩:=u.any ho I.free (by simp);exact I.step (g':=s.gens) (d':=s.drawn) (ch:=[]) (fun _ z=>nomatch z) (fun b o _ hb _ e n=>u.keep b o e n hb (by simp)) (fun b o _ hb _ e n=>u.slot b o e n hb (by simp)) (fun b o _ e n=>u.free b o e n (by simp)) (fun b o _ e=>u.there b o e (by simp)) u.bM u.cy u.dI (fun m' hm=>by
  obtain⟨o',es',aF,gO,r'⟩:=hm;rw[ho]at gO;cases gO;exact⟨_,es',aF,hL,r'⟩) aE I.bare
def Inv.call(I:Inv X pins σ H s)(u:Un (bx X.stack) ch H H' s.heap h')(aE:cQ X.prog X.w H' h')(hg:AllBare g')(eW:∀b∈ch,(b∈X.ex\/X.bB.heap.objs.size<=b)/\b≠X.env.locals/\(∀x c,X.env.cells.lookup x=some c->c≠b)/\∀p∈X.pn++pins,p.1≠b):
  Inv X pins σ H' { s with heap:=h',gens:=g',drawn:=d',toks:=t' }:=by
 obtain⟨m,⟨o,es,ep,ho,r⟩,_⟩:=id I.loc;obtain⟨sl,hL⟩:=u.any ho I.free fun z=>(eW _ z).2.1 rfl;exact I.step (ch:=ch) eW (fun b o hL hb hc e n=>u.keep b o e n (fun z=>(Yp.mp (I.di b z)).elim hL hb) hc) (fun b o _ _ hc e n=>u.any e n hc) (fun b o hc e n=>u.free b o e n hc) (fun b o hc e=>u.there b o e hc) u.bM u.cy u.dI (fun m' hm=>by
  obtain⟨o',es',aF,gO,r'⟩:=hm;rw[ho]at gO;cases gO;exact⟨_,es',aF,hL,r'⟩) aE hg
def Inv.turned(I:Inv X pins σ H s)(k:∀b o,b≠it->s.heap.get? b=some o->h'.get? b=some o)(hn:H it=none)(hL:it≠X.env.locals)(h1:it∈X.ex\/X.bB.heap.objs.size<=it)(h2:∀x c,X.env.cells.lookup x=some c->c≠it)(h3:∀p∈X.pn++pins,p.1≠it):Inv X pins σ H { s with heap:=h',toks:=t' }:=by
 have Jb:∀b u,H b=some u->b≠it:=fun b u e z=>by rw[z,hn]at e;cases e
 refine I.step (g':=s.gens) (d':=s.drawn) (ch:=[it]) (fun b hb=>?_) (fun b o _ _ hc e _=>k b o (fun z=>hc (by simp[z])) e) (fun b o _ _ hc e _=>⟨o.slots,k b o (fun z=>hc (by simp[z])) e⟩) (fun _ _ _ _ n=>n)
  (fun b o hc e=>⟨o,k b o (fun z=>hc (by simp[z])) e⟩) (fun _ _ e=>e) (fun _ _ _ e=>e) (fun b ps e=>⟨#[],by rw[e];simp⟩) (fun m hm=>?_) (fun b u e=>?_) I.bare
 .have e:b=it:=by simpa using hb
  subst e;exact⟨h1,hL,h2,h3⟩
 .obtain⟨o,es,ep,ho,r⟩:=hm;exact⟨o,es,ep,k _ o (Ne.symm hL) ho,r⟩
 .refine(I.aE b u e).dh (fun c v hc q=>k c v ?_ q) (fun _ q=>q) fun _ _ q=>q;rcases hc with z|z
  .rw[z];exact Jb b u e
  .exact Jb c _ z
def Inv.tok(I:Inv X pins σ H s)(t:Nat):Inv X pins σ H { s with toks:=t }:=I.un (h':=s.heap) (t':=t) Un.refl I.aE
def Inv.kept(I:Inv X pins σ H s)(k:∀b u,s.heap.get? b=some u->h'.get? b=some u):Inv X pins σ H { s with heap:=h',toks:=t' }:=I.un (Un.kept k) (I.aE.kept k)
def Inv.laid(I:Inv X pins σ H s)(k:∀b u,s.heap.get? b=some u->h'.get? b=some u)(hp:s.heap.objs.size<=a)(new:dD X.prog X.w (upd H a o) h' a o):
  Inv X pins σ (upd H a o) { s with heap:=h',toks:=t' }:=I.un (Un.laid k hp (I.aE.fresh hp)) (I.aE.laid k hp new)
def Inv.write(I:Inv X pins σ H s)(mu:zO (H x))(he:e=x\/H e=some (.own x))(k:∀b u,b≠e->s.heap.get? b=some u->h'.get? b=some u)(uP:∃u,h'.get? e=some u)(new:dD X.prog X.w (upd H x o) h' x o):Inv X pins σ (upd H x o) { s with heap:=h',toks:=t' }:=I.un (Un.write mu he k uP) (I.aE.write mu he k uP new)
def Inv.fY(I:Inv X pins σ H s)(h:∀p∈wM,s.heap.get? p.1=some p.2/\H p.1=none/\p.1≠X.env.locals/\p.1∉X.fs/\∀v,p.2.data≠.cell v):Inv X wM σ H s :=
 ⟨I.ok,I.os,I.bare,I.base,I.loc,I.cell,I.free,I.bz,fun p hp=>(Yv.mp hp).elim (fun z=>I.pin p (YY _ z)) (h p),I.aE,I.len⟩
def Z7{N:List Str}(hN:N.Nodup){i j:Nat}(a:N[i]? = some x)(b:N[j]? = some x):i=j:=by
 obtain⟨h1,e1⟩:=Yg.mp a;obtain⟨h2,e2⟩:=Yg.mp b;exact(List.getElem_inj hN).mp (e1.trans e2.symm)
def CN(I:Inv X pins σ H s)(hN:X.N.Nodup)(hi:X.N[i]? = some x)(hx:Loc X.env.scope x)(r:aX v u)(h:∀s',Inv X pins (σ.set i (some v)) H s'->(∃a,Heap.SameBut a s.heap s'.heap/\(a=X.env.locals\/X.env.cells.lookup x=some a))->Q () s')(hf:X.fn x=true\/X.env.scope.names.lookup x=some .local:=by first|exact .inl rfl|exact .inr rfl|assumption):wpAny M A (storeName X.env x u) Q E s:=by
 obtain⟨m,hn,hl⟩:=id I.loc;have rK:(X.env.scope.kind==.class||(X.env.scope.kind==.module&&X.env.locals != X.env.globals))=false:=by rw[I.ok.kind];rfl
 have oz:i<σ.length:=by rw[I.len];exact(Yg.mp hi).1
 have lK:=I.lK;have tracked:∀ {a:Addr} {h':Heap},(∃o,s.heap.get? a=some o/\H a=none)->Heap.SameBut a s.heap h'->cQ X.prog X.w H h':=fun {a h'} ha hs b ob e=>by
  obtain⟨_,_,qg⟩:=ha;refine(I.aE b ob e).dh (fun c w' hc q=>(hs.2 c ?_).trans q) (fun _ q=>q) fun _ _ q=>q;rintro rfl;rcases hc with rfl|hc
  .rw[qg]at e;cases e
  .rw[qg]at hc;cases hc
 rcases hx with hk|hk
 .refine wpAny_storeName_local hk hn (fun h' uQ hs=>?_) rK;obtain⟨oL,_,_,nh,_⟩:=id hn;refine h _ ⟨I.ok,I.os,I.bare,⟨fun b o e n hb hx=>(hs.2 b (Yo (YJ (Ym e) I.ok.above))).trans (I.base.keep b o e n hb hx),fun b o e n hb hx=>?_,I.base.free,fun b o e hx=>?_,I.base.bM,I.base.cy,I.base.dI⟩,⟨_,uQ,fun j y v' e1 e2 e3=>?_⟩,fun y c e=>?_,I.free,I.bz,fun p hp=>?_,tracked ⟨oL,nh,I.free⟩ hs,by simpa using I.len⟩ ⟨_,hs,.inl rfl⟩
  .obtain⟨sl,e1⟩:=I.base.slot b o e n hb hx;exact⟨sl,(hs.2 b (Yo (YJ (Ym e) I.ok.above))).trans e1⟩
  .obtain⟨o',e1⟩:=I.base.there b o e hx;exact⟨o',(hs.2 b (Yo (YJ (Ym e) I.ok.above))).trans e1⟩
  .by_cases hj:j=i
   .subst hj;rw[hi]at e1;cases e1;rw[Cm oz]at e2;cases e2;exact⟨u,r,.inl ⟨hk,by simp⟩⟩
   .rw[Cp (Ne.symm hj)]at e2;obtain⟨u',r',q⟩:=hl j y v' e1 e2 e3;refine⟨u',r',?_⟩;rcases q with⟨k,e⟩|⟨k,c,e,z⟩
    .refine .inl ⟨k,?_⟩;have:y≠x:=fun e=>hj (Z7 hN e1 (e▸hi));simp[this,e]
    .exact .inr ⟨k,c,e,z.sameBut hs (lK y c e)⟩
  .obtain⟨w',z⟩:=I.cell y c e;exact⟨w',z.sameBut hs (lK y c e)⟩
  .obtain⟨e,n,ne,nf,d⟩:=I.pin p hp;exact⟨(hs.2 p.1 ne).trans e,n,ne,nf,d⟩
 .have CO:X.fn x=true:=by
   rcases hf with z|z
   .exact z
   .rw[z]at hk;cases hk
  obtain⟨c,hc⟩:=I.ok.has x (.inl hk);obtain⟨w',z⟩:=I.cell x c hc;refine wpAny_storeName_cell I.ok.kind hk hc z (fun h' CP hs=>?_);obtain⟨oc,Jc,CQ⟩:=id z;refine h { s with heap:=h' } ⟨I.ok,I.os,I.bare,⟨fun b o e n hb hx=>(hs.2 b (Yo (YJ (Ym e) (I.ok.wL x c CO hc)))).trans (I.base.keep b o e n hb hx),fun b o e n hb hx=>?_,I.base.free,fun b o e hx=>?_,I.base.bM,I.base.cy,I.base.dI⟩,⟨m,hn.sameBut hs (Ne.symm (lK x c hc)),fun j y v' e1 e2 e3=>?_⟩,fun y c' e=>?_,I.free,I.bz,fun p hp=>?_,tracked ⟨oc,Jc,I.bz x c hc⟩ hs,by simpa using I.len⟩ ⟨c,hs,.inr hc⟩
  .obtain⟨sl,e1⟩:=I.base.slot b o e n hb hx;exact⟨sl,(hs.2 b (Yo (YJ (Ym e) (I.ok.wL x c CO hc)))).trans e1⟩
  .obtain⟨o',e1⟩:=I.base.there b o e hx;exact⟨o',(hs.2 b (Yo (YJ (Ym e) (I.ok.wL x c CO hc)))).trans e1⟩
  .by_cases hj:j=i
   .subst hj;rw[hi]at e1;cases e1;rw[Cm oz]at e2;cases e2;exact⟨u,r,.inr ⟨.inl hk,c,hc,CP⟩⟩
   .rw[Cp (Ne.symm hj)]at e2;obtain⟨u',r',q⟩:=hl j y v' e1 e2 e3;refine⟨u',r',?_⟩;rcases q with q|⟨k,c',e,z'⟩
    .exact .inl q
    .refine .inr ⟨k,c',e,z'.sameBut hs ?_⟩;rintro rfl;exact hj (Z7 hN e1 (I.ok.inj _ _ _ e hc▸hi))
  .by_cases kQ:c'=c
   .subst kQ;exact⟨_,CP⟩
   .obtain⟨w2,z2⟩:=I.cell y c' e;exact⟨w2,z2.sameBut hs kQ⟩
  .obtain⟨e,n,ne,nf,d⟩:=I.pin p hp;refine⟨(hs.2 p.1 ?_).trans e,n,ne,nf,d⟩;intro q;rw[q,Jc]at e;have q':oc=p.2:=YA e;exact d w' (by rw[<- q'];exact CQ)
def zT(I:Inv X pins σ H s)(hN:X.N.Nodup)(hi:X.N[i]? = some x)(hx:Loc X.env.scope x)(r:aX v u)(h:∀s',Inv X pins (σ.set i (some v)) H s'->Q () s')(hf:X.fn x=true\/X.env.scope.names.lookup x=some .local:=by first|exact .inl rfl|exact .inr rfl|assumption):wpAny M A (storeName X.env x u) Q E s :=
 CN I hN hi hx r (fun s' I' _=>h s' I') hf
def Inv.jm(I:Inv X pins σ H s)(ho:s'.os=s.os)(u:Un (bx X.stack) ch H H' s.heap s'.heap)(aE:cQ X.prog X.w H' s'.heap)(hg:AllBare s'.gens)(eW:∀b∈ch,(b∈X.ex\/X.bB.heap.objs.size<=b)/\b≠X.env.locals/\(∀x c,X.env.cells.lookup x=some c->c≠b)/\∀p∈X.pn++pins,p.1≠b):Inv X pins σ H' s':=by
 obtain⟨h',g',d',t',o'⟩:=s';have e:o'=s.os:=ho;subst e;exact I.call (g':=g') (t':=t') (d':=d') u aE hg eW
end
abbrev XK:=Value->Option Addr->Hp->Prop
abbrev St:=List (Option V)
abbrev VK:=V->Hp->Prop
abbrev TE:=St->Hp->VK->Prop
abbrev TT:=St->Hp->(Bool->Hp->Prop)->Prop
abbrev TA:=St->Hp->(List V->Hp->Prop)->Prop
structure kR where
 nx:St->Hp->Prop
 rt:VK
 bk:St->Hp->Prop:=fun _ _=>False
 ct:St->Hp->Prop:=fun _ _=>False
abbrev TS:=kR->St->Hp->Prop
def EP(X:Cx)(pins:List (Addr×Obj))(σ:St)(Q:VK)(u:Value)(s':Shared):Prop:=∃v H',Inv X pins σ H' s'/\aX v u/\Q v H'
def TP(X:Cx)(pins:List (Addr×Obj))(σ:St)(Q:Bool->Hp->Prop)(b:Bool)(s':Shared):Prop:=∃H',Inv X pins σ H' s'/\Q b H'
def AP(X:Cx)(pins:List (Addr×Obj))(σ:St)(Q:List V->Hp->Prop)(us:List Value)(s':Shared):Prop:=∃vs H',Inv X pins σ H' s'/\ZU vs us/\Q vs H'
def SP(X:Cx)(pins:List (Addr×Obj))(D:kR)(f:Flow)(s':Shared):Prop :=
 match f with
 | .next=>∃aS H',Inv X pins aS H' s'/\D.nx aS H'
 | .brk=>∃aS H',Inv X pins aS H' s'/\D.bk aS H'
 | .cont=>∃aS H',Inv X pins aS H' s'/\D.ct aS H'
 | .ret u=>∃v aS H',Inv X pins aS H' s'/\aX v u/\D.rt v H'
def PE(X:Cx)(e:Expr)(t:TE):Prop :=
 ∀(pins:List (Addr×Obj))(s:Shared)(σ:St)(H:Hp)(Q:VK),Inv X pins σ H s->t σ H Q->wpAny (model X.prog X.w) X.A (eval e X.env) (EP X pins σ Q) X.xe s
def PT(X:Cx)(e:Expr)(t:TT):Prop :=
 ∀(pins:List (Addr×Obj))(s:Shared)(σ:St)(H:Hp)(Q:Bool->Hp->Prop),Inv X pins σ H s->t σ H Q->wpAny (model X.prog X.w) X.A (isTrue e X.env (eval e X.env)) (TP X pins σ Q) X.xe s
def PW(X:Cx)(e:Expr)(t:TT):Prop :=
 ∀(whole:Sem Value)(pins:List (Addr×Obj))(s:Shared)(σ:St)(H:Hp)(Q:Bool->Hp->Prop),Inv X pins σ H s->t σ H Q->wpAny (model X.prog X.w) X.A (isTrue e X.env whole) (TP X pins σ Q) X.xe s
def PW.pt(h:PW X e t):PT X e t:=h _
def PA(X:Cx)(es:List Expr)(t:TA):Prop :=
 ∀(pos:Pos)(pins:List (Addr×Obj))(s:Shared)(σ:St)(H:Hp)(Q:List V->Hp->Prop),Inv X pins σ H s->t σ H Q->wpAny (model X.prog X.w) X.A (spliced (backTo pos (starEach es X.env))) (AP X pins σ Q) X.xe s
def PS(X:Cx)(st:Stmt)(t:TS):Prop :=
 ∀(pins:List (Addr×Obj))(s:Shared)(σ:St)(H:Hp)(D:kR),Inv X pins σ H s->t D σ H->wpAny (model X.prog X.w) X.A (exec st X.env) (SP X pins D) X.xe s
def d0(X:Cx)(st:List Stmt)(t:TS):Prop :=
 ∀(pins:List (Addr×Obj))(s:Shared)(σ:St)(H:Hp)(D:kR),Inv X pins σ H s->t D σ H->wpAny (model X.prog X.w) X.A (execs st X.env) (SP X pins D) X.xe s
def aK(h:wpAny M A t Q E s)(hQ:∀a s,Q a s->Q' a s):wpAny M A t Q' E s:=YH h hQ fun _ _ x=>x
section
variable{X:Cx}
def lL(i:Nat):TE:=fun σ H Q=>∃v,σ[i]? = some (some v)/\Q v H
def tC(v:V):TE:=fun _ H Q=>Q v H
def Pw(hN:X.N[i]? = some x)(hv:zQ X.env.scope x)(hd:(x==("__debug__":Str))=false:=by decide)(gP:(x==("__classdict__":Str))=false:=by decide):PE X (.Name x pos) (lL i):=by
 intro pins s σ H Q I h;obtain⟨v,e,h⟩:=h;obtain⟨m,hn,hl⟩:=I.loc;obtain⟨u,r,l⟩:=hl i x v hN e hv;have fin:EP X pins σ Q u s:=⟨v,H,I,r,h⟩;rcases l with⟨hk,hm⟩|⟨hk,c,hc,jn⟩
 .exact CG (wpAny_loadName_local I.ok.kind hk hn hm fin) hd
 .rcases hk with hk|hk
  .exact CG (wpAny_loadName_cell I.ok.kind hk hc jn fin) hd
  .exact CG (wpAny_loadName_free I.ok.kind hk hc jn fin gP) hd
def Zg:PE X (.Constant (.int i) j pos) (tC (.int i)):=fun _ _ _ H _ I h=>wpAny_Constant_int ⟨.int i,H,I.tok _,⟨_,rfl⟩,h⟩
def kS:PE X (.Constant (.bool b) j pos) (tC (.bl b)):=fun _ _ _ H _ I h=>Constant_bool ⟨.bl b,H,I,rfl,h⟩
def oA:PE X (.Constant .none j pos) (tC .ay):=fun _ _ _ H _ I h=>Constant_none ⟨.ay,H,I,rfl,h⟩
def Zk:PE X (.Constant (.str x) j pos) (tC (.str x)):=fun _ _ _ H _ I h=>Calls.Constant_str ⟨.str x,H,I.tok _,⟨_,rfl⟩,h⟩
def Gl(X:Cx)(x:Str):Prop:=X.env.kindOf x=some .globalImplicit
def lM(I:Inv X pins σ H s)(hg:Gl X x)(hm:X.mg x=some u)(h:Q u s)(hd:(x==("__debug__":Str))=false:=by decide):wpAny (model X.prog X.w) X.A (eval (.Name x pos) X.env) Q E s :=
 H_ I.ok.kind hg (Calls.loadGlobal_global (by rw[I.ok.glob];exact I.mod.glob.keeps I.bk) hm h) hd
def oB(I:Inv X pins σ H s)(hg:Gl X x)(hm:X.mg x=none)(hv:bootBuiltins x=some u)(h:Q u s)(hn:x≠"__name__":=by decide)(hd:(x==("__debug__":Str))=false:=by decide):wpAny (model X.prog X.w) X.A (eval (.Name x pos) X.env) Q E s:=by
 obtain⟨mb,h1,h2⟩:=I.mod.blt;exact H_ I.ok.kind hg (Calls.loadGlobal_builtin (by rw[I.ok.glob];exact I.mod.glob.keeps I.bk) hm (by rw[I.ok.blt];exact h1.keeps I.bk) ((h2 x hn).trans hv) h) hd
def Z9(hg:Gl X x)(hm:X.mg x=some u)(r:aX v u)(hd:(x==("__debug__":Str))=false:=by decide):PE X (.Name x pos) (tC v) :=
 fun _ _ _ H _ I h=>lM I hg hm ⟨v,H,I,r,h⟩ hd
def Px(hg:Gl X x)(hm:X.mg x=none)(hv:bootBuiltins x=some u)(r:aX v u)(hn:x≠"__name__":=by decide)(hd:(x==("__debug__":Str))=false:=by decide):PE X (.Name x pos) (tC v) :=
 fun _ _ _ H _ I h=>oB I hg hm hv ⟨v,H,I,r,h⟩ hn hd
variable{a b:Expr}{ta tb:TE}{pos:Pos}
def tB(t:TE):TT:=fun σ H Q=>t σ H fun x H1=>∃c,x=.bl c/\Q c H1
def gQ(h:PE X e t)(he:∀whole,isTrue e X.env whole=(do let v <- whole;standAt e.pos;holding [v] (truthy v)):=by intro _;rfl):PT X e (tB t):=by
 intro pins s σ H Q I hw;refine isTrue_plain (aK (h pins s σ H _ I hw) fun v s1 ⟨x,H1,I1,r1,q1⟩=>?_) (he _);obtain⟨d,rfl,q⟩:=q1;cases r1;exact rp ⟨H1,I1,q⟩
variable{tA zU:TT}{rest:List Expr}
def Jd(t u:TT):TT:=fun σ H Q=>t σ H fun c H1=>if c=true then u σ H1 Q else Q false H1
def Je(t u:TT):TT:=fun σ H Q=>t σ H fun c H1=>if c=true then Q true H1 else u σ H1 Q
def Jf(t:TT):TT:=fun σ H Q=>t σ H fun c H1=>Q (!c) H1
def oC(ha:PT X a tA):PW X (.BoolOp .And [a] pos) tA:=by
 intro wh pins s σ H Q I h;refine isTrue_and (aK (ha pins s σ H Q I h) fun c s1 e=>?_);cases c with
 | true=>exact isTrue_and_nil e
 | false=>exact e
def wN(ha:PT X a tA):PW X (.BoolOp .Or [a] pos) tA:=by
 intro wh pins s σ H Q I h;refine isTrue_or (aK (ha pins s σ H Q I h) fun c s1 e=>?_);cases c with
 | false=>exact isTrue_or_nil e
 | true=>exact e
def ni(ha:PT X a tA)(hb:PW X (.BoolOp .And (b::rest) pos) zU):PW X (.BoolOp .And (a::b::rest) pos) (Jd tA zU):=by
 intro wh pins s σ H Q I h;refine isTrue_and (aK (ha pins s σ H _ I h) fun c s1 aH=>?_);obtain⟨H1,I1,q1⟩:=aH;cases c with
 | true=>exact hb wh pins s1 σ H1 Q I1 q1
 | false=>exact⟨H1,I1,q1⟩
def uR(ha:PT X a tA)(hb:PW X (.BoolOp .Or (b::rest) pos) zU):PW X (.BoolOp .Or (a::b::rest) pos) (Je tA zU):=by
 intro wh pins s σ H Q I h;refine isTrue_or (aK (ha pins s σ H _ I h) fun c s1 aH=>?_);obtain⟨H1,I1,q1⟩:=aH;cases c with
 | true=>exact⟨H1,I1,q1⟩
 | false=>exact hb wh pins s1 σ H1 Q I1 q1
def zV(ha:PT X a tA):PT X (.UnaryOp .Not a pos) (Jf tA):=by
 intro pins s σ H Q I h;exact isTrue_not (ha pins s σ H (fun c H1=>Q (!c) H1) I h)
def Jg(ta tb:TE):TE:=fun σ H Q=>ta σ H fun x H1=>∃c,x=.bl c/\if c=true then tb σ H1 Q else Q (.bl false) H1
def Jh(ta tb:TE):TE:=fun σ H Q=>ta σ H fun x H1=>∃c,x=.bl c/\if c=true then Q (.bl true) H1 else tb σ H1 Q
def Ji(h:PE X a t):PE X (.BoolOp op [a] pos) t:=fun pins s σ H Q I hw=>BoolOp_one (h pins s σ H Q I hw)
def Py(ha:PE X a ta)(hb:PE X (.BoolOp .And (b::rest) pos) tb):PE X (.BoolOp .And (a::b::rest) pos) (Jg ta tb):=by
 intro pins s σ H Q I h;refine BoolOp_and (aK (ha pins s σ H _ I h) fun v s1 aH=>?_);obtain⟨x,H1,I1,r1,q1⟩:=aH;obtain⟨c,rfl,q1⟩:=q1;cases r1;refine rp ?_;cases c with
 | true=>exact hb pins s1 σ H1 Q I1 q1
 | false=>exact⟨.bl false,H1,I1,rfl,q1⟩
def Pz(ha:PE X a ta)(hb:PE X (.BoolOp .Or (b::rest) pos) tb):PE X (.BoolOp .Or (a::b::rest) pos) (Jh ta tb):=by
 intro pins s σ H Q I h;refine BoolOp_or (aK (ha pins s σ H _ I h) fun v s1 aH=>?_);obtain⟨x,H1,I1,r1,q1⟩:=aH;obtain⟨c,rfl,q1⟩:=q1;cases r1;refine rp ?_;cases c with
 | false=>exact hb pins s1 σ H1 Q I1 q1
 | true=>exact⟨.bl true,H1,I1,rfl,q1⟩
end
def aZ(K:au)(H:Hp)(a:Addr)(xs:List V):Prop :=
 Rd H a (.lst xs) \/
  ∃(o:Obj)(its:Array Value)(n:Nat),K.lookup a=some o/\o.cls=.type "list"/\o.dict=none/\o.data=.seq its n/\its.size<=sizeLine/\ZU xs its.toList
def bo(K:au)(H:Hp)(a:Addr)(xs:List V):Prop :=
 Rd H a (.tup xs) \/
  ∃(o:Obj)(its:Array Value)(n:Nat),K.lookup a=some o/\o.cls=.type "tuple"/\o.data=.seq its n/\its.size<=sizeLine/\ZU xs its.toList
def PC:Value->Option V
 | .none=>some .ay
 | .bool b=>some (.bl b)
 | .int i _=>some (.int i)
 | .str x _=>some (.str x)
 | .bytes b _=>some (.jl b)
 | .float b _=>some (.rG b)
 | .ref a=>some (.ref a)
 | .type n=>some (.ty n)
 | _=>none
def aX.abs(r:aX x u):PC u=some x:=by
 cases x with
 | ay=>cases r;rfl
 | bl _=>cases r;rfl
 | int _=>obtain⟨t,rfl⟩:=r;rfl
 | str _=>obtain⟨t,rfl⟩:=r;rfl
 | jl _=>obtain⟨t,rfl⟩:=r;rfl
 | rG _=>obtain⟨t,rfl⟩:=r;rfl
 | ref _=>cases r;rfl
 | ty _=>cases r;rfl
def aX.inj(r:aX x u)(q:aX y u):x=y:=YA (r.abs.symm.trans q.abs)
theorem ZU.inj:∀ {xs ys:List V} {us:List Value},ZU xs us->ZU ys us->xs=ys
 | _,_,_,.nil,.nil=>rfl
 | _,_,_,.cons r t,.cons r' t'=>by rw[r.inj r',ZU.inj t t']
section
variable{X:Cx}{pins:List (Addr×Obj)}{σ:St}{H:Hp}{s:Shared}{a:Addr}{xs ys:List V}
def aZ.of{K:au}(h:H a=some (.lst xs)):aZ K H a xs:=.inl (.inl h)
def bo.of{K:au}(h:H a=some (.tup xs)):bo K H a xs:=.inl (.inl h)
theorem Inv.list(I:Inv X pins σ H s)(h:aZ X.K H a xs):∃its:List Value,ZU xs its/\PlainL s.heap a its.toArray/\xs.length<=sizeLine:=by
 rcases h with h|⟨o,its,n,hk,hc,hd,hs,hz,r⟩
 .obtain⟨z,its,n,r,e⟩:=h.ok I.aE;exact⟨its,r,⟨_,n,e,rfl,rfl,rfl⟩,z⟩
 .refine⟨its.toList,r,⟨o,n,I.br a o hk,hc,hd,by simpa using hs⟩,?_⟩;have e:=r.length;simp only[Array.length_toList]at e;lia
def Inv.tuple(I:Inv X pins σ H s)(h:bo X.K H a xs):∃its:List Value,ZU xs its/\IsTup s.heap a its.toArray/\xs.length<=sizeLine:=by
 rcases h with h|⟨o,its,n,hk,hc,hs,hz,r⟩
 .obtain⟨z,its,r,p⟩:=h.ok I.aE;exact⟨its,r,p,z⟩
 .refine⟨its.toList,r,⟨o,I.br a o hk,hc,n,by simpa using hs⟩,?_⟩;have e:=r.length;simp only[Array.length_toList]at e;lia
def Inv.gR(I:Inv X pins σ H s)(h:aZ X.K H a xs)(h':aZ X.K H a ys):xs=ys:=by
 obtain⟨its,r,⟨o,n,e,_,_,d⟩,_⟩:=I.list h;obtain⟨its',r',⟨o',n',e',_,_,d'⟩,_⟩:=I.list h';rw[e]at e';cases e';rw[d]at d';injection d' with d1 _;have:its=its':=by simpa using congrArg Array.toList d1
 subst this;exact r.inj r'
def Inv.fJ(I:Inv X pins σ H s)(h:bo X.K H a xs)(h':bo X.K H a ys):xs=ys:=by
 obtain⟨its,r,⟨o,e,_,n,d⟩,_⟩:=I.tuple h;obtain⟨its',r',⟨o',e',_,n',d'⟩,_⟩:=I.tuple h';rw[e]at e';cases e';rw[d]at d';injection d' with d1 _;have:its=its':=by simpa using congrArg Array.toList d1
 subst this;exact r.inj r'
end
abbrev Cx.bN(X:Cx)(E:Value->Shared->Prop):Cx:={ X with xe:=E }
abbrev Cx.nj(X:Cx):Cx:=X.bN fun _ _=>False
def Cx.Ok.bN{X:Cx}(ok:X.Ok)(E:Value->Shared->Prop):(X.bN E).Ok :=
 ⟨ok.mod,ok.kind,ok.glob,ok.blt,ok.above,ok.inj,ok.has,ok.wL,ok.hd,ok.frames,ok.zR,ok.I_,ok.bs,ok.ou,ok.lJ,ok.oy,ok.dJ,ok.rJ⟩
def Cx.Ok.ba{X:Cx}(ok:(X.bN E).Ok):X.Ok :=
 ⟨ok.mod,ok.kind,ok.glob,ok.blt,ok.above,ok.inj,ok.has,ok.wL,ok.hd,ok.frames,ok.zR,ok.I_,ok.bs,ok.ou,ok.lJ,ok.oy,ok.dJ,ok.rJ⟩
section
variable{X:Cx}{pins:List (Addr×Obj)}{σ:St}{H:Hp}{s:Shared}{E:Value->Shared->Prop}
def Inv.bN(I:Inv X pins σ H s)(E:Value->Shared->Prop):Inv (X.bN E) pins σ H s:=⟨I.ok.bN E,I.os,I.bare,I.base,I.loc,I.cell,I.free,I.bz,I.pin,I.aE,I.len⟩
def Inv.ba(I:Inv (X.bN E) pins σ H s):Inv X pins σ H s:=⟨I.ok.ba,I.os,I.bare,I.base,I.loc,I.cell,I.free,I.bz,I.pin,I.aE,I.len⟩
def SP.ba(h:SP (X.bN E) pins D f s'):SP X pins D f s':=by
 cases f with
 | next=>obtain⟨aS,H',I,q⟩:=h;exact⟨aS,H',I.ba,q⟩
 | brk=>obtain⟨aS,H',I,q⟩:=h;exact⟨aS,H',I.ba,q⟩
 | cont=>obtain⟨aS,H',I,q⟩:=h;exact⟨aS,H',I.ba,q⟩
 | ret u=>obtain⟨v,aS,H',I,r,q⟩:=h;exact⟨v,aS,H',I.ba,r,q⟩
def d0.nj{st:List Stmt}(h:d0 X.nj st t):d0 X st t:=fun pins s σ H D I hw =>
 YH (h pins s σ H D (I.bN _) hw) (fun _ _ q=>q.ba) fun _ _ z=>False.elim z
end
section
variable{X:Cx}{st:Stmt}{rest:List Stmt}{t u:TS}{e:Expr}{te:TE}{pos:Pos}
def Jj:TS:=fun D σ H=>D.nx σ H
def zW(t u:TS):TS:=fun D σ H=>t { D with nx:=u D } σ H
def Zo:d0 X [] Jj:=fun _ _ σ H _ I h=>rz ⟨σ,H,I,h⟩
def Zc(h1:PS X st t)(h2:d0 X rest u):d0 X (st::rest) (zW t u):=by
 intro pins s σ H D I h;refine Cw (aK (h1 pins s σ H { D with nx:=u D } I h) fun f s1 q=>?_);cases f with
 | next =>
  obtain⟨aS,H',I',q⟩:=q;exact h2 pins s1 aS H' D I' q
 | ret v=>exact q
 | brk=>exact q
 | cont=>exact q
def Ze(h1:PS X st t):d0 X [st] t:=by
 intro pins s σ H D I h;refine Cw (aK (h1 pins s σ H D I h) fun f s1 q=>?_);cases f with
 | next=>exact rz q
 | ret v=>exact q
 | brk=>exact q
 | cont=>exact q
def Inv.quiet(I:Inv X pins σ H s):interactive X.env=false:=by simp[interactive,I.ok.kind]
def zX(te:TE):TS:=fun D σ H=>te σ H fun _ H1=>D.nx σ H1
def ZP(he:PE X e te)(hs:swapsWith e none pos.line X.env=pure false:=by rfl):PS X (.Expr e pos) (zX te):=by
 intro pins s σ H D I h;exact wpAny_Expr_any (aK (he pins s σ H _ I h) fun v s1 ⟨x,H1,I1,r1,q1⟩=>⟨σ,H1,I1,q1⟩) I.quiet hs
def Jk(te:TE):TS:=fun D σ H=>te σ H D.rt
def Zp(he:PE X e te):PS X (.Return (some e) pos) (Jk te):=by
 intro pins s σ H D I h;exact wpAny_Return_some (aK (he pins s σ H _ I h) fun v s1 ⟨x,H1,I1,r1,q1⟩=>⟨x,σ,H1,I1,r1,q1⟩)
def CS(c:TT)(t u:TS):TS:=fun D σ H=>c σ H fun b H1=>if b=true then t D σ H1 else u D σ H1
def ZG(hc:PT X c tc)(ha:d0 X a t)(hb:d0 X b u):PS X (.If c a b pos) (CS tc t u):=by
 intro pins s σ H D I h;refine wpAny_If (aK (hc pins s σ H _ I h) fun d s1 aH=>?_);obtain⟨H1,I1,q1⟩:=aH;cases d with
 | true=>exact ha pins s1 σ H1 D I1 q1
 | false=>exact hb pins s1 σ H1 D I1 q1
end
abbrev TG:=V->St->Hp->(St->Hp->Prop)->Prop
abbrev uS:=List V->St->Hp->(St->Hp->Prop)->Prop
def PG(X:Cx)(target:Expr)(t:TG):Prop :=
 ∀(pins:List (Addr×Obj))(s:Shared)(σ:St)(H:Hp)(v:V)(u:Value)(Q:St->Hp->Prop),Inv X pins σ H s->aX v u->t v σ H Q ->
  wpAny (model X.prog X.w) X.A (assign target X.env u) (fun _ s'=>∃aS H',Inv X pins aS H' s'/\Q aS H') X.xe s
def wO(X:Cx)(ts:List Expr)(t:uS):Prop :=
 ∀(pins:List (Addr×Obj))(s:Shared)(σ:St)(H:Hp)(vs:List V)(us:List Value)(Q:St->Hp->Prop),Inv X pins σ H s->ZU vs us->t vs σ H Q ->
  wpAny (model X.prog X.w) X.A (assignInOrder ((assignEach ts X.env).map (·.2)) us) (fun _ s'=>∃aS H',Inv X pins aS H' s'/\Q aS H') X.xe s
abbrev Jl:=V->V->V->Hp->(Hp->Prop)->Prop
def CT(X:Cx)(t:Jl):Prop :=
 ∀(pins:List (Addr×Obj))(s:Shared)(σ:St)(H:Hp)(o i v:V)(ov iv u:Value)(Q:Hp->Prop),Inv X pins σ H s->aX o ov->aX i iv->aX v u->t o i v H Q ->
  wpAny (model X.prog X.w) X.A (setItem ov iv u) (fun _ s'=>∃H',Inv X pins σ H' s'/\Q H') X.xe s
section
variable{X:Cx}{pos:Pos}
def rL(i:Nat):TG:=fun v σ H Q=>Q (σ.set i (some v)) H
def Zl(hN:X.N.Nodup)(hi:X.N[i]? = some x)(hx:Loc X.env.scope x)(hf:X.fn x=true\/X.env.scope.names.lookup x=some .local:=by first|exact .inl rfl|exact .inr rfl|assumption):PG X (.Name x pos) (rL i):=by
 intro pins s σ H v u Q I r h;exact Cu (zT I hN hi hx r (fun s' I'=>⟨_,H,I',h⟩) hf)
def CU:uS:=fun vs σ H Q=>vs=[]/\Q σ H
def zY(t:TG)(u:uS):uS:=fun vs σ H Q=>∃v r,vs=v::r/\t v σ H fun aS H'=>u r aS H' Q
def jX:wO X [] CU:=by
 intro pins s σ H vs us Q I r h;obtain⟨e,h⟩:=h;subst e;cases r;exact assignInOrder_nil ⟨σ,H,I,h⟩
def ZD(h1:PG X e t)(h2:wO X es u)(hs:(assignEach (e::es) X.env).map (·.2)=assign e X.env::(assignEach es X.env).map (·.2):=by rfl):wO X (e::es) (zY t u):=by
 intro pins s σ H vs us Q I r h;obtain⟨v,vr,e1,h⟩:=h;subst e1;cases r with
 | cons r rr =>
  rw[hs];refine assignInOrder_cons (aK (h1 pins s σ H _ _ _ I r h) fun _ s1 aH=>?_);obtain⟨jo,H1,I1,q1⟩:=aH;exact h2 pins s1 jo H1 _ _ Q I1 rr q1
def zZ(K:au)(n:Nat)(t:uS):TG:=fun v σ H Q=>∃a xs,v=.ref a/\bo K H a xs/\xs.length=n/\t xs σ H Q
def oE(hc:X.calm=true)(h:wO X es t)(hn:(assignEach es X.env).length=n:=by rfl)(jq:(assignEach es X.env).findIdx? (·.1)=none:=by rfl):PG X (.Tuple es k pos) (zZ X.K n t):=by
 intro pins s σ H v u Q I r hw;obtain⟨a,xs,e1,hq,hl,hw⟩:=hw;subst e1;cases r;obtain⟨its,rv,ht,hz⟩:=I.tuple hq;refine assign_Tuple_tuple (I.ok.hd hc) ht (by simp[hn,<- hl,rv.length]) jq fun h' hx=>?_;have I1:Inv X pins σ H { s with heap:=h' }:=I.kept (t':=s.toks) fun b o e=>hx b o (Yo (Ym e)) e;exact h pins _ σ H xs _ Q I1 (by simpa using rv) hw
def CV(to ti:TE)(t:Jl):TG:=fun v σ H Q=>to σ H fun o H1=>ti σ H1 fun i H2=>t o i v H2 fun H3=>Q σ H3
def nk(ho:PE X o to)(hi:PE X i ti)(hs:CT X t)(ha : ∀ v,assign (.Subscript o i pos) X.env v=(do
   let ov <- holding [v] (eval o X.env)
   let iv <- holding [v,ov] (eval i X.env)
   standAt pos
   holding [v,ov,iv] (setItem ov iv v)
   release [v,ov,iv] []):=by intro _;rfl):PG X (.Subscript o i pos) (CV to ti t):=by
 intro pins s σ H v u Q I r h;rw[ha];refine Yb (YU (aK (ho pins s σ H _ I h) fun ov s1 aH=>?_));obtain⟨x,H1,I1,r1,q1⟩:=aH;refine Yb (YU (aK (hi pins s1 σ H1 _ I1 q1) fun iv s2 aH=>?_));obtain⟨y,H2,I2,r2,q2⟩:=aH;refine Yb (oo (Yb (YU (aK (hs pins s2 σ H2 x y v ov iv u _ I2 r1 r2 r q2) fun _ s3 aH=>?_))));obtain⟨H3,I3,q3⟩:=aH;exact wpAny_release ⟨σ,H3,I3,q3⟩
def wQ(te:TE)(g:TG):TS:=fun D σ H=>te σ H fun x H1=>g x σ H1 D.nx
def nq(he:PE X e te)(hg:PG X tg g)(hs:swapsWithSole [tg] e pos.line X.env=pure false:=by rfl)(hw:swappedStores [tg] e X.env=pure none:=by rfl)(h1:(assignEach [tg] X.env).map (·.2)=[assign tg X.env]:=by rfl):PS X (.Assign [tg] e pos) (wQ te g):=by
 intro pins s σ H D I h;refine wpAny_Assign_stores (aK (he pins s σ H _ I h) fun v s1 ⟨x,H1,I1,r1,q1⟩=>?_) hs hw;rw[h1];exact aK (hg pins s1 σ H1 x v _ I1 r1 q1) fun _ s2 q=>q
def Zq(hN:X.N.Nodup)(hi:X.N[i]? = some x)(hx:Loc X.env.scope x)(he:PE X e te)(hs:swapsWith e (some (.Name x pos')) pos.line X.env=pure false:=by rfl)(hf:X.fn x=true\/X.env.scope.names.lookup x=some .local:=by first|exact .inl rfl|exact .inr rfl|assumption):
  PS X (.Assign [.Name x pos'] e pos) (wQ te (rL i)):=by
 intro pins s σ H D I h;exact wpAny_Assign_Name (aK (he pins s σ H _ I h) fun v s1 ⟨y,H1,I1,r1,q1⟩=>zT I1 hN hi hx r1 (fun s2 I2=>⟨_,H1,I2,q1⟩) hf) hs
end
section
variable{X:Cx}{pos:Pos}
def Jm(c:TT)(tb:TS):TS:=fun D σ H=>∃W:Nat->St->Hp->Prop,(∃m,W m σ H)/\∀m σ H,W m σ H ->
 c σ H fun b H1=>if b=true then ∃N:St->Hp->Prop,(∀aS H',N aS H'->∃m',m'<m/\W m' aS H')/\tb { D with nx:=N,ct:=N,bk:=D.nx } σ H1 else D.nx σ H1
def wR(hp:PassesOwn (model X.prog X.w) X.A X.env X.xe)(hc:PT X c tc)(hb:d0 X body tb):PS X (.While c body [] pos) (Jm tc tb):=by
 intro pins s σ H D I h;obtain⟨W,⟨m0,w0⟩,turn⟩:=h;refine wpAny_While (codeAny_whileLoop (fun n s'=>∃aS H',Inv X pins aS H' s'/\W n aS H') ?_ m0 ⟨σ,H,I,w0⟩);rintro n s1 ⟨jo,H1,I1,w1⟩;refine rA hp (aK (hc pins s1 jo H1 _ I1 (turn n jo H1 w1)) fun b s2 aH=>?_);obtain⟨H2,I2,q2⟩:=aH;cases b with
 | true =>
  obtain⟨N,hN,q2⟩:=q2;rw[if_pos rfl];refine rA hp (aK (hb pins s2 jo H2 _ I2 q2) fun f s3 q3=>?_);cases f with
  | next =>
   obtain⟨lN,H3,I3,n3⟩:=q3;obtain⟨m',hm,w3⟩:=hN lN H3 n3;exact⟨m',hm,lN,H3,I3,w3⟩
  | cont =>
   obtain⟨lN,H3,I3,n3⟩:=q3;obtain⟨m',hm,w3⟩:=hN lN H3 n3;exact⟨m',hm,lN,H3,I3,w3⟩
  | brk=>exact q3
  | ret v=>exact q3
 | false =>
  rw[if_neg Yw];exact rz ⟨jo,H2,I2,q2⟩
end
structure It where
 go:Nat->Hp->Prop
 rM:Nat->Hp->V->Hp->Prop
 stop:Nat->Hp->Prop
def gG(X:Cx)(pins:List (Addr×Obj))(H:Hp)(b:Addr):Prop :=
 H b=none/\b≠X.env.locals/\b∉X.fs/\(b∈X.ex\/X.bB.heap.objs.size<=b)/\(∀x c,X.env.cells.lookup x=some c->c≠b)/\∀p∈X.pn++pins,p.1≠b
def Inv.fZ(I:Inv X pins σ H s)(hb:s.heap.objs.size<=b)(hn:H' b=none):gG X pins H' b:=by
 refine⟨hn,lI (YJ I.lt hb),I.CL hb,.inr (YB I.sz hb),fun x c e z=>?_,fun p hp z=>absurd (YJ (Ym (I.pin p hp).1) (by rw[z];exact hb)) (om _)⟩
 .obtain⟨v,q⟩:=I.cell x c e;exact absurd (YJ q.lt (by rw[z];exact hb)) (om _)
structure nu (P:Program) (w:World) (K:au) (tg:Expr) (J:It) (fp:List Addr) (it:Addr) (tn:Nat->Heap->Prop):Prop where
 mem:it∈fp
 obj:∀i h,tn i h->∀b∈fp,∃o,h.get? b=some o/\∀v,o.data≠.cell v
 keep:∀i h h',tn i h->(∀b∈fp,∀o,h.get? b=some o->h'.get? b=some o)->tn i h'
 item : ∀(X:Cx),X.prog=P->X.w=w->X.K=K->X.calm=true->∀(i:Nat)(pins:List (Addr×Obj))(s:Shared)(σ:St)(H:Hp)(E:Value->Shared->Prop),Inv X pins σ H s->(∀b∈fp,gG X pins H b)->tn i s.heap->J.go i H ->
  wpAny (model P w) X.A (pyNext (.ref it)) (fun r s1=>∃u,r=some u /\
   wpAny (model P w) X.A (letOwnedTupleGo tg (.ref it) u) (fun _ s2=>∃x H',Inv X pins σ H' s2/\aX x u/\J.rM i H x H'/\tn (i+1) s2.heap/\∀b∈fp,H' b=none) E s1) E s
 done:∀(X:Cx),X.prog=P->X.w=w->X.K=K->X.calm=true->∀(i:Nat)(pins:List (Addr×Obj))(s:Shared)(σ:St)(H:Hp)(E:Value->Shared->Prop),Inv X pins σ H s->(∀b∈fp,gG X pins H b)->tn i s.heap->J.stop i H ->
  wpAny (model P w) X.A (pyNext (.ref it)) (fun r s1=>r=none/\Inv X pins σ H s1) E s
 self:∀(A:Around)(i:Nat)(s:Shared)(Q:Value->Shared->Prop)(E:Value->Shared->Prop),tn i s.heap->Q (.ref it) s->wpAny (model P w) A (pyIter (.ref it)) Q E s
abbrev TI:=St->Hp->(It->Hp->Prop)->Prop
def Jn(X:Cx)(pins:List (Addr×Obj))(σ:St)(tg:Expr)(R:It->Hp->Prop)(z4:Value)(s2:Shared):Prop :=
 ∃(it:Addr)(fp:List Addr)(tn:Nat->Heap->Prop)(J:It)(H':Hp),z4=.ref it/\Inv X pins σ H' s2/\nu X.prog X.w X.K tg J fp it tn/\tn 0 s2.heap/\(∀b∈fp,gG X pins H' b)/\R J H'
def PI(X:Cx)(tg iter:Expr)(wi:TI):Prop :=
 ∀(pins:List (Addr×Obj))(s:Shared)(σ:St)(H:Hp)(R:It->Hp->Prop),Inv X pins σ H s->wi σ H R ->
  wpAny (model X.prog X.w) X.A (eval iter X.env) (fun v s1=>wpAny (model X.prog X.w) X.A (pyIter v) (Jn X pins σ tg R) X.xe s1) X.xe s
def uT(ho:s.heap.get? it=some o)(hc:o.cls=.type n)(hd:o.data=.fields vs)(hn:["enumerate","zip","dict_itemiterator","dict_reverseitemiterator","odict_iterator","itertools.zip_longest","itertools.pairwise"].contains n=false)(hQ:Q () s):wpAny M A (letOwnedTupleGo tg (.ref it) u) Q E s:=by
 unfold letOwnedTupleGo;cases tg<;>first
  | exact Ye hQ
  | (cases u<;>first
    | exact Ye hQ
    | (refine Yb (wpAny_load ho ?_);rw[hc,hd];show wpAny M A (if(["enumerate","zip","dict_itemiterator","dict_reverseitemiterator","odict_iterator","itertools.zip_longest","itertools.pairwise"].contains n&&vs[0]? == some (rawInt _))=true then _ else _) Q E s;rw[if_neg (by intro h;rw[hn,Bool.false_and]at h;cases h)];exact Ye hQ))
def z5(K:au)(a:Addr):It :=
 ⟨fun i H=>∃xs x,aZ K H a xs/\xs[i]? = some x,fun i H x H'=>H'=H/\∀xs,aZ K H a xs->xs[i]? = some x,fun i H=>∃xs,aZ K H a xs/\xs.length<=i⟩
def CW(K:au)(a:Addr):It :=
 ⟨fun i H=>∃xs x,bo K H a xs/\xs[i]? = some x,fun i H x H'=>H'=H/\∀xs,bo K H a xs->xs[i]? = some x,fun i H=>∃xs,bo K H a xs/\xs.length<=i⟩
def z6(lo:Int)(n:Nat):It:=⟨fun i _=>i<n,fun i H x H'=>H'=H/\x=.int (lo+i),fun i _=>n<=i⟩
theorem PD{K:au}(a it:Addr):nu P w K tg (z5 K a) [it] it (fun i h=>h.IsListIter it a i) where
 mem:=by simp
 obj := fun i h st b hb=>by
  have e:b=it:=by simpa using hb
  subst e
  obtain⟨o,e,c,d⟩:=st
  exact⟨o,e,fun v z=>by rw[d]at z;cases z⟩
 keep:=fun i h h' st k=>st.at fun o e=>k it (by simp) o e
 item:=by
  intro X hP hw hK hc i pins s σ H E I hf st hg;subst hP hw hK;obtain⟨xs,x,hq,hx⟩:=hg;obtain⟨its,rv,p,hz⟩:=I.list hq;obtain⟨u,hu,ru⟩:=rv.get hx;obtain⟨f0,f1,f2,f3,f4,f5⟩:=hf it (by simp);refine wpAny_pyNext_list_item st p.isList (x:=u) (by simpa using hu) fun h' dE sb=>?_;have I1:Inv X pins σ H { s with heap:=h' }:=I.turned (t':=s.toks) (fun b o hb e=>(sb.2 b hb).trans e) f0 f1 f3 f4 f5;obtain⟨o,e,c,d⟩:=id dE;exact⟨u,rfl,uT (s:={ s with heap:=h' }) e c d (by decide) ⟨x,H,I1,ru,⟨rfl,fun ys hy=>by rw[I.gR hy hq];exact hx⟩,dE,fun b hb=>(hf b hb).1⟩⟩
 done:=by
  intro X hP hw hK hc i pins s σ H E I hf st hg;subst hP hw hK;obtain⟨xs,hq,hx⟩:=hg;obtain⟨its,rv,p,hz⟩:=I.list hq;obtain⟨f0,f1,f2,f3,f4,f5⟩:=hf it (by simp);have hl:=rv.length;exact wpAny_pyNext_list_end (I.ok.hd hc) st p.isList (by simp;lia) fun h' eb=>⟨rfl,I.turned (t':=s.toks) (fun b o hb e=>eb b o hb e) f0 f1 f3 f4 f5⟩
 self:=fun _ _ _ _ _ st h=>wpAny_pyIter_listiter st h
def PF{K:au}(a it:Addr):nu P w K tg (CW K a) [it] it (fun i h=>h.IsTupleIter it a i) where
 mem:=by simp
 obj := fun i h st b hb=>by
  have e:b=it:=by simpa using hb
  subst e
  obtain⟨o,e,c,d⟩:=st
  exact⟨o,e,fun v z=>by rw[d]at z;cases z⟩
 keep:=fun i h h' st k=>st.at fun o e=>k it (by simp) o e
 item:=by
  intro X hP hw hK hc i pins s σ H E I hf st hg;subst hP hw hK;obtain⟨xs,x,hq,hx⟩:=hg;obtain⟨its,rv,p,hz⟩:=I.tuple hq;obtain⟨u,hu,ru⟩:=rv.get hx;obtain⟨f0,f1,f2,f3,f4,f5⟩:=hf it (by simp);refine wpAny_pyNext_tuple_item st (show s.heap.IsTuple a its.toArray from p) (x:=u) (by simpa using hu) fun h' dE sb=>?_;have I1:Inv X pins σ H { s with heap:=h' }:=I.turned (t':=s.toks) (fun b o hb e=>(sb.2 b hb).trans e) f0 f1 f3 f4 f5;obtain⟨o,e,c,d⟩:=id dE;exact⟨u,rfl,uT (s:={ s with heap:=h' }) e c d (by decide) ⟨x,H,I1,ru,⟨rfl,fun ys hy=>by rw[I.fJ hy hq];exact hx⟩,dE,fun b hb=>(hf b hb).1⟩⟩
 done:=by
  intro X hP hw hK hc i pins s σ H E I hf st hg;subst hP hw hK;obtain⟨xs,hq,hx⟩:=hg;obtain⟨its,rv,p,hz⟩:=I.tuple hq;obtain⟨f0,f1,f2,f3,f4,f5⟩:=hf it (by simp);have hl:=rv.length;exact wpAny_pyNext_tuple_end (I.ok.hd hc) st (show s.heap.IsTuple a its.toArray from p) (by simp;lia) fun h' eb=>⟨rfl,I.turned (t':=s.toks) (fun b o hb e=>eb b o hb e) f0 f1 f3 f4 f5⟩
 self:=fun _ _ _ _ _ st h=>wpAny_pyIter_tupleiter st h
theorem PK{K:au}(it:Addr)(lo:Int)(n:Nat):nu P w K tg (z6 lo n) [it] it (fun i h=>IsRangeIter h it (lo+(i:Nat)*1) ((n:Int)-(i:Nat)) 1) where
 mem:=by simp
 obj := fun i h st b hb=>by
  have e:b=it:=by simpa using hb
  subst e
  exact⟨_,st,fun v z=>by
   have z':Data.fields _=Data.cell v:=z
   cases z'⟩
 keep:=fun i h h' st k=>k it (by simp) _ st
 item:=by
  intro X hP hw hK hc i pins s σ H E I hf st hg;subst hP hw hK;obtain⟨f0,f1,f2,f3,f4,f5⟩:=hf it (by simp);have W:=Walks.range (prog:=X.prog) (w:=X.w) (I.ok.hd hc) it lo 1 n;refine W.item i s _ _ hg st fun v h' tk hv dE kk=>?_;obtain⟨t,rfl⟩:=hv;have I1:Inv X pins σ H { s with heap:=h',toks:=tk }:=I.turned (fun b o hb e=>kk b o (by simpa using hb) e) f0 f1 f3 f4 f5;refine⟨_,rfl,uT (s:={ s with heap:=h',toks:=tk }) (n:="range_iterator") dE rfl rfl (by decide) ⟨.int (lo+i),H,I1,⟨t,?_⟩,⟨rfl,rfl⟩,dE,fun b hb=>(hf b hb).1⟩⟩;rw[Int.mul_one]
 done:=by
  intro X hP hw hK hc i pins s σ H E I hf st hg;subst hP hw hK;obtain⟨f0,f1,f2,f3,f4,f5⟩:=hf it (by simp);exact Ii (I.ok.hd hc) st (by have:n<=i:=hg;lia) fun h' eb=>⟨rfl,I.turned (t':=s.toks) (fun b o hb e=>eb b o hb e) f0 f1 f3 f4 f5⟩
 self:=fun _ _ _ _ _ st h=>Ij st h
section
variable{X:Cx}{tg:Expr}
theorem PL{lo hi:Int}(I:Inv X pins σ H s)(h1:-(2^62)<=lo)(h2:lo<2^62)(h3:-(2^62)<=hi)(h4:hi<2^62)(q:R (z6 lo (hi-lo).toNat) H):wpAny (model X.prog X.w) X.A (pyIter (.ref s.heap.objs.size)) (Jn X pins σ tg R) E { s with heap:=s.heap.push { cls:=.type "range",data:=.fields #[.int lo t,.int hi u,.int 1 v] },toks:=tk }:=by
 refine IG (IsRange.new ..) (small_one h1 h2 h3 h4) ?_;have I1:Inv X pins σ H { s with heap:=s.heap.push { cls:=.type "range",data:=.fields #[.int lo t,.int hi u,.int 1 v] },toks:=tk }:=I.kept fun b o e=>Yd _ e;refine⟨(s.heap.push { cls:=.type "range",data:=.fields #[.int lo t,.int hi u,.int 1 v] }).objs.size,[(s.heap.push { cls:=.type "range",data:=.fields #[.int lo t,.int hi u,.int 1 v] }).objs.size],_,_,H,rfl,
  I1.kept (t':=tk) fun b o e=>Yd _ e,PK _ lo (hi-lo).toNat,?_,fun b hb=>?_,q⟩
 .have e1:lo+((0:Nat):Int)*1=lo:=by simp
  have e2:(((hi-lo).toNat:Nat):Int)-((0:Nat):Int)=Builtin.Range.rangeSize lo hi 1:=by rw[rangeSize_one];split<;>lia
  show IsRangeIter _ _ (lo+((0:Nat):Int)*1) ((((hi-lo).toNat:Nat):Int)-((0:Nat):Int)) 1;rw[e1,e2];exact Yl _ rfl
 .have e:b=(s.heap.push { cls:=.type "range",data:=.fields #[.int lo t,.int hi u,.int 1 v] }).objs.size:=by simpa using hb
  subst e;exact I1.fZ (Yk _) (I1.aE.fresh (Yk _))
def Jo(wi:TI)(g:TG)(tb:TS):TS:=fun D σ H=>wi σ H fun J H1=>∃W:Nat->Nat->St->Hp->Prop,(∃m,W 0 m σ H1)/\∀i m σ H,W i m σ H ->
 (J.stop i H/\D.nx σ H)\/(J.go i H/\∃N:St->Hp->Prop,(∀aS H',N aS H'->∃m',m'<m/\W (i+1) m' aS H')/\∀x H',J.rM i H x H'->g x σ H' fun oF H2=>tb { D with nx:=N,ct:=N,bk:=D.nx } oF H2)
def uU(fp:List Addr)(h:Heap):List (Addr×Obj):=fp.filterMap fun b=>(h.get? b).map fun o=>(b,o)
def uV(hb:b∈fp)(e:h.get? b=some o):(b,o)∈uU fp h:=IH.mpr ⟨b,hb,by rw[e];rfl⟩
def PM(hp:p∈uU fp h):p.1∈fp/\h.get? p.1=some p.2:=by
 obtain⟨b,hb,e⟩:=IH.mp hp;cases q:h.get? b with
 | none=>rw[q]at e;cases e
 | some o =>
  rw[q]at e;have e':(b,o)=p:=YA e;subst e';exact⟨hb,q⟩
def Inv.pinned(I:Inv X pins σ H s)(hf:∀b∈fp,gG X pins H b)(ho:∀b∈fp,∃o,s.heap.get? b=some o/\∀v,o.data≠.cell v):Inv X (pins++uU fp s.heap) σ H s :=
 I.fY fun p hp=>(Yv.mp hp).elim (fun z=>I.pin p (Yy _ z)) fun z=>by
  obtain⟨hb,e⟩:=PM z
  obtain⟨f0,f1,f2,_⟩:=hf p.1 hb
  obtain⟨o,e',d⟩:=ho p.1 hb
  rw[e]at e';cases e'
  exact⟨e,f0,f1,f2,d⟩
def Inv.cj(I:Inv X (pins++pl) σ H s):Inv X pins σ H s:=I.fY fun p hp=>I.pin p (Yy _ (YY _ hp))
def Z3(hp:PassesOwn (model X.prog X.w) X.A X.env X.xe)(hc:X.calm=true)(hi:PI X tg iter wi)(hg:PG X tg g)(hb:d0 X body tb)(hs:∀x,foldedSetIterable iter X.env x=pure x:=by intro _;rfl):PS X (.For tg iter body [] pos) (Jo wi g tb):=by
 intro pins s σ H D I h;refine wpAny_For (aK (hi pins s σ H _ I h) fun v s1 h1=>aK h1 fun z4 s2 h2=>?_) hs;obtain⟨it,fp,tn,J,H2,e,I2,T,fe,f2,W,⟨m0,w0⟩,turn⟩:=h2;subst e;have eg:∀ {H':Hp},(∀b∈fp,H' b=none)->∀b∈fp,gG X pins H' b:=fun hn b hb=>⟨hn b hb,(f2 b hb).2⟩;refine codeAny_forLoop_any (fun n s'=>∃i aS H',Inv X pins aS H' s'/\tn i s'.heap/\(∀b∈fp,H' b=none)/\W i n aS H') ?_ m0 ⟨0,σ,H2,I2,fe,fun b hb=>(f2 b hb).1,w0⟩;rintro n s3 ⟨i,lN,H3,I3,Jp,Jq,w3⟩;rcases turn i n lN H3 w3 with⟨stop,qn⟩|⟨go,N,hN,step⟩
 .refine rA hp (aK (T.done X rfl rfl rfl hc i pins s3 lN H3 X.xe I3 (eg Jq) Jp stop) fun r s4 aH=>?_);obtain⟨hr,I4⟩:=aH;subst hr;exact rz ⟨lN,H3,I4,qn⟩
 .refine rA hp (aK (T.item X rfl rfl rfl hc i pins s3 lN H3 X.xe I3 (eg Jq) Jp go) fun r s4 aH=>?_);obtain⟨u,hr,h4⟩:=aH;subst hr;refine rA hp (aK h4 fun _ s5 aH=>?_);obtain⟨x,H5,I5,r5,y5,oG,rN⟩:=aH;have PN:=I5.pinned (eg rN) (T.obj _ _ oG);refine rA hp (aK (hg _ s5 lN H5 x u _ PN r5 (step x H5 y5)) fun _ s6 aH=>?_);obtain⟨PQ,H6,I6,q6⟩:=aH;refine rA hp (aK (hb _ s6 PQ H6 _ I6 q6) fun f s7 q7=>?_);have again:∀ {lO:St} {H7:Hp},Inv X (pins++uU fp s5.heap) lO H7 s7->N lO H7->∃m,m<n/\∃i aS H',Inv X pins aS H' s7/\tn i s7.heap/\(∀b∈fp,H' b=none)/\W i m aS H':=fun {lO H7} I7 n7=>by
   obtain⟨m',hm,w7⟩:=hN lO H7 n7;refine⟨m',hm,i+1,lO,H7,I7.cj,T.keep _ _ _ oG fun b hb o e=>(I7.pin (b,o) (Yy _ (Yy _ (uV hb e)))).1,fun b hb=>?_,w7⟩;obtain⟨o,e,d⟩:=T.obj _ _ oG b hb;exact(I7.pin (b,o) (Yy _ (Yy _ (uV hb e)))).2.1
  cases f with
  | next=>obtain⟨lO,H7,I7,n7⟩:=q7;exact again I7 n7
  | cont=>obtain⟨lO,H7,I7,n7⟩:=q7;exact again I7 n7
  | brk=>obtain⟨lO,H7,I7,q7⟩:=q7;exact⟨lO,H7,I7.cj,q7⟩
  | ret v=>obtain⟨x7,lO,H7,I7,r7,q7⟩:=q7;exact⟨x7,lO,H7,I7.cj,r7,q7⟩
end
abbrev R2:=V->V->Hp->VK->Prop
def a8(X:Cx)(f:Value->Value->Sem Value)(r:R2):Prop :=
 ∀(pins:List (Addr×Obj))(s:Shared)(σ:St)(H:Hp)(x y:V)(v u:Value)(Q:VK),Inv X pins σ H s->aX x v->aX y u->r x y H Q ->
  wpAny (model X.prog X.w) X.A (f v u) (EP X pins σ Q) X.xe s
def Z4(X:Cx)(f:Value)(r:List V->Hp->VK->Prop):Prop :=
 ∀(pins:List (Addr×Obj))(s:Shared)(σ:St)(H:Hp)(xs:List V)(us:List Value)(Q:VK),Inv X pins σ H s->ZU xs us->r xs H Q ->
  wpAny (model X.prog X.w) X.A (call f us) (EP X pins σ Q) X.xe s
def PR(X:Cx)(r:V->Hp->(Bool->Hp->Prop)->Prop):Prop :=
 ∀(pins:List (Addr×Obj))(s:Shared)(σ:St)(H:Hp)(x:V)(v:Value)(Q:Bool->Hp->Prop),Inv X pins σ H s->aX x v->r x H Q ->
  wpAny (model X.prog X.w) X.A (truthy v) (TP X pins σ Q) X.xe s
def wU(r:R2)(ta tb:TE):TE:=fun σ H Q=>ta σ H fun x H1=>tb σ H1 fun y H2=>r x y H2 Q
def rI(C:Int->Int->Prop)(g:Int->Int->V):R2:=fun x y H Q=>∃i j,x=.int i/\y=.int j/\C i j/\Q (g i j) H
def uW(g:Int->Int->V):R2:=fun x y H Q=>∃i j,x=.int i/\y=.int j/\Q (g i j) H
section
variable{X:Cx}{a b c:Expr}{ta tb tc:TE}{pos:Pos}
def CY(ha:PE X a ta)(hb:PE X b tb){R:V->V->Hp->Prop}(I:Inv X pins σ H s)(h:ta σ H fun x H1=>tb σ H1 fun y H2=>R x y H2){f:Value->Value->Sem Value}(hf:∀v u s2 x y H2,Inv X pins σ H2 s2->aX x v->aX y u->R x y H2->wpAny (model X.prog X.w) X.A (f v u) Q X.xe s2):
  wpAny (model X.prog X.w) X.A (eval a X.env) (fun v aG=>wpAny (model X.prog X.w) X.A (eval b X.env) (fun u gS=>wpAny (model X.prog X.w) X.A (f v u) Q X.xe gS) X.xe aG) X.xe s:=by
 refine aK (ha pins s σ H _ I h) fun v s1 aH=>?_;obtain⟨x,H1,I1,r1,q1⟩:=aH;refine aK (hb pins s1 σ H1 _ I1 q1) fun u s2 aH=>?_;obtain⟨y,H2,I2,r2,q2⟩:=aH;exact hf v u s2 x y H2 I2 r1 r2 q2
def Zy(ho:a8 X (binaryOp op) r)(ha:PE X a ta)(hb:PE X b tb):PE X (.BinOp a op b pos) (wU r ta tb):=by
 intro pins s σ H Q I h;exact wpAny_BinOp (CY ha hb I h fun v u s2 x y H2 I2 rx ry q=>ho pins s2 σ H2 x y v u Q I2 rx ry q)
def CZ{g:Int->Int->Int}(rule:∀(i j:Int)(t u:Tok)(s:Shared)(Q:Value->Shared->Prop)(E:Value->Shared->Prop),C i j->Q (.int (g i j) s.toks) { s with toks:=s.toks+1 }->wpAny (model X.prog X.w) X.A (f (.int i t) (.int j u)) Q E s):
  a8 X f (rI C fun i j=>.int (g i j)):=by
 intro pins s σ H x y v u Q I rx ry h;obtain⟨i,j,rfl,rfl,hc,q⟩:=h;obtain⟨t,rfl⟩:=rx;obtain⟨t',rfl⟩:=ry;exact rule i j t t' s _ _ hc ⟨.int (g i j),H,I.tok _,⟨_,rfl⟩,q⟩
def Jr{g:Int->Int->Int}(rule:∀(i j:Int)(t u:Tok)(s:Shared)(Q:Value->Shared->Prop)(E:Value->Shared->Prop),Q (.int (g i j) s.toks) { s with toks:=s.toks+1 }->wpAny (model X.prog X.w) X.A (f (.int i t) (.int j u)) Q E s):
  a8 X f (uW fun i j=>.int (g i j)):=by
 intro pins s σ H x y v u Q I rx ry h;obtain⟨i,j,rfl,rfl,q⟩:=h;obtain⟨t,rfl⟩:=rx;obtain⟨t',rfl⟩:=ry;exact rule i j t t' s _ _ ⟨.int (g i j),H,I.tok _,⟨_,rfl⟩,q⟩
def Js{g:Int->Int->Bool}(rule:∀(i j:Int)(t u:Tok)(s:Shared)(Q:Value->Shared->Prop)(E:Value->Shared->Prop),Q (.bool (g i j)) s->wpAny (model X.prog X.w) X.A (f (.int i t) (.int j u)) Q E s):
  a8 X f (uW fun i j=>.bl (g i j)):=by
 intro pins s σ H x y v u Q I rx ry h;obtain⟨i,j,rfl,rfl,q⟩:=h;obtain⟨t,rfl⟩:=rx;obtain⟨t',rfl⟩:=ry;exact rule i j t t' s _ _ ⟨.bl (g i j),H,I,rfl,q⟩
def C0(i j:Int):Prop:=0<j/\j<1073741824
def C1(i j:Int):Prop:=0<=j/\j<=1000000/\i.natAbs<2^64
def C2(i j:Int):Prop:=(-(2^64)<i/\i<2^64)\/(-(2^64)<j/\j<2^64)
def C2.ok(h:C2 i j):IntMulOk i j:=by
 rcases h with⟨h1,h2⟩|⟨h1,h2⟩
 .exact .of_left (intBits_le_64 h1 h2)
 .exact .of_right (intBits_le_64 h1 h2)
def PU:a8 X (binaryOp .Add) (uW fun i j=>.int (i+j)):=Jr fun _ _ _ _ _ _ _ q=>add_int q
def PV:a8 X (binaryOp .Sub) (uW fun i j=>.int (i-j)):=Jr fun _ _ _ _ _ _ _ q=>sub_int q
theorem PX:a8 X (binaryOp .FloorDiv) (rI C0 fun i j=>.int (i / j)):=CZ fun i j _ _ _ _ _ hc q=>by
 have h1:(0:Int)<j:=hc.1
 have h2:j<1073741824:=hc.2
 exact floordiv_int (by lia) (by rw[Int.fdiv_eq_ediv_of_nonneg i (by lia)];exact q) (.inl (Ik (by lia)))
def PY:a8 X (binaryOp .Mod) (rI (fun _ j=>0<j) fun i j=>.int (i % j)):=CZ fun i j _ _ _ _ _ hc q=>by
 have h1:(0:Int)<j:=hc
 exact mod_int' (by lia) (by rw[Int.fmod_eq_emod_of_nonneg i (by lia)];exact q)
def PZ:a8 X (binaryOp .Pow) (rI C1 fun i j=>.int (i^j.toNat)):=CZ fun _ _ _ _ _ _ _ hc q=>pow_int_small hc.1 hc.2.1 hc.2.2 q
end
def Jt:V->V->Bool
 | .ay,.ay=>true|.ay,.int _=>true|.int _,.ay=>true|.ay,.bl _=>true|.bl _,.ay=>true|.ay,.str _=>true|.str _,.ay=>true
 | .int _,.int _=>true|.bl _,.bl _=>true|.str _,.str _=>true|.jl _,.jl _=>true
 | .int _,.str _=>true|.str _,.int _=>true|.bl _,.str _=>true|.str _,.bl _=>true
 | _,_=>false
def P0:R2:=fun x y H Q=>Jt x y=true/\Q (.bl (decide (x=y))) H
def P1:R2:=fun x y H Q=>Jt x y=true/\Q (.bl (!decide (x=y))) H
def Ju:decide (V.int i=V.int j)=(i==j):=by
 rw[wC];simp
def Jv:decide (V.bl i=V.bl j)=(i==j):=by
 rw[wC];simp
def Jw:decide (V.str i=V.str j)=(i==j):=by
 rw[wC];simp
def Jx:decide (V.jl i=V.jl j)=(i.toList==j.toList):=by
 rw[wC];cases i;cases j;simp
section
variable{X:Cx}{a b c:Expr}{ta tb tc:TE}{pos:Pos}
def ZL(I:Inv X pins σ H s)(q:Q (.bl k) H)(e:k=k'):EP X pins σ Q (.bool k') s:=by
 subst e;exact⟨.bl k,H,I,rfl,q⟩
def P2:a8 X (compareOp .Eq) P0:=by
 intro pins s σ H x y v u Q I rx ry h;obtain⟨hs,q⟩:=h;cases x with
 | ay =>
  cases rx;cases y with
  | ay=>cases ry;exact PySem.EqNone.eq_none_none (ZL I q (by simp))
  | bl j=>cases ry;exact PySem.EqNone.eq_none_bool (ZL I q (by simp))
  | int j=>obtain⟨t',rfl⟩:=ry;exact PySem.EqNone.eq_none_int (ZL I q (by simp))
  | str j=>obtain⟨t',rfl⟩:=ry;exact PySem.EqNone.eq_none_str (ZL I q (by simp))
  | _=>exact absurd (show false=true from hs) Yw
 | bl i =>
  cases rx;cases y with
  | ay=>cases ry;exact PySem.EqNone.eq_bool_none (ZL I q (by simp))
  | bl j=>cases ry;exact eq_bool (ZL I q Jv)
  | str j=>obtain⟨t',rfl⟩:=ry;exact PySem.EqMixed.eq_bool_str (ZL I q (by simp))
  | _=>exact absurd (show false=true from hs) Yw
 | int i =>
  obtain⟨t,rfl⟩:=rx;cases y with
  | ay=>cases ry;exact PySem.EqNone.eq_int_none (ZL I q (by simp))
  | int j=>obtain⟨t',rfl⟩:=ry;exact eq_int (ZL I q Ju)
  | str j=>obtain⟨t',rfl⟩:=ry;exact PySem.EqMixed.eq_int_str (ZL I q (by simp))
  | _=>exact absurd (show false=true from hs) Yw
 | str i =>
  obtain⟨t,rfl⟩:=rx;cases y with
  | ay=>cases ry;exact PySem.EqNone.eq_str_none (ZL I q (by simp))
  | bl j=>cases ry;exact PySem.EqMixed.eq_str_bool (ZL I q (by simp))
  | int j=>obtain⟨t',rfl⟩:=ry;exact PySem.EqMixed.eq_str_int (ZL I q (by simp))
  | str j=>obtain⟨t',rfl⟩:=ry;exact eq_str (ZL I q Jw)
  | _=>exact absurd (show false=true from hs) Yw
 | jl i =>
  obtain⟨t,rfl⟩:=rx;cases y with
  | jl j=>obtain⟨t',rfl⟩:=ry;exact PySem.W.eq_bytes (ZL I q Jx)
  | _=>exact absurd (show false=true from hs) Yw
 | _=>cases y<;>exact absurd (show false=true from hs) Yw
def P4:a8 X (compareOp .NotEq) P1:=by
 intro pins s σ H x y v u Q I rx ry h;obtain⟨hs,q⟩:=h;cases x with
 | ay =>
  cases rx;cases y with
  | ay=>cases ry;exact PySem.EqNone.ne_none_none (ZL I q (by simp))
  | bl j=>cases ry;exact PySem.EqNone.ne_none_bool (ZL I q (by simp))
  | int j=>obtain⟨t',rfl⟩:=ry;exact PySem.EqNone.ne_none_int (ZL I q (by simp))
  | str j=>obtain⟨t',rfl⟩:=ry;exact PySem.EqNone.ne_none_str (ZL I q (by simp))
  | _=>exact absurd (show false=true from hs) Yw
 | bl i =>
  cases rx;cases y with
  | ay=>cases ry;exact PySem.EqNone.ne_bool_none (ZL I q (by simp))
  | bl j=>cases ry;exact ne_bool (ZL I q (congrArg not Jv))
  | str j=>obtain⟨t',rfl⟩:=ry;exact PySem.EqMixed.ne_bool_str (ZL I q (by simp))
  | _=>exact absurd (show false=true from hs) Yw
 | int i =>
  obtain⟨t,rfl⟩:=rx;cases y with
  | ay=>cases ry;exact PySem.EqNone.ne_int_none (ZL I q (by simp))
  | int j=>obtain⟨t',rfl⟩:=ry;exact ne_int (ZL I q (congrArg not Ju))
  | str j=>obtain⟨t',rfl⟩:=ry;exact PySem.EqMixed.ne_int_str (ZL I q (by simp))
  | _=>exact absurd (show false=true from hs) Yw
 | str i =>
  obtain⟨t,rfl⟩:=rx;cases y with
  | ay=>cases ry;exact PySem.EqNone.ne_str_none (ZL I q (by simp))
  | bl j=>cases ry;exact PySem.EqMixed.ne_str_bool (ZL I q (by simp))
  | int j=>obtain⟨t',rfl⟩:=ry;exact PySem.EqMixed.ne_str_int (ZL I q (by simp))
  | str j=>obtain⟨t',rfl⟩:=ry;exact ne_str (ZL I q (congrArg not Jw))
  | _=>exact absurd (show false=true from hs) Yw
 | jl i =>
  obtain⟨t,rfl⟩:=rx;cases y with
  | jl j=>obtain⟨t',rfl⟩:=ry;exact PySem.W.ne_bytes (ZL I q (congrArg not Jx))
  | _=>exact absurd (show false=true from hs) Yw
 | _=>cases y<;>exact absurd (show false=true from hs) Yw
def P5:a8 X (compareOp .Lt) (uW fun i j=>.bl (decide (i<j))):=Js fun _ _ _ _ _ _ _ q=>lt_int q
def P6:a8 X (compareOp .Gt) (uW fun i j=>.bl (decide (j<i))):=Js fun _ _ _ _ _ _ _ q=>gt_int q
def P7:a8 X (compareOp .Lt) (fun x y H Q=>∃i j,x=.str i/\y=.str j/\Q (.bl (decide (i.cps.toList<j.cps.toList))) H):=by
 intro pins s σ H x y v u Q I rx ry h;obtain⟨i,j,rfl,rfl,q⟩:=h;obtain⟨t,rfl⟩:=rx;obtain⟨t',rfl⟩:=ry;exact lt_str (ZL I q rfl)
def P8:a8 X (compareOp .In) (fun x y H Q=>∃i j,x=.str i/\y=.str j/\Q (.bl (!(Builtin.Str.occurrences j i 0 j.length 1).isEmpty)) H):=by
 intro pins s σ H x y v u Q I rx ry h;obtain⟨i,j,rfl,rfl,q⟩:=h;obtain⟨t,rfl⟩:=rx;obtain⟨t',rfl⟩:=ry;exact in_str (ZL I q rfl)
def Jy:a8 X (compareOp .Is) (fun x y H Q=>y=.ay/\Q (.bl (decide (x=.ay))) H):=by
 intro pins s σ H x y v u Q I rx ry h;obtain⟨rfl,q⟩:=h;cases ry;refine is_none_gen (ZL I q ?_);cases x<;>first
  | (cases rx;rfl)
  | (obtain⟨t,rfl⟩:=rx;rfl)
def C3:a8 X (compareOp .IsNot) (fun x y H Q=>y=.ay/\Q (.bl (!decide (x=.ay))) H):=by
 intro pins s σ H x y v u Q I rx ry h;obtain⟨rfl,q⟩:=h;cases ry;refine isnot_none_gen (ZL I q ?_);cases x<;>first
  | (cases rx;rfl)
  | (obtain⟨t,rfl⟩:=rx;rfl)
def a8.or(h:a8 X f r)(h':a8 X f r'):a8 X f (fun x y H Q=>r x y H Q\/r' x y H Q):=by
 intro pins s σ H x y v u Q I rx ry q;rcases q with q|q
 .exact h pins s σ H x y v u Q I rx ry q
 .exact h' pins s σ H x y v u Q I rx ry q
def Zx(b:Expr)(h:op≠.In:=by decide)(h2:op≠.NotIn:=by decide):behindInMarks op b=false:=by
 have e1:(op==CmpOp.In)=false:=by cases op<;>first|rfl|exact absurd rfl h
 have e2:(op==CmpOp.NotIn)=false:=by cases op<;>first|rfl|exact absurd rfl h2
 cases b<;>simp[behindInMarks,e1,e2]
def wV(ho:a8 X (compareOp op) r)(ha:PE X a ta)(hb:PE X b tb)(hm:behindInMarks op b=false):PE X (.Compare a [op] [b] pos) (wU r ta tb):=by
 intro pins s σ H Q I h;exact wpAny_Compare1 (CY ha hb I h fun v u s2 x y H2 I2 rx ry q=>ho pins s2 σ H2 x y v u Q I2 rx ry q) hm
def Jz(t:TE):TT:=fun σ H Q=>t σ H fun x H'=>∃k,x=.bl k/\Q k H'
def Zj(ho:a8 X (compareOp op) r)(ha:PE X a ta)(hb:PE X b tb)(hm:behindInMarks op b=false):PT X (.Compare a [op] [b] pos) (Jz (wU r ta tb)):=by
 intro pins s σ H Q I h;refine wpAny_isTrue_Compare1 (aK (ha pins s σ H _ I h) fun v s1 ⟨x,H1,I1,r1,q1⟩=>aK (hb pins s1 σ H1 _ I1 q1) fun u s2 ⟨y,H2,I2,r2,q2⟩ =>
  aK (ho pins s2 σ H2 x y v u _ I2 r1 r2 q2) fun c s3 ⟨z,H3,I3,r3,k,e,q3⟩=>?_) hm
 subst e;cases r3;exact rp ⟨H3,I3,q3⟩
def C5(K:au)(x:V)(H:Hp)(k:Bool):Prop :=
 match x with
 | .ay=>k=false
 | .bl b=>k=b
 | .int i=>k=(i != 0)
 | .str y=>y.length<=sizeLine/\k=((y.length:Int) != 0)
 | .jl y=>y.size<=sizeLine/\k=((y.size:Int) != 0)
 | .ref p=>(∃xs,aZ K H p xs/\k=!xs.isEmpty)\/(∃xs,bo K H p xs/\k=!xs.isEmpty)\/∃aq,H p=some (.dK aq)/\k=!aq.isEmpty
 | _=>False
def P9{vs:List (κ×Value)}(r:KV aq vs):(!vs.isEmpty)=!aq.isEmpty:=by
 cases r<;>rfl
def JA(r:ZU xs its):(!its.toArray.isEmpty)=!xs.isEmpty:=by
 cases r<;>simp
def rO:(sizeLine:Nat)<2^63:=by rw[Y2];decide
theorem P_:PR X (fun x H Q=>∃k,C5 X.K x H k/\Q k H):=by
 intro pins s σ H x v Q I rx h;obtain⟨k,e,q⟩:=h;have hl:=rO;have hs:sizeLine=16777216:=Y2;cases x with
 | ay =>
  cases rx;have e':k=false:=e;subst e';exact truthy_none ⟨H,I,q⟩
 | bl b =>
  cases rx;have e':k=b:=e;subst e';exact rp ⟨H,I,q⟩
 | int i =>
  obtain⟨t,rfl⟩:=rx;have e':k=(i != 0):=e;subst e';exact PySem.P.truthy_int ⟨H,I,q⟩
 | str y =>
  obtain⟨t,rfl⟩:=rx;obtain⟨hy,e'⟩:y.length<=sizeLine/\k=((y.length:Int) != 0):=e;subst e';exact PySem.P.truthy_str (by lia) ⟨H,I.tok _,q⟩
 | jl y =>
  obtain⟨t,rfl⟩:=rx;obtain⟨hy,e'⟩:y.size<=sizeLine/\k=((y.size:Int) != 0):=e;subst e';exact PySem.W.truthy_bytes (by lia) ⟨H,I.tok _,q⟩
 | ref p =>
  cases rx;have e':(∃xs,aZ X.K H p xs/\k=!xs.isEmpty)\/(∃xs,bo X.K H p xs/\k=!xs.isEmpty)\/∃aq,H p=some (.dK aq)/\k=!aq.isEmpty:=e;rcases e' with⟨xs,hx,e'⟩|⟨xs,hx,e'⟩|⟨aq,hx,e'⟩
  .subst e';obtain⟨its,r,pl,hz⟩:=I.list hx;have hlen:=r.length;exact wpAny_truthy_list pl.isList (by simp only[Ys];lia) ⟨H,I.tok _,by rw[JA r];exact q⟩
  .subst e';obtain⟨its,r,pl,hz⟩:=I.tuple hx;have hlen:=r.length;exact truthy_tuple pl (by simp only[Ys];lia) ⟨H,I.tok _,by rw[JA r];exact q⟩
  .subst e';obtain⟨hz,hS,vs,r,m⟩:aq.length<=sizeLine/\(p==sysModules)=false/\∃vs,KV aq vs/\s.heap.DictOf (CH X.prog X.w) p vs:=I.aE p _ hx;have hlen:aq.length=vs.length:=Paired.length r;exact wpAny_truthy_dict hS m (by lia) ⟨H,I.tok _,by rw[P9 r];exact q⟩
 | _=>exact(show False from e).elim
def C6(ha:PE X a ta)(he:∀whole,isTrue a X.env whole=(do let v <- whole;standAt a.pos;holding [v] (truthy v))):
  PT X a (fun σ H Q=>ta σ H fun x H'=>∃k,C5 X.K x H' k/\Q k H'):=by
 intro pins s σ H Q I h;exact isTrue_plain (aK (ha pins s σ H _ I h) fun v s1 ⟨x,H1,I1,r1,q1⟩=>P_ pins s1 σ H1 x v Q I1 r1 q1) (he _)
def P':a8 X (binaryOp .Add) (fun x y H Q=>∃i j,x=.str i/\y=.str j/\i.length+j.length<=sizeLine/\Q (.str (i++j)) H):=by
 intro pins s σ H x y v u Q I rx ry h;obtain⟨i,j,rfl,rfl,hz,q⟩:=h;obtain⟨t,rfl⟩:=rx;obtain⟨t',rfl⟩:=ry;exact add_str (fun t' tk=>⟨.str (i++j),H,I.tok _,⟨_,rfl⟩,q⟩) hz
def C7(r:ZU [x] us):∃u,us=[u]/\aX x u:=by
 cases r with
 | cons r1 r2=>cases r2;exact⟨_,rfl,r1⟩
def Qa(r:ZU [x,y] us):∃u w',us=[u,w']/\aX x u/\aX y w':=by
 cases r with
 | cons r1 r2 =>
  cases r2 with
  | cons r3 r4=>cases r4;exact⟨_,_,rfl,r1,r3⟩
def Qb(hc:X.calm=true):Z4 X (.builtin "min") (fun xs H Q=>∃i j,xs=[.int i,.int j]/\Q (.int (if j<i then j else i)) H):=by
 intro pins s σ H xs us Q I r h;obtain⟨i,j,rfl,q⟩:=h;obtain⟨u,w',rfl,⟨t,rfl⟩,⟨t',rfl⟩⟩:=Qa r;refine min_two_ints (I.ok.hd hc) fun h' tk k=>⟨_,H,I.kept k,?_,q⟩;by_cases hj:j<i
 .rw[if_pos hj,if_pos hj];exact⟨_,rfl⟩
 .rw[if_neg hj,if_neg hj];exact⟨_,rfl⟩
end
structure rP (h:Heap) (x dx C:Addr) (mA:Str->Option Value):Prop where
 obj:h.get? x=some (instObj C dx)
 ns:h.Ns1 dx mA
 ne:dx≠x
def JB{h:Heap}(n:h.Ns1 dx mA):∃od,h.get? dx=some od/\∀name,lookIn name od=some (mA name):=by
 obtain⟨o,es,ep,ho,hd,hk,_,hm⟩:=n;refine⟨o,ho,fun name=>?_⟩;have e:=hm name;unfold nsFind findBy at e;rw[<- Array.find?_toList]at e;unfold lookIn;rw[hd];dsimp only;split
 .rename_i y q;rw[q]at e;exact congrArg some e
 .rename_i q;rw[q]at e;have a:es.toList.any (·.refKey)=false:=by
   rw[List.any_eq_false];intro y hy;obtain⟨z,t,oH⟩:=hk y (Array.mem_toList_iff.mp hy);simp[DictEntry.refKey,oH]
  have a':¬es.toList.any (·.refKey)=true:=by rw[a];exact Yw
  rw[if_neg a'];exact congrArg some e
def rP.look(I:rP h x dx C mA):∃od,PySem.W.InstAt h x (instObj C dx) C (some od)/\∀name,lookIn name od=some (mA name) :=
 let⟨od,ho,hl⟩:=JB I.ns
 ⟨od,⟨I.obj,rfl,rfl,ho⟩,hl⟩
section
variable{prog:Program}{w:World}{A:Around}{E:Value->Shared->Prop}{s:Shared}{K:au}{x dx C f:Addr}{mA:Str->Option Value}{name:Str}{v:Value}
def Qc(X:K.In s.heap)(I:rP s.heap x dx C mA)(hg:PySem.W.plainGet K C name=true)(hh:PySem.W.hasDictIn K C=true)(ha:PySem.W.findIn K (.ref C) name=some none)(hv:mA name=some v)(jY:PySem.W.handedIn v=true)(h:Q v { s with toks:=s.toks+1 }):
  wpAny (model prog w) A (getAttr (.ref x) name expr) Q E s:=by
 obtain⟨od,J,hl⟩:=I.look;exact PySem.W.get_value X J (plainGet_of hg).1 (findObj_own hh ha rfl (by rw[hl,hv])) jY h
def Qd(X:K.In s.heap)(I:rP s.heap x dx C mA)(hg:PySem.W.plainGet K C name=true)(hf:PySem.W.findIn K (.ref C) name=some (some (.ref f)))(ht:PySem.W.isFn K (.ref f)=true)(hv:mA name=none)(h:Q (.ref f,[.ref x]) s):
  wpAny (model prog w) A (getMethod (.ref x) name pl) Q E s:=by
 obtain⟨od,J,hl⟩:=I.look;exact PySem.W.method_fn X J (plainGet_of hg).1 (plainGet_of hg).2 hf (beq_iff_eq.mp ht) (by show(lookIn name od).map (·.isSome)=some false;rw[hl,hv];rfl) h
theorem Qe(X:K.In s.heap)(I:rP s.heap x dx C mA)(hs:PySem.W.findIn K (.ref C) "__setattr__"=some (some (.builtin "object.__setattr__")))(hp:PySem.W.plainOver K C=true)(ht:PySem.W.takerIn K C name=some none)(hh:PySem.W.hasDictIn K C=true)(hw:PySem.Within mA ns)(hsz:ns.length<=sizeLine)(h:∀h',rP h' x dx C (fun y=>if y=name then some v else mA y)->Heap.SameBut dx s.heap h'->Q () { s with heap:=h',toks:=s.toks+2 }):
  wpAny (model prog w) A (setAttr (.ref x) name v) Q E s:=by
 obtain⟨od,J,hl⟩:=I.look;refine set_plain X J hs (PySem.W.osa_open (s:={ s with toks:=s.toks+1 }) (r:=none) X J hp ht fun b=>?_);obtain⟨cd,hc,fb⟩:=any_some hh;have hx:s.heap.get? x=some ⟨.ref C,some dx,.plain,#[]⟩:=I.obj;refine Yb (Ye (Yb (Yb (wpAny_loadPart hx (Yb (Looks.here (s:={ s with toks:=s.toks+1 }) (looks_clsIn X hc) ?_))))));rw[fb];refine Ye (a:=some dx) (Yb (Ye (Yb ?_)));refine wpAny_nsSet1 (s:={ s with toks:=s.toks+1 }) I.ns fun h' jZ wW=>?_;obtain⟨oD,Qf,Qg,C8,C9,lP⟩:=jZ.count (PySem.Within.cons name v hw);refine Yb (wpAny_lookBehind C8 (by rw[C9];exact pastItsLine_dict (YB lP (by rw[List.length_cons];lia))) ?_);exact Ye (h _ ⟨(wW.2 _ (Ne.symm I.ne)).trans I.obj,jZ,I.ne⟩ wW)
def JC(X:K.In s.heap)(hm:PySem.W.makesIn K C=true)(hi:PySem.W.findIn K (.ref C) "__init__"=some (some (.ref f)))(hf:PySem.W.typeIn K (.ref f)=some (.type "function"))(h : codeAny (model prog w) (A.under (.builtin "type.__call__" ⟨.ref C::vs,kw⟩)) (.call (.ref f) ⟨.ref (s.heap.objs.size + 1)::vs,kw⟩) (InitBack (s.heap.objs.size + 1) R)
   { s with heap:=(s.heap.push emptyDict).push (instObj C s.heap.objs.size) }):
  codeAny (model prog w) A (.call (.ref C) ⟨vs,kw⟩) R s:=by
 obtain⟨hh,g,d,t,os⟩:=s;exact make_core (makes_of X hm) (looks_findIn X hi) (fun self=>bind_fn X self hf) (.inl rfl) h
def Qh(X:K.In s.heap)(hm:PySem.W.makesIn K C=true)(hi:PySem.W.findIn K (.ref C) "__init__"=some (some (.builtin "object.__init__")))(hb:∀ self,Looks (model prog w) s.heap (bindSpecial (.builtin "object.__init__") self) (.builtin "object.__init__",[self]))(h : codeAny (model prog w) (A.under (.builtin "type.__call__" ⟨[.ref C],[]⟩)) (.call (.builtin "object.__init__") ⟨[.ref (s.heap.objs.size + 1)],[]⟩) (InitBack (s.heap.objs.size + 1) R)
   { s with heap:=(s.heap.push emptyDict).push (instObj C s.heap.objs.size) }):
  codeAny (model prog w) A (.call (.ref C) ⟨[],[]⟩) R s:=by
 obtain⟨hh,g,d,t,os⟩:=s;exact make_core (makes_of X hm) (looks_findIn X hi) hb (.inr ⟨rfl,rfl⟩) h
end
def de(f:Str)(v:V):List (Str×V)->List (Str×V)
 | []=>[(f,v)]
 | (g,x)::r=>if g=f then(g,v)::r else(g,x)::de f v r
theorem JD(f g:Str)(v:V):∀fs:List (Str×V),(de f v fs).lookup g=if g=f then some v else fs.lookup g
 | [] => by
  show List.lookup g [(f,v)]=_
  by_cases h:g=f
  .have hb:(g==f)=true:=beq_iff_eq.mpr h
   simp only[List.lookup,hb,if_pos h]
  .have hb:(g==f)=false:=Yx.mpr h
   simp only[List.lookup,hb,if_neg h]
 | (k, x)::r=>by
  have ih:=JD f g v r
  rw[show de f v ((k,x)::r)=(if k=f then(k,v)::r else(k,x)::de f v r)from rfl]
  by_cases hk:k=f
  .rw[if_pos hk]
   by_cases h:g=k
   .have hb:(g==k)=true:=beq_iff_eq.mpr h
    simp only[List.lookup,hb,if_pos (h.trans hk)]
   .have hb:(g==k)=false:=Yx.mpr h
    simp only[List.lookup,hb,if_neg (fun e:g=f=>h (e.trans hk.symm))]
  .rw[if_neg hk]
   by_cases h:g=k
   .have hb:(g==k)=true:=beq_iff_eq.mpr h
    simp only[List.lookup,hb,if_neg (fun e:g=f=>hk (h.symm.trans e))]
   .have hb:(g==k)=false:=Yx.mpr h
    simp only[List.lookup,hb]
    exact ih
theorem C_(f:Str)(v:V):∀fs:List (Str×V),f∈(de f v fs).map (·.1)/\∀g,g∈fs.map (·.1)->g∈(de f v fs).map (·.1)
 | []=>⟨by simp[de],fun g h=>by simp at h⟩
 | (k, x)::r=>by
  obtain⟨i1,i2⟩:=C_ f v r
  rw[show de f v ((k,x)::r)=(if k=f then(k,v)::r else(k,x)::de f v r)from rfl]
  by_cases hk:k=f
  .rw[if_pos hk]
   subst hk
   exact⟨by simp,fun g h=>by simpa using h⟩
  .rw[if_neg hk]
   refine⟨?_,fun g h=>?_⟩
   .rw[Yr]
    exact m9 _ i1
   .rw[Yr]at h ⊢
    rcases Yp.mp h with e|e
    .exact Yp.mpr (.inl e)
    .exact m9 _ (i2 g e)
theorem JE(f:Str)(v:V):∀fs:List (Str×V),(de f v fs).length<=fs.length+1
 | []=>by simp[de]
 | (k,x)::r=>by
  have ih:=JE f v r
  rw[show de f v ((k,x)::r)=(if k=f then(k,v)::r else(k,x)::de f v r)from rfl]
  by_cases hk:k=f
  .rw[if_pos hk,List.length_cons,List.length_cons];lia
  .rw[if_neg hk,List.length_cons,List.length_cons];lia
def iI.some_of(r:iI (some v) o):∃u,o=some u/\aX v u:=by
 cases o with
 | none=>exact(show False from r).elim
 | some u=>exact⟨u,rfl,r⟩
def iI.none_of(r:iI none o):o=none:=by
 cases o with
 | none=>rfl
 | some u=>exact(show False from r).elim
def JF(r:aX v u):PySem.W.handedIn u=true:=by
 cases v with
 | ay=>cases(show u=Value.none from r);rfl
 | bl b=>cases(show u=Value.bool b from r);rfl
 | int i=>obtain⟨t,e⟩:=(show ∃t,u=Value.int i t from r);cases e;rfl
 | str x=>obtain⟨t,e⟩:=(show ∃t,u=Value.str x t from r);cases e;rfl
 | jl b=>obtain⟨t,e⟩:=(show ∃t,u=Value.bytes b t from r);cases e;rfl
 | rG b=>obtain⟨t,e⟩:=(show ∃t,u=Value.float b t from r);cases e;rfl
 | ref a=>cases(show u=Value.ref a from r);rfl
 | ty n=>cases(show u=Value.type n from r);rfl
section
variable{P:Program}{w:World}{H H':Hp}{h h':Heap}{a C dx:Addr}{fs Po:List (Str×V)}
def wX(aE:cQ P w H h)(e:H a=some (.ins C dx fs)):∃mA,rP h a dx C mA/\(∀f,iI (fs.lookup f) (mA f))/\PySem.Within mA (fs.map (·.1))/\fs.length<=1000/\H dx=some (.own a):=by
 obtain⟨d,z,ne,ob,mA,n,r,q⟩:=(show dD P w H h a (.ins C dx fs)from aE a _ e);exact⟨mA,⟨ob,n,ne⟩,r,q,z,d⟩
end
structure eX (K:au) (C:Addr):Prop where
 pg:PySem.W.plainGet K C Str.empty=true
 hd:PySem.W.hasDictIn K C=true
 po:PySem.W.plainOver K C=true
 sa:PySem.W.findIn K (.ref C) "__setattr__"=some (some (.builtin "object.__setattr__"))
def eX.get{K:au}(c:eX K C)(f:Str):PySem.W.plainGet K C f=true:=c.pg
def f7(K:au)(C:Addr)(f:Str):Prop:=PySem.W.findIn K (.ref C) f=some none
def f7.qh{K:au}(n:f7 K C f):PySem.W.takerIn K C f=some none:=by
 unfold PySem.W.takerIn;rw[show PySem.W.findIn K (.ref C) f=some none from n];rfl
structure z7 (K:au) (C:Addr) (m:Str) (f:Addr):Prop where
 at_:PySem.W.findIn K (.ref C) m=some (some (.ref f))
 fn:PySem.W.isFn K (.ref f)=true
 kp:PySem.W.keepIn K (.ref f)=true
section
variable{X:Cx}{pins:List (Addr×Obj)}{σ:St}{H:Hp}{s:Shared}{a C dx:Addr}{fs:List (Str×V)}{f:Str}{v:V}{A:Around}{E:Value->Shared->Prop}
def Qi(I:Inv X pins σ H s)(e:H a=some (.ins C dx fs))(c:eX X.K C)(n:f7 X.K C f)(l:fs.lookup f=some v)(h:∀u s',Inv X pins σ H s'->aX v u->Q u s'):wpAny (model X.prog X.w) A (getAttr (.ref a) f b) Q E s:=by
 obtain⟨mA,O,r,_,_,_⟩:=wX I.aE e;obtain⟨u,hu,ru⟩:=iI.some_of (v:=v) (o:=mA f) (by rw[<- l];exact r f);exact Qc I.br O (c.get f) c.hd n hu (JF ru) (h u _ (I.tok _) ru)
def Qj(I:Inv X pins σ H s)(e:H a=some (.ins C dx fs))(c:eX X.K C)(k:z7 X.K C m g)(l:fs.lookup m=none)(h:Q (.ref g,[.ref a]) s):wpAny (model X.prog X.w) A (getMethod (.ref a) m pl) Q E s:=by
 obtain⟨mA,O,r,_,_,_⟩:=wX I.aE e;have hn:mA m=none:=iI.none_of (by rw[<- l];exact r m);exact Qd I.br O (c.get m) k.at_ k.fn hn h
theorem Qk(I:Inv X pins σ H s)(e:H a=some (.ins C dx fs))(c:eX X.K C)(n:f7 X.K C f)(hl:fs.length<1000)(ry:aX y u)(h:∀s',Inv X pins σ (upd H a (.ins C dx (de f y fs))) s'->Q () s'):wpAny (model X.prog X.w) A (setAttr (.ref a) f u) Q E s:=by
 obtain⟨mA,O,r,wi,_,ho⟩:=wX I.aE e;have hz:(fs.map (·.1)).length<=sizeLine:=by rw[Yc,Y2];lia
 refine Qe I.br O c.sa c.po n.qh c.hd wi hz fun h' O' sb=>h _ ?_;have hd:∃o,h'.get? dx=some o:=let⟨o,_,_,e',_⟩:=O'.ns;⟨o,e'⟩;refine I.write (x:=a) (e:=dx) (by rw[e];exact True.intro) (.inr ho) (fun b q hb z=>(sb.2 b hb).trans z) hd ?_;refine⟨by rw[Zn O.ne];exact ho,?_,O.ne,O'.obj,_,O'.ns,fun g=>?_,fun g hg=>?_⟩
 .have:=JE f y fs;lia
 .show iI ((de f y fs).lookup g) (if g=f then some u else mA g);rw[JD];by_cases q:g=f
  .rw[if_pos q,if_pos q];exact ry
  .rw[if_neg q,if_neg q];exact r g
 .by_cases q:g=f
  .rw[q];exact(C_ f y fs).1
  .refine(C_ f y fs).2 g (wi g fun z=>hg ?_);show(if g=f then some u else mA g)=none;rw[if_neg q];exact z
def Inv.made(I:Inv X pins σ H s):Inv X pins σ (upd (upd H s.heap.objs.size (.own (s.heap.objs.size+1))) (s.heap.objs.size+1) (.ins C s.heap.objs.size []))
  { s with heap:=(s.heap.push emptyDict).push (instObj C s.heap.objs.size) }:=by
 have e1:(s.heap.push emptyDict).get? s.heap.objs.size=some emptyDict:=Yl s.heap rfl;have e2:((s.heap.push emptyDict).push (instObj C s.heap.objs.size)).get? (s.heap.objs.size+1)=some (instObj C s.heap.objs.size):=by
  have:=Yl (s.heap.push emptyDict) (o:=instObj C s.heap.objs.size) rfl;rwa [YK]at this
 have e3:(s.heap.push emptyDict).Ns s.heap.objs.size (fun _=>none):=⟨emptyDict,#[],_,e1,rfl,(fun e he=>absurd he (by simp)),fun _=>rfl⟩;have I1:=I.laid (a:=s.heap.objs.size) (o:=.own (s.heap.objs.size+1)) (h':=s.heap.push emptyDict) (t':=s.toks) (fun b u q=>Yd _ q) (Yk _) ⟨_,e1⟩;refine I1.laid (a:=s.heap.objs.size+1) (o:=.ins C s.heap.objs.size []) (t':=s.toks) (fun b u q=>Yd _ q) (CF (YK _ _)) ?_;have ne:s.heap.objs.size≠s.heap.objs.size+1:=Yo (Y7 _);refine⟨by rw[Zn ne,Zs],Y9 _,ne,e2,fun _=>none,(Heap.Ns1.of_empty e3).at fun o q=>Yd _ q,fun _=>True.intro,fun y hy=>absurd rfl hy⟩
def JG(hb:attributeBase e f env (eval e env)=eval e env)(h:wpAny (model prog w) A (eval e env) (fun o aG=>wpAny (model prog w) A (getAttr o f true) Q E aG) E s):wpAny (model prog w) A (eval (.Attribute e f pos) env) Q E s :=
 Attribute_any_ h (by rw[arm_eval_Attribute,hb])
end
def JH(K:au)(ta:TE)(f:Str):TE:=fun σ H Q=>ta σ H fun x H1=>∃a C dx fs v,x=.ref a/\H1 a=some (.ins C dx fs)/\eX K C/\f7 K C f/\fs.lookup f=some v/\Q v H1
def JI(K:au)(ta tv:TE)(f:Str):TS:=fun D σ H=>tv σ H fun y H1=>ta σ H1 fun x H2=>∃a C dx fs,x=.ref a/\H2 a=some (.ins C dx fs)/\eX K C/\f7 K C f/\fs.length<1000 /\
 D.nx σ (upd H2 a (.ins C dx (de f y fs)))
section
variable{X:Cx}{o e value:Expr}{f:Str}{pos pos' Ql:Pos}{ta tv:TE}
def Z6(he:PE X e ta)(hb:attributeBase e f X.env (eval e X.env)=eval e X.env):PE X (.Attribute e f pos) (JH X.K ta f):=by
 intro pins s σ H Q I h;refine JG hb (aK (he pins s σ H _ I h) fun u s1 aH=>?_);obtain⟨x,H1,I1,rx,a,C,dx,fs,v,ex,ea,c,n,l,q⟩:=aH;subst ex;obtain rfl:u=Value.ref a:=rx;exact Qi I1 ea c n l fun u' s2 I2 ru=>⟨v,H1,I2,ru,q⟩
def jr(ha:PE X o ta)(hv:PE X value tv)(hs:swapsWith value (some (.Attribute o f pos')) pos.line X.env=pure false):PS X (.Assign [.Attribute o f pos'] value pos) (JI X.K ta tv f):=by
 intro pins s σ H D I h;refine plainObj_wpAny_Assign_Attribute (aK (hv pins s σ H _ I h) fun u s1 ⟨y,H1,I1,ry,q⟩=>aK (ha pins s1 σ H1 _ I1 q) fun ov s2 ⟨x,H2,I2,rx,a,C,dx,fs,ex,ea,c,n,l,q2⟩=>?_) hs;subst ex;obtain rfl:ov=Value.ref a:=rx;exact Qk I2 ea c n l ry fun s3 I3=>⟨σ,_,I3,q2⟩
end
section
variable{X:Cx}{pins:List (Addr×Obj)}{σ:St}{H:Hp}{s:Shared}{A:Around}{E:Value->Shared->Prop}{Q:Value->Shared->Prop}{c:Value}{b:Bool}
inductive j0 (K:au) (H:Hp):V->Value->Prop where
 | ay:j0 K H .ay (.type "NoneType")
 | bl (x:Bool):j0 K H (.bl x) (.type "bool")
 | int (i:Int):j0 K H (.int i) (.type "int")
 | str (x:Str):j0 K H (.str x) (.type "str")
 | rG (x:UInt64):j0 K H (.rG x) (.type "float")
 | lst {a:Addr} {xs:List V} (e:H a=some (.lst xs)):j0 K H (.ref a) (.type "list")
 | gN {a:Addr} {o:Obj} {xs:List V} (e:H a=some (.gN o (.lst xs))):j0 K H (.ref a) (.type "list")
 | tup {a:Addr} {xs:List V} (e:H a=some (.tup xs)):j0 K H (.ref a) (.type "tuple")
 | dK {a:Addr} {aq:List (Key×V)} (e:H a=some (.dK aq)):j0 K H (.ref a) (.type "dict")
 | dT {a:Addr} {aq:List (List Key×V)} (e:H a=some (.dT aq)):j0 K H (.ref a) (.type "dict")
 | ins {a C dx:Addr} {fs:List (Str×V)} (e:H a=some (.ins C dx fs)) (cl:eX K C) (ha:PySem.W.findIn K (.ref C) "__class__"=some (some (.builtin "object.__class__")))
   (hn:PySem.W.specialIn K (.builtin "object.__class__") "__get__"=some (some (.builtin "getset_descriptor.__get__"))) (oI:PySem.W.takesIn K (.builtin "object.__class__")=some true)
   (hm:PySem.W.mroIn K C (.type "object")=some true):j0 K H (.ref a) (.ref C)
def JJ(I:Inv X pins σ H s)(rx:aX x u)(ty:j0 X.K H x t)(e:PySem.W.kitOne X.K t c=some b)(h:∀tk,Q (.bool b) { s with toks:=tk }):
  wpAny (model X.prog X.w) A (call (.builtin "isinstance") [u,c]) Q E s:=by
 cases ty with
 | ay=>cases(show u=Value.none from rx);exact Y5 PySem.W.kitx_none I.br True.intro e (fun z=>nomatch z) h
 | bl y=>cases(show u=Value.bool y from rx);exact Y5 PySem.W.kitx_bool I.br True.intro e (fun z=>nomatch z) h
 | int i=>obtain⟨t,q⟩:=(show ∃t,u=Value.int i t from rx);cases q;exact Y5 PySem.W.kitx_int I.br True.intro e (fun z=>nomatch z) h
 | str y=>obtain⟨t,q⟩:=(show ∃t,u=Value.str y t from rx);cases q;exact Y5 PySem.W.kitx_str I.br True.intro e (fun z=>nomatch z) h
 | rG y=>obtain⟨t,q⟩:=(show ∃t,u=Value.float y t from rx);cases q;exact Y5 PySem.W.kitx_float I.br True.intro e (fun z=>nomatch z) h
 | @lst a xs ea =>
  cases(show u=Value.ref a from rx);obtain⟨_,_,n,_,h1⟩:=(show dD X.prog X.w H s.heap a (.lst xs)from I.aE a _ ea);exact Y5 Cv I.br ⟨_,h1,rfl⟩ e (fun z=>nomatch z) h
 | @gN a ob xs ea =>
  cases(show u=Value.ref a from rx);obtain⟨_,_,_,n,_,h1⟩:=(show dD X.prog X.w H s.heap a (.gN ob (.lst xs))from I.aE a _ ea);exact Y5 Cv I.br ⟨_,h1,rfl⟩ e (fun z=>nomatch z) h
 | @tup a xs ea =>
  cases(show u=Value.ref a from rx);obtain⟨_,_,_,p⟩:=(show dD X.prog X.w H s.heap a (.tup xs)from I.aE a _ ea);obtain⟨o,h1,h2,_⟩:=p;exact Y5 II I.br ⟨o,h1,h2⟩ e (fun z=>nomatch z) h
 | @dK a aq ea =>
  cases(show u=Value.ref a from rx);obtain⟨_,_,vs,_,p⟩:=(show dD X.prog X.w H s.heap a (.dK aq)from I.aE a _ ea);obtain⟨o,es,ep,h1,h2,_⟩:=p;exact Y5 IL I.br ⟨o,h1,h2.1⟩ e (fun z=>nomatch z) h
 | @dT a aq ea =>
  cases(show u=Value.ref a from rx);obtain⟨_,_,xs,_,o,es,ep,h1,h2,_⟩:=(show dD X.prog X.w H s.heap a (.dT aq)from I.aE a _ ea);exact Y5 IL I.br ⟨o,h1,h2.1⟩ e (fun z=>nomatch z) h
 | @ins a C dx fs ea cl ha hn oI hm =>
  cases(show u=Value.ref a from rx);obtain⟨mA,O,_⟩:=wX I.aE ea;obtain⟨od,J,_⟩:=O.look;exact Y5 (kitx_own (cl.get _) cl.hd ha hn oI hm) I.br J e (fun z=>nomatch z) h
end
structure bW (k:Nat) (A:Around):Prop where
 hd:A.handled=none
 dp:A.depth+3*k+5<recursionLimit
 un:A.units+16*k+200<cLine
theorem bW.mono(r:bW k A)(h:j<=k):bW j A:=⟨r.hd,by have:=r.dp;lia,by have:=r.un;lia⟩
theorem bW.deeper(r:bW (k+1) A)(env:Env):bW k (A.deeper env) :=
 ⟨r.hd,by have:=r.dp;show A.depth+1+3*k+5<_;lia,by have:=r.un;show A.units+3+16*k+200<_;lia⟩
def Qm{A:Around}:(A.under (.builtin "type.__call__" ⟨.ref C::us,kw⟩)).depth=A.depth+1:=by
 first|rfl|simp[Around.under,Code.weight,Code.isCreation,Code.isGuard,Code.isCaller,Code.frames,Code.isFrame,guardIds]
def Qn{A:Around}:(A.under (.builtin "type.__call__" ⟨.ref C::us,kw⟩)).units=A.units+1:=by
 first|rfl|simp[Around.under,Code.cUnits,Code.frames,Code.isFrame]
theorem bW.make(r:bW (k+1) A)(C:Addr)(us:List Value)(kw:List (Str×Value)):bW k (A.under (.builtin "type.__call__" ⟨.ref C::us,kw⟩)) :=
 ⟨r.hd,by have:=r.dp;rw[Qm];lia,by have:=r.un;rw[Qn];lia⟩
theorem bW.depth(r:bW k A):A.depth<recursionLimit:=by have:=r.dp;lia
theorem bW.rQ(r:bW k A):A.units<cLine:=by have:=r.un;lia
def f9:TA:=fun _ H Q=>Q [] H
def cR(ta:TE)(tr:TA):TA:=fun σ H Q=>ta σ H fun x H1=>tr σ H1 fun xs H2=>Q (x::xs) H2
section
variable{X:Cx}{e:Expr}{es:List Expr}{te:TE}{t:TA}{pos:Pos}
def Zd:PA X [] f9:=fun _ _ _ _ H Q I h=>IM ⟨[],H,I,.nil,h⟩
def Za(ha:PE X e te)(hr:PA X es t)(hs:starEach (e::es) X.env=(false,eval e X.env)::starEach es X.env:=by rfl):PA X (e::es) (cR te t):=by
 intro pos pins s σ H Q I h;rw[hs];show wpAny _ _ (spliced ((false,eval e X.env)::backTo pos (starEach es X.env))) _ _ s;refine IJ (aK (ha pins s σ H _ I h) fun u s1 aH=>?_);obtain⟨x,H1,I1,r1,q1⟩:=aH;exact aK (hr pos pins s1 σ H1 _ I1 q1) fun us s2 ⟨xs,H2,I2,r2,q2⟩=>⟨x::xs,H2,I2,.cons r1 r2,q2⟩
def qi(t:TA):TE:=fun σ H Q=>t σ H fun xs H1=>xs.length<=sizeLine/\∀p,H1 p=none->Q (.ref p) (upd H1 p (.tup xs))
def uX(t:TA):TE:=fun σ H Q=>t σ H fun xs H1=>xs.length<=sizeLine/\∀p,H1 p=none->Q (.ref p) (upd H1 p (.lst xs))
def Zz(h:PA X es t):PE X (.Tuple es x1 pos) (qi t):=by
 intro pins s σ H Q I hq;refine wpAny_Tuple_spliced (aK (h pos pins s σ H _ I hq) fun us s1 ⟨xs,H1,I1,r,z,q⟩=>⟨by rw[<- r.length];exact z,?_⟩);have hf:H1 s1.heap.objs.size=none:=I1.aE.fresh (Yk _);exact⟨.ref s1.heap.objs.size,upd H1 s1.heap.objs.size (.tup xs),I1.laid (t':=s1.toks) (fun b u e=>Yd _ e) (Yk _) ⟨z,us,r,⟨_,Yl _ rfl,rfl,_,rfl⟩⟩,rfl,q _ hf⟩
def ZJ(h:PA X es t):PE X (.List es pos) (uX t):=by
 intro pins s σ H Q I hq;refine wpAny_List_spliced (aK (h pos pins s σ H _ I hq) fun us s1 ⟨xs,H1,I1,r,z,q⟩=>⟨by rw[<- r.length];exact z,?_⟩);have hf:H1 s1.heap.objs.size=none:=I1.aE.fresh (Yk _);exact⟨.ref s1.heap.objs.size,upd H1 s1.heap.objs.size (.lst xs),I1.laid (t':=s1.toks) (fun b u e=>Yd _ e) (Yk _) ⟨z,us,0,r,Yl _ rfl⟩,rfl,q _ hf⟩
end
abbrev Sp:=List V->Hp->VK->XK->Prop
abbrev lQ:=List Env->Hp->Shared->XK->Value->Shared->Prop
structure rR (P:Program) (w:World) (K:au) (mg:Str->Option Value) (base:Heap) (A:Around) (outer:List Env) (s:Shared) (H:Hp):Prop where
 frames:A.frames=some outer
 mod:Mod K mg base
 bs:∀b o,base.get? b=some o->s.heap.get? b=some o/\H b=none
 ou:base.objs.size<=s.heap.objs.size
 dJ:s.heap.FunFrames base outer
 rJ:∀b∈bx outer,H b=none
 aE:cQ P w H s.heap
 bare:AllBare s.gens
def CE(outer:List Env)(P:Program)(w:World)(H:Hp)(s:Shared)(Q:VK)(u:Value)(s':Shared):Prop :=
 ∃v H',s'.os=s.os/\AllBare s'.gens/\Un (bx outer) [] H H' s.heap s'.heap/\cQ P w H' s'.heap/\aX v u/\Q v H'
def CR(CX:lQ)(outer:List Env)(P:Program)(w:World)(H:Hp)(s:Shared)(Q:VK)(E:XK)(r:Result)(s':Shared):Prop :=
 match r with
 | .ok (.ret u)=>CE outer P w H s Q u s'
 | .ok _=>False
 | .error e=>CX outer H s E e s'
structure cz (P:Program) (w:World) (K:au) (mg:Str->Option Value) (base:Heap) (CX:lQ) (k:Nat) (f:Addr) (fd:FuncData) (ps:List Str) (sp:Sp):Prop where
 len:∀vs H Q E,sp vs H Q E->vs.length=ps.length
 run : ∀(A:Around)(outer:List Env)(s:Shared)(H:Hp)(args:Args)(us:List Value)(vs:List V)(Q:VK)(E:XK),bW k A->rR P w K mg base A outer s H->BindsTo s fd args (ps.zip us)->ZU vs us->sp vs H Q E ->
  codeAny (model P w) A (.call (.ref f) args) (CR CX outer P w H s Q E) s
def cz.mono{K:au}(F:cz P w K mg base CX j f fd ps sp)(h:j<=k):
  cz P w K mg base CX k f fd ps sp:=⟨F.len,fun A outer s H args us vs Q E hr=>F.run A outer s H args us vs Q E (hr.mono h)⟩
def cz.imp{K:au}(F:cz P w K mg base CX k f fd ps sp)(h:∀vs H Q E,Qo vs H Q E->sp vs H Q E):cz P w K mg base CX k f fd ps Qo :=
 ⟨fun vs H Q E q=>F.len vs H Q E (h _ _ _ _ q),fun A outer s H args us vs Q E hr he hb hv hs=>F.run A outer s H args us vs Q E hr he hb hv (h _ _ _ _ hs)⟩
def rR.make{K:au}(e:rR P w K mg base A outer s H)(C:Addr)(us:List Value)(kw:List (Str×Value)):
  rR P w K mg base (A.under (.builtin "type.__call__" ⟨.ref C::us,kw⟩)) outer s H:=⟨by first|exact e.frames|(simpa[Around.under,Code.envs,Code.isFrame,pushEnvs]using e.frames),e.mod,e.bs,e.ou,e.dJ,e.rJ,e.aE,e.bare⟩
section
variable{X:Cx}{pins:List (Addr×Obj)}{σ:St}{H:Hp}{s s':Shared}
def Inv.oJ(I:Inv X pins σ H s):rR X.prog X.w X.K X.mg X.base X.A X.stack s H :=
 ⟨I.ok.frames,I.ok.mod,I.bs,YB I.ok.ou I.sz,I.stack,I.fX,I.aE,I.bare⟩
def Inv.after(I:Inv X pins σ H s)(h:CE X.stack X.prog X.w H s Q u s'):EP X pins σ Q u s':=by
 obtain⟨v,H',os,bare,un,aE,r,q⟩:=h;obtain⟨hh,g,d,t,wY⟩:=s';obtain rfl:wY=s.os:=os;exact⟨v,H',I.call (h':=hh) (g':=g) (d':=d) (t':=t) (ch:=[]) un aE bare (fun b z=>absurd z (by simp)),r,q⟩
end
def Dc(sp:Sp)(dvs:List V)(E:XK)(t:TA):TE:=fun σ H Q=>t σ H fun vs H1=>sp (vs++dvs) H1 Q E
def JK(C:Addr)(sp:Sp)(dvs:List V)(E:XK)(t:TA):TE:=fun σ H Q=>t σ H fun vs H1=>∀x dx,H1 x=none->H1 dx=none->dx≠x ->
 sp (.ref x::(vs++dvs)) (upd (upd H1 dx (.own x)) x (.ins C dx [])) (fun v H2=>v=.ay/\Q (.ref x) H2) E
def kT(K:au)(fd:FuncData)(ps:List Str)(ds:List Value):Prop :=
 ∀(s:Shared)(us:List Value),K.In s.heap->(us++ds).length=ps.length->BindsTo s fd ⟨us,[]⟩ (ps.zip (us++ds))
def kT.all{K:au}(h:∀us:List Value,us.length=ps.length->bindArgs fd ⟨us,[]⟩=pure (ps.zip us)):kT K fd ps []:=fun s us _ hl=>by
 rw[YW]at hl ⊢
 exact .of_eq (h us hl)
def rS(CX:lQ)(X:Cx)(E:XK):Prop:=∀(pins:List (Addr×Obj))(σ:St)(H:Hp)(s:Shared)(e:Value)(s':Shared),Inv X pins σ H s->CX X.stack H s E e s'->X.xe e s'
section
variable{X:Cx}{CX:lQ}{k:Nat}{f C:Addr}{fd:FuncData}{ps:List Str}{sp:Sp}{dvs:List V}{ds:List Value}{E:XK}{x m:Str}{p pos apos:Pos}{e o:Expr}{es:List Expr}{ta:TE}{t:TA}
def Dd(F:cz X.prog X.w X.K X.mg X.base CX k f fd ps sp)(hr:bW k X.A)(hb:kT X.K fd ps ds)(hd:ZU dvs ds)(hx:rS CX X E)(I:Inv X pins σ H s)(r:ZU vs us)(h:sp (vs++dvs) H Q E):wpAny (model X.prog X.w) X.A (call (.ref f) us) (EP X pins σ Q) X.xe s:=by
 have r2:ZU (vs++dvs) (us++ds):=r.append hd;have hl:(us++ds).length=ps.length:=by rw[<- r2.length];exact F.len _ _ _ _ h
 refine kO (kN (F.run X.A X.stack s H ⟨us,[]⟩ (us++ds) (vs++dvs) Q E hr I.oJ (hb s us I.br hl) r2 h) fun r s' hq=>?_);cases r with
 | error e=>exact hx pins σ H s e s' I hq
 | ok fl =>
  cases fl with
  | ret u=>exact I.after hq
  | next=>exact False.elim hq
  | brk=>exact False.elim hq
  | cont=>exact False.elim hq
def Qp(F:cz X.prog X.w X.K X.mg X.base CX k f fd ps sp)(hr:bW k X.A)(hg:Gl X x)(hm:X.mg x=some (.ref f))(hk:PySem.W.keepIn X.K (.ref f)=true)(hb:kT X.K fd ps ds)(hd:ZU dvs ds)(hx:rS CX X E)(ha:PA X (e::es) t)(cK:(x==("__debug__":Str))=false:=by decide)(he:starEach (e::es) X.env=(false,eval e X.env)::starEach es X.env:=by rfl)(bA:(backTo pos (starEach es X.env)).any (·.1)=false:=by rfl):
  PE X (.Call (.Name x p) (e::es) [] pos) (Dc sp dvs E t):=by
 intro pins s σ H Q I h;exact lF (lM I hg hm (wu (h₀:=X.base) I.ok.mod.rH hk (aK (ha pos pins s σ H _ I h) fun us s1 ⟨vs,H1,I1,r,q⟩=>⟨I1.br,Dd F hr hb hd hx I1 r q⟩) he bA) cK)
structure Mk (K:au) (C f:Addr):Prop where
 makes:PySem.W.makesIn K C=true
 init:PySem.W.findIn K (.ref C) "__init__"=some (some (.ref f))
 fn:PySem.W.isFn K (.ref f)=true
 kp:PySem.W.keepIn K (.ref C)=true
def Qq(M:Mk X.K C f)(F:cz X.prog X.w X.K X.mg X.base CX k f fd ps sp)(hr:bW (k+1) X.A)(hb:kT X.K fd ps ds)(hd:ZU dvs ds)(hx:rS CX X E)(I:Inv X pins σ H s)(r:ZU vs us)(h:∀x dx,H x=none->H dx=none->dx≠x->sp (.ref x::(vs++dvs)) (upd (upd H dx (.own x)) x (.ins C dx [])) (fun v H2=>v=.ay/\Q (.ref x) H2) E):
  wpAny (model X.prog X.w) X.A (call (.ref C) us) (EP X pins σ Q) X.xe s:=by
 have hq:=h (s.heap.objs.size+1) s.heap.objs.size (I.aE.fresh (fV _)) (I.aE.fresh (Yk _)) (Yo (Y7 _));have I2:=Inv.made (C:=C) I;have r2:ZU (V.ref (s.heap.objs.size+1)::(vs++dvs)) (Value.ref (s.heap.objs.size+1)::(us++ds)):=.cons rfl (r.append hd);have hl:(Value.ref (s.heap.objs.size+1)::us++ds).length=ps.length:=by
  have e:=r2.length;rw[F.len _ _ _ _ hq]at e;exact e.symm
 refine kO (JC (f:=f) I.br M.makes M.init (beq_iff_eq.mp M.fn) (kN (F.run _ X.stack _ _ ⟨Value.ref (s.heap.objs.size+1)::us,[]⟩ (Value.ref (s.heap.objs.size+1)::(us++ds)) _ _ E (hr.make C us [])
  (I2.oJ.make C us []) (hb _ (Value.ref (s.heap.objs.size+1)::us) I2.br hl) r2 hq) fun r s' gT=>?_))
 cases r with
 | error e=>exact hx pins σ _ _ e s' I2 gT
 | ok fl =>
  cases fl with
  | ret u =>
   obtain⟨v,H',I3,rv,ev,q3⟩:=I2.after gT;subst ev;exact⟨rv,⟨V.ref (s.heap.objs.size+1),H',I3,rfl,q3⟩⟩
  | next=>exact False.elim gT
  | brk=>exact False.elim gT
  | cont=>exact False.elim gT
def qj(M:Mk X.K C f)(F:cz X.prog X.w X.K X.mg X.base CX k f fd ps sp)(hr:bW (k+1) X.A)(hg:Gl X x)(hm:X.mg x=some (.ref C))(hb:kT X.K fd ps ds)(hd:ZU dvs ds)(hx:rS CX X E)(ha:PA X (e::es) t)(cK:(x==("__debug__":Str))=false:=by decide)(he:starEach (e::es) X.env=(false,eval e X.env)::starEach es X.env:=by rfl)(bA:(backTo pos (starEach es X.env)).any (·.1)=false:=by rfl):
  PE X (.Call (.Name x p) (e::es) [] pos) (JK C sp dvs E t):=by
 intro pins s σ H Q I h;exact lF (lM I hg hm (wu (h₀:=X.base) I.ok.mod.rH M.kp (aK (ha pos pins s σ H _ I h) fun us s1 ⟨vs,H1,I1,r,q⟩=>⟨I1.br,Qq M F hr hb hd hx I1 r q⟩) he bA) cK)
end
structure gU (N P:List Str) (sc:Scope):Prop where
 kind:sc.kind=.function
 co:sc.isCoroutine=false
 gen:sc.isGenerator=false
 nd:N.Nodup
 pre:N.take P.length=P
 par:∀x∈P,sc.names.lookup x=some .local\/sc.names.lookup x=some .cell
 rT:∀y∈sc.names,y.2≠.free
theorem JL{kindOf:Str->Option NameKind}:∀ {binds:List (Str×Value)} {m:Str->Option Value},(∀v,(x,v)∉binds)->bindL kindOf binds m x=m x
 | [],_,_=>rfl
 | (n, v)::r,m,h=>by
  unfold bindL
  rw[JL fun w hw=>h w (m9 _ hw)]
  split
  .have:x≠n:=by rintro rfl;exact h v m_
   simp[this]
  .rfl
theorem JM{kindOf:Str->Option NameKind}:∀ {binds:List (Str×Value)} {m:Str->Option Value},(∀v,(x,v)∉binds)->bindC kindOf binds m x=m x
 | [],_,_=>rfl
 | (n, v)::r,m,h=>by
  unfold bindC
  rw[JM fun w hw=>h w (m9 _ hw)]
  split
  .rfl
  .have:x≠n:=by rintro rfl;exact h v m_
   simp[this]
theorem JN{kindOf:Str->Option NameKind}:∀ {P:List Str} {vs:List Value} {i:Nat} {m:Str->Option Value},P.Nodup->P[i]? = some x->vs[i]? = some v->kindOf x=some .local ->
  bindL kindOf (P.zip vs) m x=some v
 | [],_,_,_,_,h,_,_=>by simp at h
 | _::_,[],_,_,_,_,h,_=>by simp at h
 | p :: P,w::vs,0,m,nd,h1,h2,hk=>by
  simp at h1 h2;subst h1;subst h2
  show bindL kindOf ((p,w)::P.zip vs) m p=_
  unfold bindL
  rw[JL fun v hv=>(jV.mp nd).1 (CA hv).1,if_pos hk]
  simp
 | p :: P,w::vs,i+1,m,nd,h1,h2,hk=>by
  show bindL kindOf ((p,w)::P.zip vs) m x=_
  unfold bindL
  exact JN (i:=i) (jV.mp nd).2 (by simpa using h1) (by simpa using h2) hk
theorem JO{kindOf:Str->Option NameKind}:∀ {P:List Str} {vs:List Value} {i:Nat} {m:Str->Option Value},P.Nodup->P[i]? = some x->vs[i]? = some v->kindOf x≠some .local ->
  bindC kindOf (P.zip vs) m x=some v
 | [],_,_,_,_,h,_,_=>by simp at h
 | _::_,[],_,_,_,_,h,_=>by simp at h
 | p :: P,w::vs,0,m,nd,h1,h2,hk=>by
  simp at h1 h2;subst h1;subst h2
  show bindC kindOf ((p,w)::P.zip vs) m p=_
  unfold bindC
  rw[JM fun v hv=>(jV.mp nd).1 (CA hv).1,if_neg hk]
  simp
 | p :: P,w::vs,i+1,m,nd,h1,h2,hk=>by
  show bindC kindOf ((p,w)::P.zip vs) m x=_
  unfold bindC
  exact JO (i:=i) (jV.mp nd).2 (by simpa using h1) (by simpa using h2) hk
def start(N:List Str)(vs:List V):St:=vs.map some++List.replicate (N.length-vs.length) none
def ff(CX:lQ)(P:Program)(w:World)(K:au)(mg:Str->Option Value)(base:Heap)(N:List Str)(qual:Str)(scope:Scope)(f:Addr)(cd:Value)(A:Around)(outer:List Env)(s:Shared)(H:Hp)(E:XK):Cx where
 prog:=P
 w := w
 K := K
 mg:=mg
 base:=base
 A := A.deeper (envOfC qual scope s.heap.objs.size f cd)
 N := N
 bB:=s
 iR:=H
 env:=envOfC qual scope s.heap.objs.size f cd
 outer:=outer
 stack:=envOfC qual scope s.heap.objs.size f cd::outer
 ex:=[]
 calm:=true
 fn:=fun _=>true
 pn:=[]
 xe:=fun e s'=>wpAny (model P w) (A.deeper (envOfC qual scope s.heap.objs.size f cd)) (leaving (envOfC qual scope s.heap.objs.size f cd) e) (fun _ De=>CX outer H s E e De) (fun e' De=>CX outer H s E e' De) s'
def JP{sc:Scope}(h:sc.names.lookup x=some .cell):∃c,(cellsFrom n sc.names []).lookup x=some c:=by
 have q:=Il sc.names n [] (.inl h);exact zB.mp q
theorem Qr{K:au}(S:gU N ps scope)(hd:A.handled=none)(e0:rR P w K mg base A outer s H)(hl:vs.length=ps.length)(r:ZU vs us)(x:InCallC s s.heap.objs.size (bindL (envOfC qual scope s.heap.objs.size f cd).kindOf (ps.zip us) fun _=>none) (cellsFrom (s.heap.objs.size+1) scope.names []) (bindC (envOfC qual scope s.heap.objs.size f cd).kindOf (ps.zip us) fun _=>none) s1):
  Inv (ff CX P w K mg base N qual scope f cd A outer s H E) [] (start N vs) H s1:=by
 have bA:ps.length<=N.length:=by have:=congrArg List.length S.pre;rw[YD]at this;lia
 obtain⟨h1,tk,rfl,hk⟩:=x.done;have wZ:∀b:Addr,b∉(ff CX P w K mg base N qual scope f cd A outer s H E).ex:=fun b z=>absurd (show b∈([]:List Addr)from z) (by simp);refine⟨⟨e0.mod,S.kind,rfl,rfl,Yk _,fun y z c h1 h2=>?_,fun y hy=>?_,fun y c _ h=>?_,fun _=>hd,Around.frames_deeper e0.frames,.inr ⟨rfl,rfl⟩,fun b z=>absurd z (wZ b),e0.bs,e0.ou,fun b _ _=>wZ b,fun b z=>absurd z (wZ b),e0.dJ,e0.rJ⟩,
  rfl,e0.bare,Un.kept hk,⟨_,x.toInCall.ns,fun i y v h1 h2 h3=>?_⟩,fun y c h=>⟨_,x.cell y c h⟩,e0.aE.fresh (Yk _),fun y c h=>?_,fun p hp=>absurd (show p∈([]:List (Addr×Obj))from hp) (by simp),e0.aE.kept hk,?_⟩
 .exact name_of_addr x.apart (qb h1) (qb h2)
 .have hy:scope.names.lookup y=some .cell\/scope.names.lookup y=some .free:=hy;rcases hy with hy|hy
  .exact JP hy
  .exact absurd rfl (S.rT _ (qb hy))
 .exact lH (x.above y c (qb h))
 .have hi:i<vs.length:=by
   unfold start at h2;by_cases hi:i<vs.length
   .exact hi
   .rw[YZ (by simpa using hi)]at h2;rw[Ig]at h2;split at h2<;>cases h2
  have ha:vs[i]? = some v:=by
   unfold start at h2;rw[Y6 (by simpa using hi),Yj]at h2;cases e:vs[i]? with
   | none=>rw[e]at h2;cases h2
   | some a=>rw[e]at h2;cases h2;rfl
  obtain⟨u,hu,rv⟩:=r.get ha;have hp:ps[i]? = some y:=by
   rw[<- S.pre,Ci (by lia)];exact h1
  have JQ:ps.Nodup:=by rw[<- S.pre];exact S.nd.sublist (List.take_sublist _ _)
  refine⟨u,rv,?_⟩;rcases S.par y (Yi hp)with k|k
  .exact .inl ⟨k,JN JQ hp hu k⟩
  .obtain⟨c,e⟩:=JP (n:=s.heap.objs.size+1) k;refine .inr ⟨.inl k,c,e,?_⟩;have q:=x.cell y c e;rw[JO JQ hp hu (by show scope.names.lookup y≠_;rw[k];decide)]at q;exact q
 .exact e0.aE.fresh (lH (x.above y c (qb h)))
 .unfold start;show _=N.length;rw[Yq,Yc,Ip];lia
def JR{K:au}{dV kV doc pm bf ct oc:Value}(lk:K.lookup f=some ⟨oc,od,.func (PySem.W.fnOf name qual params body scope dV kV doc pm an bf ct),oK⟩)(gP:PySem.W.codeIn K bf qual=true)(S:gU N ps scope)(len:∀ vs H Q E,sp vs H Q E->vs.length=ps.length)(cT:∀ (A:Around) (outer:List Env) (s:Shared) (H:Hp) (vs:List V) (Q:VK) (E:XK),bW k (A.deeper (envOfC qual scope s.heap.objs.size f bf))->sp vs H Q E ->
   ∃t,d0 (ff CX P w K mg base N qual scope f bf A outer s H E) body t/\t { nx:=fun _ H'=>Q .ay H',rt:=Q } (start N vs) H):
  cz P w K mg base CX (k+1) f (PySem.W.fnOf name qual params body scope dV kV doc pm an bf ct) ps sp:=by
 refine⟨len,fun A outer s H args us vs Q E hr e0 hb r iJ=>?_⟩;have hl:=len _ _ _ _ iJ;have KX:K.In s.heap:=e0.mod.rH.keeps fun b o e=>(e0.bs b o e).1;have lim:s.heap.NoLimit:=e0.mod.nolimit.keeps fun b o e=>(e0.bs b o e).1;have w6:∀y∈ps.zip us,scope.names.lookup y.1=some .local\/(scope.names.lookup y.1=some .cell/\((cellsFrom (s.heap.objs.size+1) scope.names []).lookup y.1).isSome=true):=fun aD hy=>by
  obtain⟨n,v⟩:=aD;rcases S.par n (CA hy).1 with q|q
  .exact .inl q
  .exact .inr ⟨q,Il _ _ _ (.inl q)⟩
 refine codeAny_call_function hr.depth (KX _ _ lk) rfl S.co S.gen rfl (PySem.W.codeRec_of KX gP) (hb _ _ _ _ (wpAny_newFunctionEnv_cells S.kind w6 fun env he s1 x=>?_));subst he;refine⟨lim.keeps x.toInCall.keep,codeAny_func ?_⟩;obtain⟨t,ht,hq⟩:=cT A outer s H vs Q E (hr.deeper _) iJ;have I:Inv (ff CX P w K mg base N qual scope f bf A outer s H E) [] (start N vs) H s1:=Qr S hr.hd e0 hl r x;refine YH (ht [] s1 (start N vs) H _ I hq) (fun fl s' hs=>?_) fun e s' hs=>hs;have fin:∀ {aS:St} {H':Hp} {v:V} {u:Value},Inv (ff CX P w K mg base N qual scope f bf A outer s H E) [] aS H' s'->aX v u->Q v H'->CE outer P w H s Q u s' :=
  fun {aS H' v u} J rv q=>⟨v,H',J.os,J.bare,J.base,J.aE,rv,q⟩
 cases fl with
 | ret u =>
  obtain⟨v,aS,H',J,rv,q⟩:=hs;exact fin J rv q
 | next =>
  obtain⟨aS,H',J,q⟩:=hs;exact fin (v:=V.ay) (u:=Value.none) J rfl q
 | brk =>
  obtain⟨_,_,_,q⟩:=hs;exact False.elim q
 | cont =>
  obtain⟨_,_,_,q⟩:=hs;exact False.elim q
section
variable{X:Cx}{x:Str}{p pos:Pos}{e:Expr}{es:List Expr}{t:TA}{id T:String}{r:List V->Hp->VK->Prop}
def rU(r:List V->Hp->VK->Prop)(t:TA):TE:=fun σ H Q=>t σ H fun vs H1=>r vs H1 Q
def Qs(hc:Z4 X (.builtin id) r)(hg:Gl X x)(hm:X.mg x=none)(hv:bootBuiltins x=some (.builtin id))(ha:PA X (e::es) t)(hn:x≠"__name__":=by decide)(cK:(x==("__debug__":Str))=false:=by decide)(he:starEach (e::es) X.env=(false,eval e X.env)::starEach es X.env:=by rfl)(bA:(backTo pos (starEach es X.env)).any (·.1)=false:=by rfl):PE X (.Call (.Name x p) (e::es) [] pos) (rU r t):=by
 intro pins s σ H Q I h;exact lF (oB I hg hm hv (PyProof.Rows.callWith_builtin1 (aK (ha pos pins s σ H _ I h) fun us s1 ⟨vs,H1,I1,r1,q1⟩=>hc pins s1 σ H1 vs us Q I1 r1 q1) he bA) hn cK)
def Qt(hc:Z4 X (.type T) r)(hg:Gl X x)(hm:X.mg x=none)(hv:bootBuiltins x=some (.type T))(ha:PA X (e::es) t)(hn:x≠"__name__":=by decide)(cK:(x==("__debug__":Str))=false:=by decide)(he:starEach (e::es) X.env=(false,eval e X.env)::starEach es X.env:=by rfl)(bA:(backTo pos (starEach es X.env)).any (·.1)=false:=by rfl):PE X (.Call (.Name x p) (e::es) [] pos) (rU r t):=by
 intro pins s σ H Q I h;exact lF (oB I hg hm hv (wm (aK (ha pos pins s σ H _ I h) fun us s1 ⟨vs,H1,I1,r1,q1⟩=>hc pins s1 σ H1 vs us Q I1 r1 q1) he bA) hn cK)
def JS(hc:Z4 X (.type T) r)(hg:Gl X x)(hm:X.mg x=none)(hv:bootBuiltins x=some (.type T))(hn:x≠"__name__":=by decide)(cK:(x==("__debug__":Str))=false:=by decide):
  PE X (.Call (.Name x p) [] [] pos) (rU r f9):=by
 intro pins s σ H Q I h;refine lF (oB I hg hm hv ?_ hn cK);exact PyProof.Rows.callWith_type0 (hc pins s σ H [] [] Q I .nil h)
end
end L2
namespace HT
open PySem PyProof.Rows
def gV(A:Around)(s:Shared)(a:Int)(t:Tok)(c:Int)(u:Tok)(prog:Program)(w:World)(E:Value->Shared->Prop)(Q:Value->Shared->Prop)(h:Q (.bool (decide (a<c))) s):
  wpAny (model prog w) A (richCompare .Lt (.int a t) (.int c u)) Q E s :=
 (PyProof.Rows.lt_int h:wpAny (model prog w) A (compareOp .Lt (.int a t) (.int c u)) Q E s)
section
variable{prog:Program}{w:World}{A:Around}{E:Value->Shared->Prop}{s:Shared}
def oM(ht:IsTup s.heap t vs.toArray)(hb:IsTup s.heap b ws.toArray)(hv:vs≠[])(h1:ws=[]->Q (.ref t) s)(h2:ws≠[]->Q (.ref s.heap.objs.size) { s with heap:=s.heap.push { cls:=.type "tuple",data:=.seq (vs++ws).toArray } })(hsz:vs.length+ws.length<=sizeLine):wpAny (model prog w) A (binaryOp .Add (.ref t) (.ref b)) Q E s:=by
 obtain⟨⟨cls,dd,data,sl⟩,ho,hc,n,hd⟩:=id ht;obtain⟨⟨Df,kU,data2,z8⟩,lR,w8,n2,hd2⟩:=id hb;simp only at hc hd w8 hd2;subst hc hd w8 hd2;have e:vs.toArray++ws.toArray=(vs++ws).toArray:=by simp
 by_cases hw:ws=[]
 .exact zN ⟨_,ho,rfl⟩ ⟨_,lR,rfl⟩ IV seq_tuple_add Co Ck (Cj _ _)
   (tuple_addW1 t b vs.toArray ws.toArray n n2 dd kU sl z8 (by simpa using hv) (by simp[hw])) ⟨ho,lR,h1 hw⟩
 .refine zN ⟨_,ho,rfl⟩ ⟨_,lR,rfl⟩ IV seq_tuple_add Co Ck (Cj _ _)
   (tuple_addW2 t b vs.toArray ws.toArray n n2 dd kU sl z8 (by simpa using hv) (by simpa using hw) (by rw[Ys,Ys];exact hsz)) ⟨ho,lR,?_⟩
  rw[e];exact h2 hw
def aO(n d:Nat):Option Int->Nat
 | none=>d
 | some v=>if v<0 then(v+(n:Int)).toNat else min v.toNat n
def lT(n d:Nat):aO n d none=d:=rfl
theorem d5(n d k:Nat):aO n d (some (k:Int))=min k n:=by
 show(if(k:Int)<0 then((k:Int)+(n:Int)).toNat else min (k:Int).toNat n)=min k n;rw[if_neg (by lia),Int.toNat_natCast]
theorem iS(n d:Nat)(hd:d<=n)(o:Option Int):aO n d o<=n:=by
 cases o with
 | none=>exact hd
 | some v =>
  show(if v<0 then(v+(n:Int)).toNat else min v.toNat n)<=n;by_cases hv:v<0
  .rw[if_pos hv];lia
  .rw[if_neg hv];exact Nat.min_le_right _ _
theorem f_(v:Int)(n d:Nat):(if v<0 then max (v+(n:Int)) 0 else min v (n:Int))=((aO n d (some v):Nat):Int):=by
 show(if v<0 then max (v+(n:Int)) 0 else min v (n:Int))=(((if v<0 then(v+(n:Int)).toNat else min v.toNat n):Nat):Int);by_cases hv:v<0
 .simp only[if_pos hv];lia
 .simp only[if_neg hv];lia
theorem Qu(lo hi:Option Int)(n:Nat):Builtin.Slice.sliceAdjust lo hi 1 (n:Int)=(((aO n 0 lo:Nat):Int),((aO n n hi:Nat):Int)):=by
 have h1:¬((1:Int)<0):=by lia
 unfold Builtin.Slice.sliceAdjust;simp only[h1,fW];refine Prod.ext ?_ ?_
 .cases lo with
  | none=>rfl
  | some v=>exact f_ v n 0
 .cases hi with
  | none=>rfl
  | some v=>exact f_ v n n
theorem Qw(i j:Nat):Builtin.Slice.slicePlaces (i:Int) (j:Int) 1=j-i:=by
 unfold Builtin.Slice.slicePlaces;have h1:(1:Int)>0:=by lia
 simp only[h1,if_true,Int.ediv_one];split<;>lia
def JT(p:IsPart v o)(h:Q o s):wpAny (model prog w) A (Builtin.Slice.slicePartIndex v) Q E s:=by
 cases p with
 | none=>exact slicePart_none h
 | int i t=>exact slicePart_int h
def bQ{lo hi:Option Int}{Q:Int×Int×Nat->Shared->Prop}(hs:s.heap.IsSliceOf sl vl vu .none)(pl:IsPart vl lo)(pu:IsPart vu hi)(h:Q (((aO n 0 lo:Nat):Int),1,aO n n hi-aO n 0 lo) s):wpAny (model prog w) A (Builtin.Slice.sliceApplied (.ref sl) (pure (n:Int))) Q E s:=by
 obtain⟨os,gW,rV,lU⟩:=id hs;unfold Builtin.Slice.sliceApplied Builtin.Slice.sliceFields;refine Yb (Yb (Y8 gW lU (x:=vl) rfl (Yb (Y8 gW lU (x:=vu) rfl (Yb (Y8 gW lU (x:=.none) rfl (Ye ?_)))))));refine Yb (slicePart_none ?_);show wpAny _ _ (if((1:Int)==0)=true then _ else _) _ _ s;rw[if_neg (by decide)];refine Yb (JT pl (Yb (JT pu (Yb (Ye ?_)))));show wpAny _ _ (match Builtin.Slice.sliceAdjust lo hi 1 (n:Int)with|(lo,hi)=>pure (lo,(1:Int),Builtin.Slice.slicePlaces lo hi 1)) _ _ s;rw[Qu lo hi n];show wpAny _ _ (pure (((aO n 0 lo:Nat):Int),(1:Int),Builtin.Slice.slicePlaces ((aO n 0 lo:Nat):Int) ((aO n n hi:Nat):Int) 1)) _ _ s;rw[Qw];exact Ye h
theorem Qx(xs:Array Value)(i k:Nat):((List.range k).filterMap fun(m:Nat)=>xs[((i:Int)+(m:Int)*1).toNat]?).toArray=((xs.toList.drop i).take k).toArray:=by
 have e:(fun(m:Nat)=>xs[((i:Int)+(m:Int)*1).toNat]?)=fun m=>xs[i+m]?:=by
  funext m;have:((i:Int)+(m:Int)*1).toNat=i+m:=by lia
  rw[this]
 rw[e];have:=pick_run xs i k;rw[List.filterMap_map]at this;have e2:((fun x=>xs[x]?)∘fun x=>i+x)=fun m=>xs[i+m]?:=rfl;rw[e2]at this;rw[this]
theorem cU{lo hi:Option Int}(ht:IsTup s.heap t items)(hs:s.heap.IsSliceOf sl vl vu .none)(pl:IsPart vl lo)(pu:IsPart vu hi)(hw:¬(aO items.size 0 lo=0/\aO items.size items.size hi=items.size))(h:Q (.ref s.heap.objs.size) { s with heap:=s.heap.push { cls:=.type "tuple",data:=.seq ((items.toList.drop (aO items.size 0 lo)).take (aO items.size items.size hi-aO items.size 0 lo)).toArray } })(hsz:items.size<=sizeLine):wpAny (model prog w) A (getItem (.ref t) (.ref sl)) Q E s:=by
 have jt:sizeOk (.seq ((items.toList.drop (aO items.size 0 lo)).take (aO items.size items.size hi-aO items.size 0 lo)).toArray):=by
  show((items.toList.drop (aO items.size 0 lo)).take (aO items.size items.size hi-aO items.size 0 lo)).toArray.size<=sizeLine;rw[Ys,YD,og,Array.length_toList];lia
 have hj:aO items.size items.size hi<=items.size:=iS _ _ (Yk _) hi;obtain⟨os,gW,rV,lU⟩:=id hs;have hTs:s.TypeIs (.ref sl) "slice":=⟨os,gW,rV⟩;unfold getItem;try with_reducible refine YU ?_
 first|refine Yb (Ye ?_)|skip
 refine Yb (IP ht.typeIs (by decide) ?_);refine Yb (Y4 (name:=Str.ofString "__getitem__") ht.typeIs uH
  (Y1 uH ht.typeIs entry_tuple_getitem ?_ (args_tuple_getitem _ _)))
 show wpAny _ _ (Builtin.Tuple.tupleItemsOf (.ref t)>>=_) _ _ s;refine Yb (tupleItemsOf_ ht ?_);refine Yb (rD hTs ?_);rw[if_pos (by decide)];refine Yb (bQ hs pl pu ?_);have iT:¬((((aO items.size 0 lo:Nat):Int)==0&&(1:Int)==1&&(aO items.size items.size hi-aO items.size 0 lo)==items.size)=true):=by
  intro q;rw[YQ,YQ]at q;have q1:((aO items.size 0 lo:Nat):Int)=0:=eq_of_beq q.1.1;have q2:aO items.size items.size hi-aO items.size 0 lo=items.size:=eq_of_beq q.2;exact hw ⟨by lia,by lia⟩
 show wpAny _ _ (if(((aO items.size 0 lo:Nat):Int)==0&&(1:Int)==1&&(aO items.size items.size hi-aO items.size 0 lo)==items.size)=true then _ else _) _ _ s;rw[if_neg iT,Qx];first
  | exact Yb (m:=Builtin.Tuple.tupleExact _) (YO (Ye ⟨_,rfl,Ye h⟩) jt)
  | exact Yb (m:=Builtin.Tuple.tupleExact _) (YO (Yb (Ye (Ye ⟨_,rfl,Ye h⟩))) jt)
  | exact Yb (Yb (m:=Builtin.Tuple.tupleExact _) (YO (Ye (Ye ⟨_,rfl,Ye h⟩)) jt))
  | exact Yb (Yb (m:=Builtin.Tuple.tupleExact _) (YO (Ye ⟨_,rfl,Ye h⟩) jt))
end
end HT
namespace L2
open PySem PySem.Spec PyProof.Rows
abbrev TO:=St->Hp->(Option Int->Hp->Prop)->Prop
def PO(X:Cx)(e:Option Expr)(t:TO):Prop :=
 ∀(pins:List (Addr×Obj))(s:Shared)(σ:St)(H:Hp)(Q:Option Int->Hp->Prop),Inv X pins σ H s->t σ H Q ->
  wpAny (model X.prog X.w) X.A (evalPart e X.env) (fun u s'=>∃o H',Inv X pins σ H' s'/\IsPart u o/\Q o H') X.xe s
def JU:TO:=fun _ H Q=>Q none H
def JV(t:TE):TO:=fun σ H Q=>t σ H fun x H1=>∃i,x=.int i/\Q (some i) H1
section
variable{X:Cx}{e:Expr}{te:TE}{lo hi:Option Expr}{tl th:TO}{pos p2:Pos}
def oN:PO X none JU:=by
 intro pins s σ H Q I h;rw[evalPart_none];exact Ye ⟨none,H,I,.none,h⟩
def lW(h:PE X e te):PO X (some e) (JV te):=by
 intro pins s σ H Q I hw;rw[evalPart_some];refine aK (h pins s σ H _ I hw) fun u s1 aH=>?_;obtain⟨x,H1,I1,r1,q1⟩:=aH;obtain⟨i,rfl,q⟩:=q1;obtain⟨t,rfl⟩:=r1;exact⟨some i,H1,I1,.int i t,q⟩
def uY(X:Cx)(r:V->Option Int->Option Int->Hp->VK->Prop):Prop :=
 ∀(pins:List (Addr×Obj))(s:Shared)(σ:St)(H:Hp)(x:V)(v vl vu:Value)(lo hi:Option Int)(sl:Addr)(Q:VK),Inv X pins σ H s->aX x v->s.heap.IsSliceOf sl vl vu .none->IsPart vl lo->IsPart vu hi->r x lo hi H Q ->
  ∃T id,typeLookup (.type T) "__getitem__"=pure (some (.builtin id))/\s.TypeIs v T/\wpAny (model X.prog X.w) X.A (getItem v (.ref sl)) (EP X pins σ Q) X.xe s
def JW(r:V->Option Int->Option Int->Hp->VK->Prop)(te:TE)(tl th:TO):TE:=fun σ H Q=>te σ H fun x H1=>tl σ H1 fun l H2=>th σ H2 fun u H3=>r x l u H3 Q
def nv(hr:uY X r)(he:PE X e te)(hl:PO X lo tl)(hu:PO X hi th):PE X (.Subscript e (.Slice lo hi none p2) pos) (JW r te tl th):=by
 intro pins s σ H Q I h;refine Subscript_ (aK (he pins s σ H _ I h) fun v s1 aH=>?_);obtain⟨x,H1,I1,r1,q1⟩:=aH;refine wpAny_Slice (aK (hl pins s1 σ H1 _ I1 q1) fun vl s2 ⟨l,H2,I2,pl,q2⟩=>aK (hu pins s2 σ H2 _ I2 q2) fun vu s3 aH=>?_);obtain⟨u,H3,I3,pu,q3⟩:=aH;rw[evalPart_none];refine Ye ?_;have I4:Inv X pins σ H3 { s3 with heap:=s3.heap.push { cls:=.type "slice",data:=.fields #[vl,vu,.none] } }:=I3.kept (t':=s3.toks) fun b ob q=>Yd _ q;obtain⟨T,id,hT,ht,hg⟩:=hr pins { s3 with heap:=s3.heap.push { cls:=.type "slice",data:=.fields #[vl,vu,.none] } } σ H3 x v vl vu l u s3.heap.objs.size Q I4 r1 (Heap.IsSliceOf.new ..) pl pu q3;show wpAny (model X.prog X.w) X.A (subscriptTail e (.Slice lo hi none p2) v (.ref s3.heap.objs.size)) (EP X pins σ Q) X.xe { s3 with heap:=s3.heap.push { cls:=.type "slice",data:=.fields #[vl,vu,.none] } };exact tail_any (ops:=[.ref s3.heap.objs.size,v]) ht hT hg (by with_unfolding_all rfl)
def j4(xs:List V)(lo hi:Option Int):List V:=(xs.drop (HT.aO xs.length 0 lo)).take (HT.aO xs.length xs.length hi-HT.aO xs.length 0 lo)
theorem JX(xs:List V)(lo hi:Option Int):(j4 xs lo hi).length<=xs.length:=by
 unfold j4;rw[YD,og];lia
def Qy(K:au):V->Option Int->Option Int->Hp->VK->Prop:=fun x lo hi H Q=>∃a xs,x=.ref a/\bo K H a xs /\
 ¬(HT.aO xs.length 0 lo=0/\HT.aO xs.length xs.length hi=xs.length)/\∀p,H p=none->Q (.ref p) (upd H p (.tup (j4 xs lo hi)))
def Qz:uY X (Qy X.K):=by
 intro pins s σ H x v vl vu lo hi sl Q I rx hs pl pu h;obtain⟨a,xs,rfl,hx,hw,q⟩:=h;cases rx;obtain⟨its,r,ht,hz⟩:=I.tuple hx;have hlen:its.toArray.size=xs.length:=by rw[Ys];exact r.length.symm
 refine⟨"tuple",_,uH.lookup,ht.typeIs,?_⟩;refine HT.cU ht hs pl pu (by rw[hlen];exact hw) ?_ (by rw[hlen];exact hz);rw[hlen];exact⟨.ref s.heap.objs.size,_,I.laid (t':=s.toks) (o:=.tup (j4 xs lo hi)) (fun b ob q=>Yd _ q) (Yk _) ⟨YB (JX xs lo hi) hz,_,(r.drop (HT.aO xs.length 0 lo)).take (HT.aO xs.length xs.length hi-HT.aO xs.length 0 lo),IsTup.new _ _⟩,rfl,q _ (I.aE.fresh (Yk _))⟩
def QA(K:au):R2:=fun x y H Q=>∃a b xs ys,x=.ref a/\y=.ref b/\bo K H a xs/\bo K H b ys/\xs≠[]/\xs.length+ys.length<=sizeLine /\
 (ys=[]->Q (.ref a) H)/\(ys≠[]->∀p,H p=none->Q (.ref p) (upd H p (.tup (xs++ys))))
def ZU.gb(r:ZU xs us):us=[]↔xs=[]:=by
 cases r with
 | nil=>simp
 | cons _ _=>simp
def QB:a8 X (binaryOp .Add) (QA X.K):=by
 intro pins s σ H x y v u Q I rx ry h;obtain⟨a,b,xs,ys,rfl,rfl,ha,hb,hx,hz,q1,q2⟩:=h;cases rx;cases ry;obtain⟨its,r1,p1,_⟩:=I.tuple ha;obtain⟨cV,r2,p2,_⟩:=I.tuple hb;refine HT.oM p1 p2 (fun z=>hx (r1.gb.mp z)) (fun z=>⟨.ref a,H,I,rfl,q1 (r2.gb.mp z)⟩) (fun z=>?_) (by rw[<- r1.length,<- r2.length];exact hz);refine⟨.ref s.heap.objs.size,_,I.laid (t':=s.toks) (o:=.tup (xs++ys)) (fun b ob q=>Yd _ q) (Yk _) ?_,rfl,q2 (fun w=>z (r2.gb.mpr w)) _ (I.aE.fresh (Yk _))⟩;exact⟨by rw[Yq];exact hz,_,r1.append r2,IsTup.new _ _⟩
end
def iU(n:Nat)(i:Int):Option Nat:=if 0<=i then(if i<n then some i.toNat else none)else if -(n:Int)<=i then some (i+n).toNat else none
def bX{α:Type}(xs:List α)(i:Int):Option α:=(iU xs.length i).bind fun j=>xs[j]?
theorem JY(h:iU n i=some j):seqIndex? i n=some j/\j<n/\-(n:Int)<=i/\i<n:=by
 unfold iU at h;by_cases h0:0<=i
 .rw[if_pos h0]at h;by_cases h1:i<n
  .rw[if_pos h1]at h;have e:i.toNat=j:=YA h;exact⟨by rw[seqIndex_of h0 h1,e],by lia,by lia,h1⟩
  .rw[if_neg h1]at h;cases h
 .rw[if_neg h0]at h;by_cases h1:-(n:Int)<=i
  .rw[if_pos h1]at h;have e:(i+n).toNat=j:=YA h;exact⟨by rw[seqIndex_neg (by lia) h1,e],by lia,h1,by lia⟩
  .rw[if_neg h1]at h;cases h
def Dg(h:bX xs i=some v):∃j,seqIndex? i xs.length=some j/\xs[j]? = some v/\j<xs.length/\-(xs.length:Int)<=i/\i<xs.length:=by
 unfold bX at h;cases e:iU xs.length i with
 | none=>rw[e]at h;cases h
 | some j =>
  rw[e]at h;obtain⟨h1,h2,h3,h4⟩:=JY e;exact⟨j,h1,h,h2,h3,h4⟩
theorem ZQ{j:Nat}(h:xs[j]? = some v):bX xs (j:Int)=some v:=by
 have hj:j<xs.length:=(Yg.mp h).1;have e:iU xs.length (j:Int)=some j:=by
  unfold iU;rw[if_pos (by lia),if_pos (by lia)];simp
 unfold bX;rw[e];exact h
def QC(b:Expr):Prop:=∀o i,subscripted b false o i=operate [o,i] (getItem o i)
def j5(X:Cx)(r:R2):Prop :=
 ∀(value slice:Expr)(pins:List (Addr×Obj))(s:Shared)(σ:St)(H:Hp)(x y:V)(v u:Value)(Q:VK),Inv X pins σ H s->aX x v->aX y u->r x y H Q ->
  subscripted slice false v u=operate [v,u] (getItem v u)->wpAny (model X.prog X.w) X.A (subscriptTail value slice v u) (EP X pins σ Q) X.xe s
def z9(X:Cx)(id:String)(r:V->List V->Hp->VK->Prop):Prop :=
 ∀(pins:List (Addr×Obj))(s:Shared)(σ:St)(H:Hp)(x:V)(xs:List V)(v:Value)(us:List Value)(Q:VK),Inv X pins σ H s->aX x v->ZU xs us->r x xs H Q ->
  wpAny (model X.prog X.w) X.A (call (.builtin id) (v::us)) (EP X pins σ Q) X.xe s
section
variable{X:Cx}{a b:Expr}{ta tb:TE}{pos:Pos}
def j5.or(h:j5 X r)(h':j5 X r'):j5 X (fun x y H Q=>r x y H Q\/r' x y H Q):=by
 intro value slice pins s σ H x y v u Q I rx ry q hs;rcases q with q|q
 .exact h value slice pins s σ H x y v u Q I rx ry q hs
 .exact h' value slice pins s σ H x y v u Q I rx ry q hs
def Zt(hr:j5 X r)(ha:PE X a ta)(hb:PE X b tb)(hs:QC b):PE X (.Subscript a b pos) (wU r ta tb):=by
 intro pins s σ H Q I h;exact Subscript_ (CY ha hb I h fun v u s2 x y H2 I2 rx ry q=>hr a b pins s2 σ H2 x y v u Q I2 rx ry q (hs _ _))
def JZ(K:au):R2:=fun x y H Q=>∃p xs i v,x=.ref p/\y=.int i/\aZ K H p xs/\bX xs i=some v/\Q v H
def J0(K:au):R2:=fun x y H Q=>∃p xs i v,x=.ref p/\y=.int i/\bo K H p xs/\bX xs i=some v/\Q v H
def J2:R2:=fun x y H Q=>∃z i c,x=.str z/\y=.int i/\z.length<=sizeLine/\bX z.cps.toList i=some c/\Q (.str ⟨#[c]⟩) H
theorem QD:j5 X (JZ X.K):=by
 intro value slice pins s σ H x y v u Q I rx ry h hs;obtain⟨p,xs,i,z,rfl,rfl,hq,he,q⟩:=h;cases rx;obtain⟨t,rfl⟩:=ry;obtain⟨its,r,pl,hz⟩:=I.list hq;obtain⟨j,h1,h2,h3,h4,h5⟩:=Dg he;obtain⟨w,ew,w9⟩:=r.get h2;have hl:=r.length;have hn:=rO;have fin:EP X pins σ Q w s:=⟨z,H,I,w9,q⟩;by_cases h0:0<=i
 .have hj:i.toNat=j:=by
   rw[seqIndex_of h0 h5]at h1;exact YA h1
  exact item_listR pl.isList h0 (by lia) (by rw[hj];simpa using ew) fin hs
 .have hj:(i+(its.toArray.size:Int)).toNat=j:=by
   rw[seqIndex_neg (by lia) h4]at h1;rw[Ys,<- hl];exact YA h1
  exact Im (x:=w) pl.isList.typeIs IQ.lookup
   (wpAny_getItem_list_neg (Q:=fun r s'=>r=w/\EP X pins σ Q r s') pl.isList (by lia) (by rw[Ys]<;>lia) (by lia) (by rw[hj];simpa using ew) ⟨rfl,fin⟩) hs
def QE:j5 X (J0 X.K):=by
 intro value slice pins s σ H x y v u Q I rx ry h hs;obtain⟨p,xs,i,z,rfl,rfl,hq,he,q⟩:=h;cases rx;obtain⟨t,rfl⟩:=ry;obtain⟨its,r,pl,hz⟩:=I.tuple hq;obtain⟨j,h1,h2,h3,h4,h5⟩:=Dg he;obtain⟨w,ew,w9⟩:=r.get h2;have hl:=r.length;have hn:=rO;have fin:EP X pins σ Q w s:=⟨z,H,I,w9,q⟩;exact Im (x:=w) pl.typeIs slot_tuple_getitem.lookup
  (getItem_tuple (j:=j) (Q:=fun r s'=>r=w/\EP X pins σ Q r s') pl (by lia) (by lia) (by rw[Ys,<- hl];exact h1) (by simpa using ew) ⟨rfl,fin⟩) hs
theorem z_:j5 X J2:=by
 intro value slice pins s σ H x y v u Q I rx ry h hs;obtain⟨z,i,c,rfl,rfl,hz,he,q⟩:=h;obtain⟨t,rfl⟩:=rx;obtain⟨t',rfl⟩:=ry;obtain⟨j,h1,h2,h3,h4,h5⟩:=Dg he;have hl:z.cps.toList.length=z.length:=by simp[Str.length]
 rw[hl]at h1 h4 h5;have hn:=rO;exact tail_any (typeIs_str s z t) slot_str_getitem.lookup (getItem_str (c:=c) (by
  have e1:decide (i < -(2^63:Int))=false:=Yu (by lia);have e2:decide (i ≥ 2^63)=false:=Yu (by lia);rw[e1,e2,Bool.or_false]) (by rw[h1];simpa using h2) ⟨.str ⟨#[c]⟩,H,I.tok _,⟨_,rfl⟩,q⟩) hs
def QF(K:au):R2:=fun x y H Q=>JZ K x y H Q\/J0 K x y H Q\/J2 x y H Q
def QG:j5 X (QF X.K):=QD.or (QE.or z_)
def QH(its:List Value)(n j:Nat)(u:Value):Obj.mapSeq (·.setIfInBounds j u) { cls:=.type "list",data:=.seq its.toArray n }={ cls:=.type "list",data:=.seq (its.set j u).toArray n }:=by
 simp[Obj.mapSeq]
def Inv.lst(I:Inv X pins σ H s)(h:H p=some (.lst xs)):
  ∃(its:List Value)(n:Nat),ZU xs its/\s.heap.get? p=some { cls:=.type "list",data:=.seq its.toArray n }/\xs.length<=sizeLine:=by
 obtain⟨z,its,n,r,e⟩:=I.aE p _ h;exact⟨its,n,r,e,z⟩
def Inv.rW{its its':List Value}(I:Inv X pins σ H s)(h:H p=some (.lst xs))(ho:s.heap.get? p=some { cls:=.type "list",data:=.seq its.toArray n })(hf:f { cls:=.type "list",data:=.seq its.toArray n }={ cls:=.type "list",data:=.seq its'.toArray n' })(r:ZU ys its')(hz:ys.length<=sizeLine)(t:Nat):
  Inv X pins σ (upd H p (.lst ys)) { s with heap:=s.heap.update p f,toks:=t }:=by
 have e:(s.heap.update p f).get? p=some { cls:=.type "list",data:=.seq its'.toArray n' }:=by
  rw[YE f ho (by rw[hf]<;>rfl),hf]
 refine I.write (x:=p) (e:=p) (by rw[h];trivial) (.inl rfl) (fun b u hb q=>(YF _ _ (Ne.symm hb)).trans q) ⟨_,e⟩ ?_;exact⟨hz,its',n',r,e⟩
def J3:V->V->V->Hp->(Hp->Prop)->Prop:=fun o i v H Q=>∃p xs k j,o=.ref p/\i=.int k/\H p=some (.lst xs)/\iU xs.length k=some j/\Q (upd H p (.lst (xs.set j v)))
def Dh:CT X J3:=by
 intro pins s σ H o i v ov iv u Q I ro ri rv h;obtain⟨p,xs,k,j,rfl,rfl,hp,hj,q⟩:=h;cases ro;obtain⟨t,rfl⟩:=ri;obtain⟨its,n,r,ho,hz⟩:=I.lst hp;obtain⟨h1,h2,h3,h4⟩:=JY hj;have hl:=r.length;have hn:=rO;have I':Inv X pins σ (upd H p (.lst (xs.set j v))) { s with heap:=s.heap.update p (Obj.mapSeq (·.setIfInBounds j u)) } :=
  I.rW hp ho (QH its n j u) (r.set rv j) (by rw[zJ];exact hz) s.toks
 by_cases h0:0<=k
 .have hk:k.toNat=j:=by
   rw[seqIndex_of h0 h4]at h1;exact YA h1
  exact PySem.W.ki_setAt ho h0 (by lia) (by rw[Ys,<- hl];exact h4) (by rw[hk];exact⟨_,I',q⟩)
 .have hk:(k+(its.toArray.size:Int)).toNat=j:=by
   rw[seqIndex_neg (by lia) h3]at h1;rw[Ys,<- hl];exact YA h1
  exact PySem.W.ki_setBack ho (by lia) (by rw[Ys,<- hl];exact h3) (by lia) (by rw[hk];exact⟨_,I',q⟩)
theorem QI(lo hi:Option Int)(n:Nat):(sliceBounds lo hi none n).1=((HT.aO n 0 lo:Nat):Int)/\(sliceBounds lo hi none n).2.1=((HT.aO n n hi:Nat):Int)/\(sliceBounds lo hi none n).2.2=1:=by
 refine⟨?_,?_,rfl⟩
 .cases lo with
  | none=>simp[sliceBounds,HT.aO]
  | some i =>
   simp only[sliceBounds,HT.aO,Option.getD_none,show(1:Int)>0 by decide,if_true];by_cases h:i<0
   .simp only[h,if_true]<;>lia
   .simp only[h,fW]<;>lia
 .cases hi with
  | none=>simp[sliceBounds,HT.aO]
  | some i =>
   simp only[sliceBounds,HT.aO,Option.getD_none,show(1:Int)>0 by decide,if_true];by_cases h:i<0
   .simp only[h,if_true]<;>lia
   .simp only[h,fW]<;>lia
def QJ(its:List Value)(lo hi:Option Int):slicePick its.toArray lo hi none=((its.drop (HT.aO its.length 0 lo)).take (HT.aO its.length its.length hi-HT.aO its.length 0 lo)).toArray:=by
 obtain⟨h1,h2,h3⟩:=QI lo hi its.toArray.size;unfold slicePick;rw[h1,h2,h3];simp only[sliceRange_one,pick_run,Ys]<;>rfl
def QK(K:au):V->Option Int->Option Int->Hp->VK->Prop:=fun x lo hi H Q=>∃a xs,x=.ref a/\aZ K H a xs/\∀p,H p=none->Q (.ref p) (upd H p (.lst (j4 xs lo hi)))
theorem QL:uY X (QK X.K):=by
 intro pins s σ H x v vl vu lo hi sl Q I rx hs pl pu h;obtain⟨a,xs,rfl,hx,q⟩:=h;cases rx;obtain⟨its,r,ht,hz⟩:=I.list hx;have hlen:=r.length;refine⟨"list",_,IQ.lookup,ht.isList.typeIs,?_⟩;refine wpAny_getItem_list_slice ht.isList hs pl pu .none (by simp) ?_ (by rw[Ys]<;>lia);rw[QJ,<- hlen];exact⟨.ref s.heap.objs.size,_,I.laid (t':=s.toks) (o:=.lst (j4 xs lo hi)) (fun b ob q=>Yd _ q) (Yk _) ⟨YB (JX xs lo hi) hz,_,0,(r.drop (HT.aO xs.length 0 lo)).take (HT.aO xs.length xs.length hi-HT.aO xs.length 0 lo),Yl _ rfl⟩,rfl,q _ (I.aE.fresh (Yk _))⟩
def fL:V->Bool
 | .ay=>true
 | .bl _=>true
 | .int _=>true
 | .str _=>true
 | _=>false
def lX:V->V->Bool
 | .ay,.ay=>true
 | .bl a,.bl b=>a==b
 | .bl a,.int b=>(if a then 1 else 0)==b
 | .int a,.bl b=>a==(if b then 1 else 0)
 | .int a,.int b=>a==b
 | .str a,.str b=>a==b
 | _,_=>false
def QM(ry:aX y u)(rx:aX x v)(fy:fL y=true)(fx:fL x=true):SeqAt.EqAt A s u v (lX y x):=by
 cases y with
 | ay =>
  cases ry;cases x with
  | ay=>cases rx;exact SeqAt.EqAt.same _
  | bl b=>cases rx;exact SeqAt.EqAt.none_bool b
  | int b=>obtain⟨t,rfl⟩:=rx;exact SeqAt.EqAt.none_int b t
  | str b=>obtain⟨t,rfl⟩:=rx;exact SeqAt.EqAt.none_str b t
  | _=>exact absurd (show false=true from fx) Yw
 | bl a =>
  cases ry;cases x with
  | ay=>cases rx;exact SeqAt.EqAt.bool_none a
  | bl b=>cases rx;exact SeqAt.EqAt.bool_bool a b
  | int b=>obtain⟨t,rfl⟩:=rx;exact SeqAt.EqAt.bool_int a b t
  | str b=>obtain⟨t,rfl⟩:=rx;exact SeqAt.EqAt.bool_str a b t
  | _=>exact absurd (show false=true from fx) Yw
 | int a =>
  obtain⟨t',rfl⟩:=ry;cases x with
  | ay=>cases rx;exact SeqAt.EqAt.int_none a t'
  | bl b=>cases rx;exact SeqAt.EqAt.int_bool a t' b
  | int b=>obtain⟨t,rfl⟩:=rx;exact SeqAt.EqAt.int_int a t' b t
  | str b=>obtain⟨t,rfl⟩:=rx;exact IE a t' b t
  | _=>exact absurd (show false=true from fx) Yw
 | str a =>
  obtain⟨t',rfl⟩:=ry;cases x with
  | ay=>cases rx;exact SeqAt.EqAt.str_none a t'
  | bl b=>cases rx;exact SeqAt.EqAt.str_bool a t' b
  | int b=>obtain⟨t,rfl⟩:=rx;exact IF a t' b t
  | str b=>obtain⟨t,rfl⟩:=rx;exact SeqAt.EqAt.str_str a t' b t
  | _=>exact absurd (show false=true from fx) Yw
 | _=>exact absurd (show false=true from fy) Yw
def iV(x:V)(u:Value):Bool:=match u with
 | .none=>lX .ay x
 | .bool b=>lX (.bl b) x
 | .int i _=>lX (.int i) x
 | .str z _=>lX (.str z) x
 | _=>false
def J4(r:aX y u)(f:fL y=true):iV x u=lX y x:=by
 cases y with
 | ay=>cases r;rfl
 | bl b=>cases r;rfl
 | int i=>obtain⟨t,rfl⟩:=r;rfl
 | str z=>obtain⟨t,rfl⟩:=r;rfl
 | _=>exact absurd (show false=true from f) Yw
theorem w_:∀ {xs:List V} {us:List Value},ZU xs us->xs.all fL=true->us.any (iV x)=xs.any fun y=>lX y x
 | _,_,.nil,_=>rfl
 | y :: xs,u::us,.cons r t,f=>by
  rw[List.all_cons,YQ]at f
  rw[List.any_cons,List.any_cons,J4 r f.1,w_ t f.2]
theorem xa(rx:aX x v)(fx:fL x=true):∀ {xs:List V} {us:List Value},ZU xs us->xs.all fL=true->∀u∈us,SeqAt.EqAt A s u v (iV x u)
 | _,_,.nil,_=>fun u hu=>by cases hu
 | y :: xs,u::us,.cons r t,f=>fun u' hu=>by
  rw[List.all_cons,YQ]at f
  rcases Yp.mp hu with rfl|hu
  .rw[J4 r f.1];exact QM r rx f.1 fx
  .exact xa rx fx t f.2 u' hu
def ny(x:V)(xs:List V):Bool:=xs.any fun y=>lX y x
def J5(K:au)(neg:Bool):R2:=fun x y H Q=>∃p xs,y=.ref p/\(aZ K H p xs\/bo K H p xs)/\fL x=true/\xs.all fL=true/\Q (.bl (if neg then !ny x xs else ny x xs)) H
def QN:a8 X (compareOp .In) (J5 X.K false):=by
 intro pins s σ H x y v u Q I rx ry h;obtain⟨p,xs,rfl,hq,fx,fs,q⟩:=h;cases ry;rcases hq with hq|hq
 .obtain⟨its,r,pl,hz⟩:=I.list hq;refine SeqAt.in_listAt (iV x) pl.isList (fun w hw=>xa rx fx r fs w (by simpa using hw)) ⟨.bl _,H,I,rfl,?_⟩;rw[show its.toArray.any (iV x)=its.any (iV x) by simp,w_ r fs];exact q
 .obtain⟨its,r,pl,hz⟩:=I.tuple hq;refine SeqAt.in_tupleAt (iV x) pl (fun w hw=>xa rx fx r fs w (by simpa using hw)) ⟨.bl _,H,I,rfl,?_⟩;rw[show its.toArray.any (iV x)=its.any (iV x) by simp,w_ r fs];exact q
def QO:a8 X (compareOp .NotIn) (J5 X.K true):=by
 intro pins s σ H x y v u Q I rx ry h;obtain⟨p,xs,rfl,hq,fx,fs,q⟩:=h;cases ry;rcases hq with hq|hq
 .obtain⟨its,r,pl,hz⟩:=I.list hq;refine SeqAt.notIn_listAt (iV x) pl.isList (fun w hw=>xa rx fx r fs w (by simpa using hw)) ⟨.bl _,H,I,rfl,?_⟩;rw[show its.toArray.any (iV x)=its.any (iV x) by simp,w_ r fs];exact q
 .obtain⟨its,r,pl,hz⟩:=I.tuple hq;refine SeqAt.notIn_tupleAt (iV x) pl (fun w hw=>xa rx fx r fs w (by simpa using hw)) ⟨.bl _,H,I,rfl,?_⟩;rw[show its.toArray.any (iV x)=its.any (iV x) by simp,w_ r fs];exact q
def QP:a8 X (compareOp .NotIn) (fun x y H Q=>∃i j,x=.str i/\y=.str j/\Q (.bl (!(!(Builtin.Str.occurrences j i 0 j.length 1).isEmpty))) H):=by
 intro pins s σ H x y v u Q I rx ry h;obtain⟨i,j,rfl,rfl,q⟩:=h;obtain⟨t,rfl⟩:=rx;obtain⟨t',rfl⟩:=ry;exact notIn_str ⟨.bl _,H,I,rfl,q⟩
theorem QQ:Z4 X (.builtin "len") (fun xs H Q=>∃p ys,xs=[.ref p]/\(aZ X.K H p ys\/bo X.K H p ys)/\Q (.int ys.length) H):=by
 intro pins s σ H xs us Q I r h;obtain⟨p,ys,rfl,hq,q⟩:=h;obtain⟨u,rfl,rx⟩:=C7 r;cases rx;have hn:=rO;rcases hq with hq|hq
 .obtain⟨its,r',pl,hz⟩:=I.list hq;have hlen:=r'.length;exact Calls.call_len_list pl.isList (by simp only[Ys]<;>lia) ⟨.int ys.length,H,I.tok _,⟨s.toks+1,by rw[Ys,hlen]⟩,q⟩
 .obtain⟨its,r',pl,hz⟩:=I.tuple hq;have hlen:=r'.length;exact len_tuple pl (by simp only[Ys]<;>lia) ⟨.int ys.length,H,I.tok _,⟨s.toks+1,by rw[Ys,hlen]⟩,q⟩
theorem QR:Z4 X (.builtin "len") (fun xs H Q=>∃z,xs=[.str z]/\z.length<=sizeLine/\Q (.int z.length) H):=by
 intro pins s σ H xs us Q I r h;obtain⟨z,rfl,hz,q⟩:=h;obtain⟨u,rfl,t,rfl⟩:=C7 r;have hn:=rO;exact len_str (by lia) ⟨.int z.length,H,I.tok _,⟨_,rfl⟩,q⟩
def Z4.or(h:Z4 X f r)(h':Z4 X f r'):Z4 X f (fun xs H Q=>r xs H Q\/r' xs H Q):=by
 intro pins s σ H xs us Q I rs q;rcases q with q|q
 .exact h pins s σ H xs us Q I rs q
 .exact h' pins s σ H xs us Q I rs q
def QS:Z4 X (.type "list") (fun xs H Q=>∃p ys,xs=[.ref p]/\(aZ X.K H p ys\/bo X.K H p ys)/\∀l,H l=none->Q (.ref l) (upd H l (.lst ys))):=by
 intro pins s σ H xs us Q I r h;obtain⟨p,ys,rfl,hq,q⟩:=h;obtain⟨u,rfl,rx⟩:=C7 r;cases rx;have fin:∀(its:List Value),ZU ys its->ys.length<=sizeLine->∀(h':Heap)(c':Nat),(∀b o',s.heap.get? b=some o'->h'.get? b=some o') ->
   h'.get? s.heap.objs.size=some { cls:=.type "list",dict:=none,data:=.seq its.toArray c',slots:=#[] }->EP X pins σ Q (.ref s.heap.objs.size) { s with heap:=h' }:=fun its r' hz h' c' kp e =>
  ⟨.ref s.heap.objs.size,_,I.laid (t':=s.toks) kp (Yk _) (show dD X.prog X.w _ h' _ (.lst ys)from⟨hz,its,c',r',e⟩),rfl,q _ (I.aE.fresh (Yk _))⟩
 rcases hq with hq|hq
 .obtain⟨its,r',pl,hz⟩:=I.list hq;have hlen:=r'.length;obtain⟨o,ho,hc,n,hd⟩:=pl.isList;exact call_list_seq p (.inl rfl) ho hc hd (fun h' c' kp e=>fin its r' hz h' c' kp e) (by simp only[Ys]<;>lia)
 .obtain⟨its,r',pl,hz⟩:=I.tuple hq;have hlen:=r'.length;obtain⟨o,ho,hc,n,hd⟩:=pl;exact call_list_seq p (.inr rfl) ho hc hd (fun h' c' kp e=>fin its r' hz h' c' kp e) (by simp only[Ys]<;>lia)
def Aa(K:au)(T:String)(x:V)(H:Hp):Prop:=match x with
 | .str _=>T="str"
 | .int _=>T="int"
 | .ref p=>(T="list"/\∃xs,aZ K H p xs)\/(T="tuple"/\∃o,K.lookup p=some o/\o.cls=.type "tuple"/\o.dict=none) \/
   (T="dict"/\((∃aq,H p=some (.dK aq))\/∃aq,H p=some (.dT aq)))\/(T="set"/\∃S n,H p=some (.set S n))
 | _=>False
def J6(I:Inv X pins σ H s)(r:aX x v)(ty:Aa X.K T x H):
  s.TypeIs v T/\∀a,v=.ref a->∃ob,s.heap.get? a=some ob/\ob.dict=none:=by
 cases x with
 | str z =>
  obtain⟨t,rfl⟩:=r;cases(show T="str" from ty);exact⟨typeIs_str s z t,fun _ e=>nomatch e⟩
 | int i =>
  obtain⟨t,rfl⟩:=r;cases(show T="int" from ty);exact⟨typeIs_int s i t,fun _ e=>nomatch e⟩
 | ref p =>
  cases r;rcases ty with⟨rfl,xs,hq⟩|⟨rfl,o,hk,hc,hd⟩|⟨rfl,hk⟩|⟨rfl,S,n,hk⟩
  .obtain⟨its,_,pl,_⟩:=I.list hq;refine⟨pl.isList.typeIs,fun a e=>?_⟩;cases e;obtain⟨o,n,e,c,hd,_⟩:=pl;exact⟨o,e,hd⟩
  .refine⟨⟨o,I.br p o hk,hc⟩,fun a e=>?_⟩;cases e;exact⟨o,I.br _ o hk,hd⟩
  .have z:∃o,s.heap.get? p=some o/\o.ExactDict:=by
    rcases hk with⟨aq,hk⟩|⟨aq,hk⟩
    .obtain⟨_,_,_,_,o,_,_,e,ex,_⟩:=I.aE p _ hk;exact⟨o,e,ex⟩
    .obtain⟨_,_,_,_,o,_,_,e,ex,_⟩:=I.aE p _ hk;exact⟨o,e,ex⟩
   obtain⟨o,e,ex⟩:=z;refine⟨⟨o,e,ex.1⟩,fun a e2=>?_⟩;cases e2;exact⟨o,e,ex.2.1⟩
  .obtain⟨o,_,_,_,e,ex,_⟩:=I.aE p _ hk;refine⟨⟨o,e,ex.1⟩,fun a e2=>?_⟩;cases e2;exact⟨o,e,ex.2.1⟩
 | _=>exact False.elim ty
def J7(K:au)(T:String)(r:V->List V->Hp->VK->Prop)(to:TE):TE:=fun σ H Q=>to σ H fun x H1=>Aa K T x H1/\r x [] H1 Q
def J8(K:au)(T:String)(r:V->List V->Hp->VK->Prop)(to:TE)(t:TA):TE:=fun σ H Q=>to σ H fun x H1=>Aa K T x H1/\t σ H1 fun xs H2=>r x xs H2 Q
variable{o e:Expr}{es:List Expr}{to:TE}{t:TA}{name:Str}{apos aM:Pos}{T id:String}{r:V->List V->Hp->VK->Prop}
def uZ(pa:PlainAttrs T)(slot:Slot T name id)(Di:typeOf (.builtin id)=pure (.type "method_descriptor"))(hm:z9 X id r)(ho:PE X o to)(cW:attributeBase o name X.env (eval o X.env)=eval o X.env:=by rfl)(cX:(apos.endLine==aM.line)=true:=by rfl):PE X (.Call (.Attribute o name apos) [] [] aM) (J7 X.K T r to):=by
 intro pins s σ H Q I h;refine wpAny_Call_method0_late cW cX (aK (ho pins s σ H _ I h) fun v s1 aH=>?_);obtain⟨x,H1,I1,r1,ty,q1⟩:=aH;obtain⟨h1,h2⟩:=J6 I1 r1 ty;exact⟨T,id,pa,slot,Di,h1,h2,p9 rfl (PySem.evalArgs_none (hm pins s1 σ H1 x [] v [] Q I1 r1 .nil q1))⟩
def iK(pa:PlainAttrs T)(slot:Slot T name id)(Di:typeOf (.builtin id)=pure (.type "method_descriptor"))(hm:z9 X id r)(ho:PE X o to)(ha:PA X (e::es) t)(cW:attributeBase o name X.env (eval o X.env)=eval o X.env:=by rfl)(Dj:((backTo aM (starEach (e::es) X.env)).all (fun x=>!x.1) && (backToKw aM (keywordEach [] X.env)).all (fun x=>x.1.isSome)
   && decide ((e::es).length+([]:List Keyword).length+(if([]:List Keyword).isEmpty then 0 else 1)<30))=true:=by rfl)(cX:(apos.endLine==aM.line)=true:=by rfl)(hs:starEach (e::es) X.env=(false,eval e X.env)::starEach es X.env:=by rfl)(rX:(backTo aM (starEach es X.env)).any (·.1)=false:=by rfl):
  PE X (.Call (.Attribute o name apos) (e::es) [] aM) (J8 X.K T r to t):=by
 intro pins s σ H Q I h;refine wpAny_Call_method_late cW Dj cX rfl (aK (ho pins s σ H _ I h) fun v s1 aH=>?_);obtain⟨x,H1,I1,r1,ty,q1⟩:=aH;obtain⟨h1,h2⟩:=J6 I1 r1 ty;refine⟨T,id,pa,slot,Di,h1,h2,?_⟩;have hA:=ha aM pins s1 σ H1 _ I1 q1;rw[hs]at hA ⊢;refine p9 (by show(false||(backTo aM (starEach es X.env)).any (·.1))=false;rw[rX]<;>rfl) (Calls.evalArgs_plain ?_);exact aK hA fun us s2 ⟨vs,H2,I2,r2,q2⟩=>hm pins s2 σ H2 x vs v us Q I2 r1 r2 q2
end
def xh(X:Cx)(id:String)(r:V->List V->Hp->VK->Prop):Prop :=
 ∀(pins:List (Addr×Obj))(s:Shared)(σ:St)(H:Hp)(x:V)(xs:List V)(v:Value)(us:List Value)(Q:VK),Inv X pins σ H s->aX x v->ZU xs us->r x xs H Q ->
  wpAny (model X.prog X.w) X.A (call (.builtin id) (v::us)) (EP X pins σ Q) X.xe s
def ZU.one:∀ {x:V} {us:List Value},ZU [x] us->∃u,us=[u]/\aX x u
 | _,_,.cons r .nil=>⟨_,rfl,r⟩
def ZU.two:∀ {x y:V} {us:List Value},ZU [x,y] us->∃u v,us=[u,v]/\aX x u/\aX y v:=by
 intro x y us h;cases h with
 | cons r h=>cases h with|cons q h=>cases h;exact⟨_,_,rfl,r,q⟩
def ZU.zero:∀ {us:List Value},ZU [] us->us=[]
 | _,.nil=>rfl
def ZU.dropLast(h:ZU xs us):ZU xs.dropLast us.dropLast:=by
 induction h with
 | nil=>exact .nil
 | cons r t ih =>
  cases t with
  | nil=>exact .nil
  | cons q t'=>exact .cons r ih
theorem ZU.rep(h:ZU xs us):∀k:Nat,ZU (List.replicate k xs).flatten (List.replicate k us).flatten
 | 0=>.nil
 | k+1=>by
  rw[List.replicate_succ,List.replicate_succ,List.flatten_cons,List.flatten_cons]
  exact ZU.append h (ZU.rep h k)
theorem QT{α:Type}(l:List α):l.eraseIdx (l.length-1)=l.dropLast:=by
 induction l with
 | nil=>rfl
 | cons a r ih =>
  cases r with
  | nil=>rfl
  | cons b r =>
   have e:(a::b::r).length-1=((b::r).length-1)+1:=by
    have h1:(a::b::r).length=r.length+2:=rfl;have h2:(b::r).length=r.length+1:=rfl;lia
   rw[e,List.eraseIdx_cons_succ,ih];all_goals rfl
theorem J9(its:List Value):∀(k:Nat)(acc:List Value),
  List.foldl (fun x1 x2=>x1++x2) acc.toArray (List.replicate k its.toArray)=(acc++(List.replicate k its).flatten).toArray
 | 0,acc=>by simp
 | k+1,acc=>by
  have e:acc.toArray++its.toArray=(acc++its).toArray:=by simp
  have e2:(acc++its)++(List.replicate k its).flatten=acc++(List.replicate (k+1) its).flatten:=by
   rw[List.replicate_succ,List.flatten_cons,wy]
  rw[<- e2,<- J9 its k (acc++its),<- e,List.replicate_succ,List.foldl_cons]
section
variable{X:Cx}{pins:List (Addr×Obj)}{σ:St}{H:Hp}{s:Shared}{l b:Addr}{xs ys zs:List V}
def Inv.oO{its its':List Value}(I:Inv X pins σ H s)(hH:H l=some (.lst xs))(e:s.heap.get? l=some { cls:=.type "list",data:=.seq its.toArray n })(hf:f its.toArray=its'.toArray)(hv:ZU ys its')(hz:ys.length<=sizeLine):
  Inv X pins σ (upd H l (.lst ys)) { s with heap:=s.heap.update l (Obj.mapSeq f),toks:=t' }:=by
 have q:=PySem.IsL.update e f;rw[hf]at q;refine I.write (x:=l) (e:=l) (by rw[hH];exact trivial) (.inl rfl) (fun b' u hb hu=>(YF s.heap (Obj.mapSeq f) (Ne.symm hb)).trans hu) ⟨_,q⟩ ?_;exact⟨hz,its',_,hv,q⟩
def Inv.xi(I:Inv X pins σ H s)(hv:ZU ys its)(hz:ys.length<=sizeLine):
  Inv X pins σ (upd H s.heap.objs.size (.lst ys)) { s with heap:=s.heap.push { cls:=.type "list",data:=.seq its.toArray },toks:=t' } :=
 I.laid (fun _ _ q=>Yd _ q) (Yk _) ⟨hz,its,0,hv,Yl _ rfl⟩
def Inv.fresh(I:Inv X pins σ H s):H s.heap.objs.size=none:=I.aE.fresh (Yk _)
def Inv.eh(I:Inv X pins σ H s)(hH:H l=some (.lst xs)):xs.length<=sizeLine/\∃(its:List Value)(n:Nat),ZU xs its/\xs.length=its.length/\s.heap.get? l=some { cls:=.type "list",data:=.seq its.toArray n }:=by
 obtain⟨z,its,n,r,e⟩:=I.aE l _ hH;exact⟨z,its,n,r,r.length,e⟩
theorem Dk(h:n<=sizeLine):Builtin.List.listTooLong n=false:=by
 unfold Builtin.List.listTooLong;exact Yu (by lia)
end
section
variable{X:Cx}
def J_:V->List V->Hp->VK->Prop:=fun x vs H Q=>∃l xs y,x=.ref l/\vs=[y]/\H l=some (.lst xs)/\xs.length<sizeLine/\Q .ay (upd H l (.lst (xs++[y])))
theorem ZZ:xh X "list.append" J_:=by
 intro pins s σ H x vs v us Q I rx rv h;obtain⟨l,xs,y,rfl,rfl,hH,hz,q⟩:=h;cases rx;obtain⟨u,rfl,ru⟩:=rv.one;obtain⟨z,its,n,r,hl,e⟩:=I.eh hH;refine rF F.slot_list_append ⟨_,e,rfl⟩ F.entry_list_append (F.args_list_append_2 _ _) (PySem.list_append l its.toArray n u (by rw[Ys];lia)) ⟨e,?_⟩;refine⟨.ay,_,I.oO (its':=its++[u]) hH e (by simp) (r.append (.cons ru .nil)) ?_,rfl,q⟩;rw[Yq,List.length_singleton];lia
def Dl:V->List V->Hp->VK->Prop:=fun x vs H Q=>∃l b xs zs,x=.ref l/\vs=[.ref b]/\H l=some (.lst xs)/\H b=some (.lst zs)/\xs.length+zs.length<=sizeLine/\Q .ay (upd H l (.lst (xs++zs)))
theorem QU:xh X "list.extend" Dl:=by
 intro pins s σ H x vs v us Q I rx rv h;obtain⟨l,b,xs,zs,rfl,rfl,hH,hB,hz,q⟩:=h;cases rx;obtain⟨u,rfl,ru⟩:=rv.one;cases ru;obtain⟨z,its,n,r,hl,e⟩:=I.eh hH;obtain⟨z2,cV,n2,r2,dj,e2⟩:=I.eh hB;have hsz:its.toArray.size+cV.toArray.size<=sizeLine:=by rw[Ys,Ys];lia
 have lY:¬(!its.toArray.isEmpty&&Builtin.List.listTooLong (its.toArray.size+cV.toArray.size))=true:=by
  rw[Dk hsz,CC];exact Yw
 refine rF IK ⟨_,e,rfl⟩ IA (Iw _ _)
  (AutoSeq1.list_extend_list_list_0 l its.toArray n b cV.toArray n2 lY (by rw[Ys];lia) (by lia)) ⟨e,e2,?_⟩
 refine⟨.ay,_,I.oO (its':=its++cV) hH e (by simp) (r.append r2) ?_,rfl,q⟩;rw[Yq];lia
def J':V->List V->Hp->VK->Prop:=fun x vs H Q=>∃l xs y,x=.ref l/\vs=[]/\H l=some (.lst xs)/\xs[xs.length-1]? = some y/\Q y (upd H l (.lst xs.dropLast))
theorem u0:xh X "list.pop" J':=by
 intro pins s σ H x vs v us Q I rx rv h;obtain⟨l,xs,y,rfl,rfl,hH,hy,q⟩:=h;cases rx;have QV:=rv.zero;subst QV;obtain⟨z,its,n,r,hl,e⟩:=I.eh hH;obtain⟨u,hu,ru⟩:=r.get hy;have u3:its.toArray[its.toArray.size-1]? = some u:=by
  show its.toArray[its.length-1]? = some u;rw[<- rn,<- hl];exact hu
 refine rF F.slot_list_pop ⟨_,e,rfl⟩ F.entry_list_pop (F.args_list_pop_1 _) (MeetsSeq.list_pop_last l its.toArray n u u3 (by rw[Ys];lia)) ⟨e,?_⟩;refine⟨y,_,I.oO (its':=its.dropLast) hH e ?_ r.dropLast ?_,ru,q⟩
 .show its.toArray.eraseIdxIfInBounds (its.toArray.size-1)=its.dropLast.toArray;rw[Ys,List.eraseIdxIfInBounds_toArray,QT]
 .rw[List.length_dropLast];lia
def Ka:R2:=fun x y H Q=>∃l k xs,x=.ref l/\y=.int k/\H l=some (.lst xs)/\-(2^63)<=k/\k<2^63/\xs.length*k.toNat<=sizeLine /\
 ∀p,H p=none->Q (.ref p) (upd H p (.lst (List.replicate k.toNat xs).flatten))
def QW{α:Type}(xs:List α)(k:Nat):(List.replicate k xs).flatten.length=k*xs.length:=by
 induction k with
 | zero=>simp
 | succ k ih=>rw[List.replicate_succ,List.flatten_cons,Yq,ih,Nat.succ_mul,Nat.add_comm]
theorem QX:a8 X (binaryOp .Mult) Ka:=by
 intro pins s σ H x y v u Q I rx ry h;obtain⟨l,k,xs,rfl,rfl,hH,h1,h2,hz,q⟩:=h;cases rx;obtain⟨t,rfl⟩:=ry;obtain⟨z,its,n,r,hl,e⟩:=I.eh hH;have hlen:its.toArray.size*k.toNat<=sizeLine:=by rw[Ys,<- hl];exact hz
 have Dm:¬its.toArray.size*k.toNat>(2^63-1) / 8:=by
  have:(sizeLine:Nat)<=(2^63-1) / 8:=by decide
  lia
 have Dp:¬(!Builtin.List.listFitsIndex k)=true:=by
  rw[fitsIndex_both h1 h2];exact Yw
 have lY:¬Builtin.List.listTooLong (its.toArray.size*k.toNat)=true:=by
  rw[Dk hlen];exact Yw
 have Dq:List.foldl (fun x1 x2=>x1++x2) #[] (List.replicate (if its.toArray.isEmpty=true then 0 else k.toNat) its.toArray)=(List.replicate k.toNat its).flatten.toArray:=by
  have f0:∀m:Nat,List.foldl (fun x1 x2=>x1++x2) #[] (List.replicate m its.toArray)=(List.replicate m its).flatten.toArray:=fun m=>by
   have:=J9 its m [];rw[List.nil_append]at this;exact this
  rw[f0];cases its with
  | nil=>simp
  | cons a r'=>rw[if_neg (by simp)]
 refine wpAny_binaryOp_repeat_ref (T:="list") (U:="int") (by decide) ⟨_,e,rfl⟩ (fun s'=>typeIs_int s' k t) noFill_list_mul F.fills_int_mul F.slot_int_rmul repeat_list F.slot_int_index.lookup
  (rF F.slot_int_rmul (typeIs_int s k t) F.entry_int_rmul (F.args_int_rmul_2 _ _) (int___rmul___int_list k t l its.toArray n)
   ⟨e,rfl,⟨_,e,rfl⟩,rF F.slot_list_mul ⟨_,e,rfl⟩ F.entry_list_mul (F.args_list_mul_2 _ _) (AutoListH.list___mul___list_int_3 l its.toArray n k t Dp Dm lY) ⟨e,?_⟩⟩)
 rw[Dq];exact⟨.ref _,_,I.xi (t':=s.toks) (r.rep k.toNat) (by rw[QW,Nat.mul_comm];exact hz),rfl,q _ I.fresh⟩
end
end L2
namespace Att
open PySem PySem.W PySem.Calls PyProof.Rows
def QY:∀(ns:List Int)(vs:List Value),WellAll P h vs (ns.map WData.int)->IntsAre vs ns:=by
 intro ns;induction ns with
 | nil =>
  intro vs w;rw[Ya4]at w;cases w;exact .nil
 | cons n ns ih =>
  intro vs w;rw[Yr]at w;cases w with
  | cons a b =>
   cases a;exact .cons _ _ (ih _ b)
theorem QZ{l:OpenLaw}(hn:l.most=some n)(oP:l.row.toRowW.claim.pre args=true)(u5:WellAll P h vals args):
  ∃a vs ns,vals=[Value.ref a]/\args=[WData.list (ns.map WData.int)]/\h.get? a=some { cls:=.type "list",data:=.seq vs.toArray }/\IntsAre vs ns/\ns.length<=n:=by
 have Q0:WShape.hasAll [] args [.list .int]=true:=(pre_splitW oP).1;have hc:l.pre.holds [] { args:=args }=true:=(pre_splitW oP).2;obtain⟨d,r,rfl,h1,h2⟩:=hasAllW_cons Q0;obtain rfl:=hasAllW_nil h2;obtain⟨xs,rfl,h3⟩:=hasW_list h1;obtain⟨ns,rfl⟩:=items_int h3;have hlen:ns.length<=n:=by
  unfold OpenLaw.pre at hc;have h4:(WTm.not (.lt (.lit (.int (n:Int))) (.len (.arg 0)))).holds [] { args:=[.list (ns.map .int)] }=true:=by
   have h4:=(holds_andW hc).1;rw[hn]at h4;exact h4
  have h5:=condW_of h4 (w_not (w_lt w_lit (w_len_list (w_arg rfl))));rw[Yc]at h5;refine uM fun q=>?_;have q':(n:Int)<((ns.length:Nat):Int):=by lia
  first
   | (rw[YC q']at h5;exact absurd h5 (by decide))
   | (simp at h5;lia)
 cases u5 with
 | cons w1 w2 =>
  cases w2;cases w1 with
  | list ho oQ=>exact⟨_,_,ns,rfl,rfl,ho,QY ns _ oQ,hlen⟩
def Q2(l:OpenLaw)(args:List WData):l.row.toRowW.claim.post args (.bool true) args=true :=
 postW_of (r:=l.row.toRowW) (X:=(true==true))
  (show WShape.has [] (.bool true) .bool=true by first|rfl|decide|simp[WShape.has,WShape.arms,WShape.armsAll])
  (show(WTm.eq .res (.lit (.bool true))).value [] { args:=args,res:=some (.bool true),after:=args }=some (.bool (true==true))from w_eq_bool (w_res rfl) w_lit) rfl
def gX{l:OpenLaw}(hn:l.most=some n)(xj:d.params.defaults=[])(call:∀ (w:World) (bB aG:Shared) (mg mb:Str->Option Value) (fa:Addr) (o:Obj) (pm cd doc:Value) (a:Addr) (vs:List Value) (ns:List Int),
   Ground q loose [] XP w bB mg mb aG.heap->YP w aG.heap ->
   aG.heap.get? fa=some o->o.data=.func (docDef d.name d.params d.body d.scope pm cd doc)->aG.heap.CodeRec cd d.name->mg d.name=some (.ref fa) ->
   aG.heap.get? a=some { cls:=.type "list",data:=.seq vs.toArray }->IntsAre vs ns->ns.length<=n->aG.gens=#[] ->
   codeAny (model l.prog w) callerA (.call (.ref fa) ⟨[.ref a],[]⟩) (fun r s'=>r=.ok (.ret (.bool true))/\OldK aG.heap s'.heap/\s'.os=aG.os/\AllBare s'.gens) aG):
  WalkO q loose XP YP l.row.toRowW d [] (fun f vs=>PySem.call f vs):=by
 intro w bB aG mg mb G Y fa o pm cd doc dV kV ho hd gP hD xk hg args vals as oP Q3 xl u5 hlo;obtain rfl:dV=.none:=Dflts.none hD xj;obtain rfl:kV=.none:=Dflts.noKw hD;obtain⟨a,vs,ns,rfl,rfl,rY,hints,hlen⟩:=QZ hn oP u5;refine enter_call (kN (call w bB aG mg mb fa o pm cd doc a vs ns G Y ho (fd_plain hd) gP xk rY hints hlen hg) fun r s' hq=>?_);obtain⟨rfl,h2,h3,h4⟩:=hq;exact⟨.inl ⟨.bool true,.bool true,[],rfl,fun _=>rfl,.bool true,Q2 l _,fun _=>⟨List.Pairwise.nil,fun _ hm=>(nomatch hm)⟩⟩,h2,h3,h4⟩
end Att
namespace L2
open PySem PySem.Spec PyProof.Rows
theorem Kb:∀ {vs:List Value} {ns:List Int},IntsAre vs ns->ZU (ns.map V.int) vs
 | _,_,.nil=>.nil
 | _,_,.cons n t h=>.cons ⟨t,rfl⟩ (Kb h)
def Ab(H:Hp):Prop:=∀b,H b=none\/∃o xs,H b=some (.gN o (.lst xs))
def Q4{K:au}(KX:K.In aG.heap)(Ac:aG.heap.Ns mainGlobals mg)(hb:aG.heap.Ns builtinsNs mb)(Q5:∀x:Str,x≠"__name__"->mb x=bootBuiltins x)(Dr:aG.heap.NoLimit)(hg:aG.gens=#[])(ha:aG.heap.get? a=some { cls:=.type "list",data:=.seq vs.toArray })(hi:IntsAre vs ns)(hl:ns.length<=sizeLine)(hr:bW k callerA)(F:∀base:Heap,K.In base->base.Ns mainGlobals mg->cz P w K mg base CX k fa fd [x] sp)(xm:∀(s:Shared)(u:Value),BindsTo s fd ⟨[u],[]⟩ [(x,u)])(iJ:∀H:Hp,Ab H->aZ K H a (ns.map V.int)->sp [.ref a] H (fun v _=>v=.bl true) fun _ _ _=>False)(Ds:∀H e s',CX [] H aG (fun _ _ _=>False) e s'->False):
  codeAny (model P w) callerA (.call (.ref fa) ⟨[.ref a],[]⟩) (fun r s'=>r=.ok (.ret (.bool true))/\OldK aG.heap s'.heap/\s'.os=aG.os/\AllBare s'.gens) aG:=by
 have rv:=Kb hi;have Dt:=hi.length;have core : ∀H:Hp,Ab H->aZ K H a (ns.map V.int)->cQ P w H aG.heap->(∀b,H b≠none->b=a)->(H a≠none->K.lookup a=none) ->
   codeAny (model P w) callerA (.call (.ref fa) ⟨[.ref a],[]⟩) (fun r s'=>r=.ok (.ret (.bool true))/\OldK aG.heap s'.heap/\s'.os=aG.os/\AllBare s'.gens) aG:=by
  intro H hO hS aE hA hK;have ju:∀ {b:Addr} {o:Obj},aG.heap.get? b=some o->H b=none->(ot aG.heap H).get? b=some o:=fun e n=>Pq e n;have wZ:∀ {b:Addr} {o:Obj} {es:Array DictEntry} {ep:Nat},aG.heap.get? b=some o->o.data=.dict es ep->H b=none:=fun {b o es ep} e d=>by
   cases q:H b with
   | none=>rfl
   | some u =>
    have e':b=a:=hA b (by rw[q];simp);subst e';rw[ha]at e;cases e;have d':Data.seq vs.toArray _=Data.dict es ep:=d;cases d'
  have Ad:∀ {b:Addr} {m:Str->Option Value},aG.heap.Ns b m->(ot aG.heap H).Ns b m:=fun {b m} ⟨o,es,ep,e,d,r⟩=>⟨o,es,ep,ju e (wZ e d),d,r⟩;have Kc:K.In (ot aG.heap H):=fun b o e=>ju (KX b o e) (by
   cases q:H b with
   | none=>rfl
   | some u =>
    have e':b=a:=hA b (by rw[q];simp);subst e';rw[hK (by rw[q];simp)]at e;cases e)
  have hM:Mod K mg (ot aG.heap H):=⟨Kc,Ad Ac,⟨mb,Ad hb,Q5⟩,let⟨mc,h1,h2⟩:=Dr;⟨mc,Ad h1,h2⟩⟩;have e0:rR P w K mg (ot aG.heap H) callerA [] aG H:=⟨rfl,hM,fun b o e=>Pr e,CF (Pp _ _),trivial,fun b hb=>absurd (show b∈([]:List Addr)from hb) (by simp),aE,.of_eq hg⟩;refine kN ((F _ Kc (Ad Ac)).run callerA [] aG H ⟨[.ref a],[]⟩ [.ref a] [.ref a] _ _ hr e0 (xm aG (.ref a)) (.cons rfl .nil) (iJ H hO hS)) fun r s' h=>?_;cases r with
  | error e=>exact(Ds H e s' h).elim
  | ok fl =>
   cases fl with
   | next=>exact False.elim h
   | brk=>exact False.elim h
   | cont=>exact False.elim h
   | ret u =>
    obtain⟨v,H',os,bare,un,Du,r',q⟩:=h;have q':v=.bl true:=q;subst q';obtain rfl:u=Value.bool true:=r';refine⟨rfl,OldK.of_keep fun b o e=>?_,os,bare⟩;cases q:H b with
    | none=>exact un.keep b o e q (by intro z;exact absurd (show b∈([]:List Addr)from z) (by simp)) (by simp)
    | some u =>
     rcases hO b with z|⟨ob,xs,z⟩
     .rw[q]at z;cases z
     .have z2:=un.cy b ob _ z;obtain⟨e1,_⟩:=aE b _ z;obtain⟨e2,_⟩:=Du b _ z2;rw[e]at e1;cases e1;exact e2
 cases hk:K.lookup a with
 | some o =>
  have e:=KX a o hk;rw[ha]at e;cases e;refine core (fun _=>none) (fun _=>.inl rfl) (.inr ⟨_,vs.toArray,_,hk,rfl,rfl,rfl,by rw[Ys,Dt];exact hl,by simpa using rv⟩) (fun b u z=>by have z':(none:Option HO)=some u:=z;cases z') (fun b z=>absurd rfl z) fun z=>absurd rfl z
 | none =>
  refine core (fun b=>if b=a then some (.gN { cls:=.type "list",data:=.seq vs.toArray } (.lst (ns.map V.int)))else none) (fun b=>?_) (.inl (.inr ⟨{ cls:=.type "list",data:=.seq vs.toArray },if_pos rfl⟩)) (fun b u z=>?_) (fun b z=>?_) fun _=>hk
  .by_cases hb:b=a
   .exact .inr ⟨_,_,if_pos hb⟩
   .exact .inl (if_neg hb)
  .by_cases hb:b=a
   .have z':=(if_pos hb).symm.trans z;cases z';subst hb;exact⟨ha,by rw[Yc];exact hl,vs,_,rv,ha⟩
   .have z':=(if_neg hb).symm.trans z;cases z'
  .by_cases hb:b=a
   .exact hb
   .exact absurd (if_neg hb) z
def oR{l:PySem.W.OpenLaw}{K:Params->au}{CX:World->lQ}{sp:World->Sp}(hn:l.most=some n)(jZ:n<=sizeLine)(xj:d.params.defaults=[])(hr:bW k callerA)(hY:∀ (w:World) (h:Heap),YP w h->(K w.params).In h)(F : ∀ (w:World) (mg:Str->Option Value) (fa:Addr) (h:Heap),(K w.params).In h->h.Ns mainGlobals mg->mg d.name=some (.ref fa) ->
   ∃fd:FuncData,(∀(s:Shared)(u:Value),BindsTo s fd ⟨[u],[]⟩ [(x,u)]) /\
    ∀base:Heap,(K w.params).In base->base.Ns mainGlobals mg->cz l.prog w (K w.params) mg base (CX w) k fa fd [x] (sp w))(iJ:∀(w:World)(H:Hp)(a:Addr)(ns:List Int),ns.length<=n->Ab H->aZ (K w.params) H a (ns.map V.int)->sp w [.ref a] H (fun v _=>v=.bl true) fun _ _ _=>False)(Ds:∀(w:World)(H:Hp)(s:Shared)(e:Value)(s':Shared),CX w [] H s (fun _ _ _=>False) e s'->False):
  PySem.W.WalkO q loose XP YP l.row.toRowW d [] (fun f vs=>PySem.call f vs):=by
 refine Att.gX hn xj fun w bB aG mg mb fa o pm cd doc a vs ns G Y ho hd gP xk rY hints hlen hg=>?_;have KX:=hY w _ Y;obtain⟨fd,hb,hF⟩:=F w mg fa _ KX G.T.g xk;exact Q4 KX G.T.g G.T.b G.T.builtins G.T.nolimit hg rY hints (YB hlen jZ) hr hF hb (fun H hO hS=>iJ w H a ns hlen hO hS) fun H e s'=>Ds w H aG e s'
def Zv(s:Stmt)(j:Nat):Stmt:=match s with
 | .ClassDef _ _ _ body _ _ _ _ _ _ _=>body.getD j (.Pass ⟨0,0,0,0⟩)
 | _=>.Pass ⟨0,0,0,0⟩
def Ae(s:Stmt):Arguments:=match s with
 | .FunctionDef _ a _ _ _ _ _ _ _ _=>a
 | _=>{ posonlyargs:=[],args:=[],vararg:=none,kwonlyargs:=[],kw_defaults:=[],kwarg:=none,defaults:=[] }
def kW(s:Stmt):List Stmt:=match s with
 | .FunctionDef _ _ b _ _ _ _ _ _ _=>b
 | _=>[]
def ZI(s:Stmt):Scope:=match s with
 | .FunctionDef _ _ _ _ _ _ sc _ _ _=>sc
 | _=>{ kind:=.function,names:=[],isGenerator:=false,isCoroutine:=false }
abbrev aP:lQ:=fun _ _ _ _ _ _=>False
abbrev E0:XK:=fun _ _ _=>False
def gY:rS aP X E0:=fun _ _ _ _ _ _ _ h=>h.elim
structure iW (K:au) (x qual:Str) (st:Stmt) (f:Addr) (fd:FuncData):Prop where
 ex : ∃(oc:Value)(od:Option Addr)(kV doc pm:Value)(an:Option Addr)(bf ct:Value)(oK:Array (Option Value)),
  fd=PySem.W.fnOf x qual (Ae st) (kW st) (ZI st) .none kV doc pm an bf ct/\K.lookup f=some ⟨oc,od,.func fd,oK⟩/\PySem.W.codeIn K bf qual=true
 kp:PySem.W.keepIn K (.ref f)=true
section
variable{P:Program}{w:World}{K:au}{mg:Str->Option Value}{base:Heap}
def iW.ok{st:Stmt}(F:iW K x qual st f fd)(S:gU N ps (ZI st))(len:∀ vs H Q E,sp vs H Q E->vs.length=ps.length)(cT:∀ (bf:Value) (A:Around) (outer:List Env) (s:Shared) (H:Hp) (vs:List V) (Q:VK) (E:XK),bW k (A.deeper (envOfC qual (ZI st) s.heap.objs.size f bf))->sp vs H Q E ->
   ∃t,d0 (ff aP P w K mg base N qual (ZI st) f bf A outer s H E).nj (kW st) t/\t { nx:=fun _ H'=>Q .ay H',rt:=Q } (start N vs) H):cz P w K mg base aP (k+1) f fd ps sp:=by
 obtain⟨oc,od,kV,doc,pm,an,bf,ct,oK,rfl,lk,gP⟩:=F.ex;refine JR lk gP S len fun A outer s H vs Q E hr iJ=>?_;obtain⟨t,h,q⟩:=cT bf A outer s H vs Q E hr iJ;exact⟨t,h.nj,q⟩
def Q6{st:Stmt}{kV doc pm bf ct:Value}(l:K.lookup f=some ⟨oc,od,.func (PySem.W.fnOf x qual (Ae st) (kW st) (ZI st) .none kV doc pm an bf ct),oK⟩)(c:PySem.W.codeIn K bf qual=true)(k:PySem.W.keepIn K (.ref f)=true):iW K x qual st f (PySem.W.fnOf x qual (Ae st) (kW st) (ZI st) .none kV doc pm an bf ct):=⟨⟨oc,od,kV,doc,pm,an,bf,ct,oK,rfl,l,c⟩,k⟩
end
section
variable{X:Cx}
def pv(i:Nat)(hN:X.N[i]? = some x:=by rfl)(hv:zQ X.env.scope x:=by first|exact Or.inl rfl|exact Or.inr (Or.inl rfl)|exact Or.inr (Or.inr rfl))(hd:(x==("__debug__":Str))=false:=by decide)(gP:(x==("__classdict__":Str))=false:=by decide):PE X (.Name x pos) (lL i):=Pw hN hv hd gP
end
def a_(H H':Hp):Prop:=∀b o,H b=some o->H' b=some o
def a_.refl(H:Hp):a_ H H:=fun _ _ h=>h
open PySem PySem.W
def xn(tb:String->Option Builtin)(p:Program)(w:World)(lZ:Nat)(ann:Option Value):Nat->SharedT->Thread->Option SharedT
 | 0,_,_=>none
 | n+1, s,t=>match through t with
  | true=>some s
  | false=>match stepOk lZ ann t with
   | false=>none
   | true=>match stepT (denote tb) p w s t with
    | some (s',t')=>xn tb p w lZ ann n s' t'
    | none=>none
theorem Ke:∀ {n:Nat} {s s':SharedT} {t:Thread},xn tb p w lZ ann n s t=some s'->topRun tb p w lZ ann n s.abs t=some s'.abs
 | 0,_,_,_,h=>by cases h
 | n+1, s,s',t,h=>by
  unfold xn at h
  unfold topRun
  cases ht:through t with
  | true=>rw[ht]at h;cases h;rfl
  | false =>
   rw[ht]at h
   cases hk:stepOk lZ ann t with
   | false=>rw[hk]at h;cases h
   | true =>
    rw[hk]at h
    cases hs:stepT (denote tb) p w s t with
    | none=>rw[hs]at h;cases h
    | some r=>obtain⟨gS,Q7⟩:=r;rw[hs]at h;rw[stepT_spec hs];exact Ke h
def rZ(x:Option (BT×Nat))(o:Obj):Option (BT×Nat):=match x with
 | none=>none
 | some (t,n)=>match ((t.ins n o).get n).isSome with
  | true=>some (t.ins n o,n+1)
  | false=>none
def Dv(l:List Obj):Option (BT×Nat):=l.foldl rZ (some (.nil,0))
theorem Kf:∀l:List Obj,l.foldl rZ none=none
 | []=>rfl
 | o::l=>Kf l
theorem Kg:∀(l pre:List Obj)(t:BT)(n:Nat)(T:BT)(m:Nat)(life:Life),n=pre.length->absHeap t n life=⟨pre.toArray,life⟩->l.foldl rZ (some (t,n))=some (T,m)->m=(pre++l).length/\absHeap T m life=⟨(pre++l).toArray,life⟩
 | [],pre,t,n,T,m,life,hn,h,e=>by
  cases e
  rw[YW]
  exact⟨hn,h⟩
 | o :: l,pre,t,n,T,m,life,hn,h,e=>by
  rw[List.foldl_cons]at e
  cases hs:((t.ins n o).get n).isSome with
  | false =>
   have:rZ (some (t,n)) o=none:=by unfold rZ;simp only[hs]
   rw[this,Kf]at e;cases e
  | true =>
   have hp:rZ (some (t,n)) o=some (t.ins n o,n+1):=by unfold rZ;simp only[hs]
   rw[hp]at e
   have:=Kg l (pre++[o]) (t.ins n o) (n+1) T m life (by rw[Yq,hn];rfl) (by
    rw[absHeap_ins hs,h]
    show Heap.mk _ _=Heap.mk _ _
    simp) e
   rw[wy]at this
   exact this
def Q8(h:Dv l=some (T,m)):m=l.length/\absHeap T m life=⟨l.toArray,life⟩:=by
 have:=Kg l [] .nil 0 T m life rfl rfl h;simpa using this
def Af{β:Type}:List Obj->(List Obj->β)->β
 | [],k=>k []
 | ⟨a,b,c,d⟩::l,k=>Af l fun l'=>k (⟨a,b,c,d⟩::l')
theorem Kh:∀(l:List Obj)(k:List Obj->β),Af l k=k l
 | [],k=>rfl
 | ⟨a,b,c,d⟩::l,k=>by rw[Af,Kh l]
def Zk4{β:Type}(p:Program)(w:World)(os:OsState)(m:Nat)(ann:Option Value)(M:Nat)(k:Shared->β):Option β :=
 match Dv (boot_heap w.params).objs.toList with
 | none=>none
 | some (T,n)=>match xn treeTable p w m ann M ⟨T,n,(boot_heap w.params).life,#[],boot_drawn,boot_toks,os⟩ (topStub p)with
  | none=>none
  | some s=>some (Af (s.tree.list s.n) fun l=>k ⟨⟨l.toArray,s.life⟩,s.gens,s.drawn,s.toks,s.os⟩)
def Q9{os:OsState}{r:β}(h:Zk4 p w os m ann M k=some r):∃s,topRun treeTable p w m ann M ⟨boot_heap w.params,#[],boot_drawn,boot_toks,os⟩ (topStub p)=some s/\k s=r:=by
 unfold Zk4 at h;cases hb:Dv (boot_heap w.params).objs.toList with
 | none=>rw[hb]at h;cases h
 | some x =>
  obtain⟨T,n⟩:=x;rw[hb]at h;obtain⟨hn,ha⟩:=Q8 (life:=(boot_heap w.params).life) hb;have ha:absHeap T n (boot_heap w.params).life=boot_heap w.params:=by rw[ha]
  simp only at h;cases ht:xn treeTable p w m ann M ⟨T,n,(boot_heap w.params).life,#[],boot_drawn,boot_toks,os⟩ (topStub p)with
  | none=>rw[ht]at h;cases h
  | some s =>
   rw[ht]at h;simp only[Kh,Option.some.injEq]at h;have:=Ke ht;rw[show(SharedT.mk T n (boot_heap w.params).life #[] boot_drawn boot_toks os).abs=⟨boot_heap w.params,#[],boot_drawn,boot_toks,os⟩from by unfold SharedT.abs;simp only;rw[ha]]at this;exact⟨s.abs,this,h⟩
def Zhj{Ya:World->α}(e:opening p=plainProg p.main.scope.names)(hN:Nat.ble 600 N=true)(f:∀s,fenceModules? p s=some s)(size:∀w:World,((boot_heap w.params).isNs mainGlobals,(boot_heap w.params).objs.size,(boot_heap w.params).nsMap mainGlobals "__annotations__")=(true,m,ann))(run:∀(w:World)(os:OsState),Zk4 p w os m ann N (fun s=>(staticsOk (importedModules p.main.body) (boot_heap w.params) s.heap&&namesBound p s.heap&&gensDone s&&laidKept (boot_heap w.params) s.heap,openSeen q loose (importedModules p.main.body) Xt g0 s,Yf s))=some (true,openGood q loose,Ya w)):
  LeftO p q loose Xt Yf Ya N g0:=fun w=>by
 obtain⟨⟨h,gs,d,k,os⟩,eo,e'⟩:=YM.mp (boot_open e hN f w)
 obtain⟨rfl,rfl,rfl,rfl⟩:h=boot_heap w.params/\gs=#[]/\d=boot_drawn/\k=boot_toks:=by simpa using e'
 obtain⟨z1,z2,z3⟩:_/\_/\_:=by simpa only[Prod.mk.injEq]using size w
 obtain⟨s,r,l⟩:=Q9 (run w os)
 obtain⟨l1,l2,l3⟩:_/\_/\_:=by simpa only[Prod.mk.injEq]using l
 have t:topFrom treeTable p w N ⟨boot_heap w.params,#[],boot_drawn,boot_toks,os⟩=some s:=by
  unfold topFrom;dsimp only;rw[z1,z2,z3,r];show(match staticsOk (importedModules p.main.body) (boot_heap w.params) s.heap&&namesBound p s.heap&&gensDone s&&laidKept (boot_heap w.params) s.heap with|true=>_|false=>_)=_;rw[l1]
 unfold openEnds;rw[eo];show(topFrom treeTable p w N _).map _=_;rw[t];exact congrArg some (Prod.ext l2 l3)
def Zw(P:Params)(x:Str)(t:Nat)(v:Value):DictEntry:=⟨PyData.keyHash P x,.str x t,v⟩
def hNs(n:Nat)(es:List DictEntry):Obj:=⟨.type "dict",none,.dict es.toArray n,#[]⟩
def Ki:Option Nat->Value
 | some a=>.ref a
 | none=>.none
def Kj(x q:Str)(t ln ac fl a b:Nat)(d e:Option Nat)(f m n:Nat):Obj :=
 ⟨.type "code",none,.fields #[.str x t,.str q (t+1),.str "/claim/cut.py" (t+2),.int ln 0,.int ac 0,.int 0 0,.int 0 0,.int fl 0,.ref a,.bool true,.int 181 0,.ref b,.none,Ki d,Ki e,.ref f,.int m 0,.int ln 0,.str "/claim/cut.py" n],#[]⟩
def hBoot(w:World):Bool×Nat×Option Value:=((boot_heap w.params).isNs mainGlobals,(boot_heap w.params).objs.size,(boot_heap w.params).nsMap mainGlobals "__annotations__")
end L2
set_option maxHeartbeats 4000000
namespace L2
open PySem PySem.Spec PyProof.Rows
def Q_(I:Nat->Shared->Prop)(turn : ∀ n s,I n s->wpAny (model prog w) A (pyNext it) (fun r aG=>match r with
   | none=>R (.ok .next) aG
   | some v => wpAny (model prog w) A (letOwnedTupleGo target it v) (fun _ gZ=>wpAny (model prog w) A (assign target env v) (fun _ gS =>
     wpAny (model prog w) A (forIn ifs true fun c r=>if r=true then do let ok <- isTrue c env (eval c env);pure (ForInStep.yield ok)else pure (ForInStep.yield r)) (fun ok iX =>
      if ok=true then wpAny (model prog w) A (eval elt env) (fun x l8 =>
       wpAny (model prog w) A (call (.builtin "list.append") [acc,x]) (fun _ l_=>∃m,m<n/\I m l_) (fun _ _=>False) l8) (fun _ _=>False) iX
      else ∃m,m<n/\I m iX) (fun _ _=>False) gS) (fun _ _=>False) gZ) (fun _ _=>False) aG) (fun _ _=>False) s)(n:Nat)(h:I n s):
  codeAny (model prog w) A (.compLoop (.ListComp elt [⟨target,iter,ifs,0⟩] scope pos) 0 it acc env) R s:=by
 refine codeAny_loop rfl I (fun n s hI=>?_) n h;show wpAny _ A ((compTurn (.ListComp elt [⟨target,iter,ifs,0⟩] scope pos) 0 it acc env).onRaise (fun x=>do noteFrame x env;theTreesLotGoes x)) _ _ s;refine wpAny_noted ?_;rw[compTurn_list];refine Yb (oo (Yb (YH (turn n s hI) (fun r aG bF=>?_) fun _ _ h'=>h'.elim)));cases r with
 | none=>exact Ye bF
 | some v =>
  refine Yb (YH bF (fun _ gZ ma=>Yb (YH ma (fun _ gS r8=>Yb (YH r8 (fun ok iX md=>?_) fun _ _ h'=>h'.elim)) fun _ _ h'=>h'.elim)) fun _ _ h'=>h'.elim);cases ok with
  | false=>exact Ye ⟨rfl,md⟩
  | true =>
   exact Yb (Yb (YH md (fun x l8 r9=>Yb (YH r9 (fun _ l_ r_=>Ye (Ye ⟨rfl,r_⟩)) fun _ _ h'=>h'.elim)) fun _ _ h'=>h'.elim))
def Cx.comp(X:Cx)(scope:Scope)(cl:List (Str×Addr))(N:List Str)(pins:List (Addr×Obj))(s:Shared)(H:Hp)(fp:List Addr):Cx where
 prog:=X.prog
 w := X.w
 K := X.K
 mg:=X.mg
 base:=X.base
 A := X.A
 N := N
 bB:=s
 iR:=H
 env:=compEnvC scope cl s.heap.objs.size X.env
 outer:=X.stack
 stack:=X.stack
 ex:=fp
 fn:=fun _=>false
 calm:=X.calm
 pn:=X.pn++pins
 xe:=fun _ _=>False
def mf(nt:Nat)(bx:List (Str×Nat))(σ:St):St:=List.replicate nt none++bx.map fun p=>(σ[p.2]?).join
structure ZS (X:Cx) (scope:Scope) (cl:List (Str×Addr)) (ts:List Str) (bx:List (Str×Nat)):Prop where
 xo:closureFor scope X.env=pure cl
 kind:scope.kind=.function
 mh:∀y∈scope.names,y.2≠.cell
 names:∀y∈scope.names,y.2=.local->scope.names.lookup y.1=some .local
 sub:∀p∈cl,X.env.cells.lookup p.1=some p.2
 has:∀p∈(relabel scope X.env).names,p.2=.cell\/p.2=.free->(cl.lookup p.1).isSome=true
 out:∀p∈bx,X.N[p.2]? = some p.1/\(X.env.kindOf p.1=some .cell\/X.env.kindOf p.1=some .free)/\((relabel scope X.env).names.lookup p.1=some .cell\/(relabel scope X.env).names.lookup p.1=some .free)/\(cl.lookup p.1).isSome=true
section
variable{X:Cx}{scope:Scope}{cl:List (Str×Addr)}{ts:List Str}{frs':List (Str×Nat)}{pins:List (Addr×Obj)}{σ:St}{H:Hp}{s:Shared}{fp:List Addr}
def ZS.g8(S:ZS X scope cl ts frs')(h:cl.lookup x=some c):X.env.cells.lookup x=some c:=S.sub (x,c) (qb h)
theorem ZS.inv(S:ZS X scope cl ts frs')(I:Inv X pins σ H s)(hf:∀b∈fp,gG X pins H b)(bq:∀b∈fp,b<s.heap.objs.size)(Ac:bF.Ns s.heap.objs.size m)(hk:∀b o,s.heap.get? b=some o->bF.get? b=some o):Inv (X.comp scope cl (ts++frs'.map (·.1)) pins s H fp) [] (mf ts.length frs' σ) H { s with heap:=bF,toks:=tk }:=by
 have hC:∀b o,s.heap.get? b=some o->b≠s.heap.objs.size:=fun b o e=>Yo (Ym e);have jn:∀x c,cl.lookup x=some c->∃v,bF.IsCell c v:=fun x c e=>by
  obtain⟨v,o,ho,hd⟩:=I.cell x c (S.g8 e);exact⟨v,o,hk c o ho,hd⟩
 refine⟨⟨I.ok.mod,?_,I.ok.glob,I.ok.blt,Yk _,fun x y c h1 h2=>I.ok.inj x y c (S.g8 h1) (S.g8 h2),fun x hx=>?_,fun x c z=>(by cases z),I.ok.hd,I.ok.frames,.inl rfl,fun b hb=>⟨Yo (bq b hb),fun x c e=>?_⟩,I.bs,YB I.ok.ou I.sz,fun b o e hb=>?_,fun b hb z=>?_,I.stack,I.fX⟩,
  rfl,I.bare,Un.kept hk,⟨m,Ac,fun i x v h1 h2 h3=>?_⟩,jn,I.aE.fresh (Yk _),fun x c e=>I.bz x c (S.g8 e),fun p hp=>?_,I.aE.kept hk,?_⟩
 .exact S.kind
 .have sd:(relabel scope X.env).names.lookup x=some .cell\/(relabel scope X.env).names.lookup x=some .free:=hx;have:(cl.lookup x).isSome=true:=by
   rcases sd with e|e
   .exact S.has (x,.cell) (qb e) (.inl rfl)
   .exact S.has (x,.free) (qb e) (.inr rfl)
  exact zB.mp this
 .exact(hf b hb).2.2.2.2.1 x c (S.g8 e)
 .obtain⟨_,_,_,h4,_⟩:=hf b hb;rcases h4 with h4|h4
  .exact I.ok.lJ b o e h4
  .exact absurd (YJ (Ym e) (YB I.ok.ou h4)) (om _)
 .obtain⟨_,h2,h3,_⟩:=hf b hb;rcases Yp.mp (I.di b z)with e|e
  .exact h2 e
  .exact h3 e
 .have hi : ts.length<=i:=by
   by_cases hi:ts.length<=i
   .exact hi
   .have:(mf ts.length frs' σ)[i]? = some none:=by
     unfold mf;rw[Y6 (by simp;lia),Ig,if_pos (by lia)]
    rw[this]at h2;cases h2
  obtain⟨p,hp,e1,e2⟩:∃p∈frs',p.1=x/\(σ[p.2]?).join=some v:=by
   have se:(ts++frs'.map (·.1))[i]? = some x:=h1;have Ag:(mf ts.length frs' σ)[i]? = some (some v):=h2;unfold mf at Ag;rw[YZ hi,Yj]at se;rw[YZ (by simpa using hi),Yj,Ip]at Ag;cases e:frs'[i-ts.length]? with
   | none=>rw[e]at se;cases se
   | some p =>
    rw[e]at se Ag;exact⟨p,Yi e,YA se,YA Ag⟩
  obtain⟨o1,o2,o3,o4⟩:=S.out p hp;rw[e1]at o1 o2 o3 o4;have e3:σ[p.2]? = some (some v):=by
   cases e:σ[p.2]? with
   | none=>rw[e]at e2;cases e2
   | some q=>rw[e]at e2;exact congrArg some e2
  obtain⟨m',_,hl⟩:=I.loc;have hv:zQ X.env.scope x:=by
   rcases o2 with o2|o2
   .exact .inr (.inl o2)
   .exact .inr (.inr o2)
  obtain⟨u,r,l⟩:=hl p.2 x v o1 e3 hv;refine⟨u,r,.inr ⟨o3,?_⟩⟩;obtain⟨c,hc⟩:=zB.mp o4;rcases l with⟨k,_⟩|⟨_,c',e,ob,ho,hd⟩
  .rcases o2 with o2|o2<;>(rw[o2]at k;cases k)
  .have:c'=c:=by have:=S.g8 hc;rw[this]at e;exact(YA e).symm
   subst this;exact⟨c',hc,ob,hk c' ob ho,hd⟩
 .have j6:p∈X.pn++pins:=by
   have:p∈(X.pn++pins)++[]:=hp;rwa [YW]at this
  obtain⟨e,n,ne,nf,d⟩:=I.pin p j6;refine⟨hk _ _ e,n,hC _ _ e,fun z=>?_,d⟩;rcases Yp.mp (I.di _ z)with e'|e'
  .exact ne e'
  .exact nf e'
 .show(mf ts.length frs' σ).length=(ts++frs'.map (·.1)).length;unfold mf;simp
def ZS.after(I:Inv X pins σ H s)(hf:∀b∈fp,gG X pins H b)(J:Inv (X.comp scope cl N pins s H fp) [] aS H' s')(hs:Heap.SameBut s.heap.objs.size s'.heap h'):
  Inv X pins σ H' { s' with heap:=h' }:=by
 have hC:∀b o,s.heap.get? b=some o->b≠s.heap.objs.size:=fun b o e=>Yo (Ym e);have fr:H' s.heap.objs.size=none:=J.free;refine I.jm (s':={ s' with heap:=h' }) (ch:=fp) J.os ?_ ?_ J.bare fun b hb=>?_
 .have u:=J.base;exact⟨fun b o e n h1 h2=>(hs.2 b (hC b o e)).trans (u.keep b o e n h1 h2),fun b o e n h1 h2=>by
    obtain⟨sl,q⟩:=u.slot b o e n h1 h2;exact⟨sl,(hs.2 b (hC b o e)).trans q⟩,u.free,fun b o e h2=>by
    obtain⟨o',q⟩:=u.there b o e h2;exact⟨o',(hs.2 b (hC b o e)).trans q⟩,u.bM,u.cy,u.dI⟩
 .intro b ob e;refine(J.aE b ob e).dh (fun c w' hc q=>(hs.2 c ?_).trans q) (fun _ q=>q) fun _ _ q=>q;rintro rfl;rcases hc with hc|hc
  .rw[<- hc,fr]at e;cases e
  .rw[fr]at hc;cases hc
 .obtain⟨h1,h2,h3,h4,h5,h6⟩:=hf b hb;exact⟨h4,h2,h5,h6⟩
end
def qk(X:Cx)(ifs:List Expr)(t:TT):Prop :=
 ∀(pins:List (Addr×Obj))(s:Shared)(σ:St)(H:Hp)(Q:Bool->Hp->Prop),Inv X pins σ H s->t σ H Q ->
  wpAny (model X.prog X.w) X.A (forIn ifs true fun c r=>if r=true then do let ok <- isTrue c X.env (eval c X.env);pure (ForInStep.yield ok)else pure (ForInStep.yield r)) (TP X pins σ Q) X.xe s
def Kk:TT:=fun _ H Q=>Q true H
def j7:qk X [] Kk:=fun _ _ _ H _ I h=>wpAny_tests_nil ⟨H,I,h⟩
def u6(h:PT X c t):qk X [c] t:=fun pins s σ H Q I q=>wpAny_tests_one (h pins s σ H Q I q)
def Ah(nt:Nat)(bx:List (Str×Nat))(wi:TI)(g:TG)(tt:TT)(te:TE):TE:=fun σ H Q=>wi σ H fun J H1=>∀l,H1 l=none->∃W:Nat->Nat->St->Hp->Prop,(∃m,W 0 m (mf nt bx σ) (upd H1 l (.lst []))) /\
 ∀i m τ H,W i m τ H->(J.stop i H/\Q (.ref l) H)\/(J.go i H/\∀x H',J.rM i H x H'->g x τ H' fun aR H2=>tt aR H2 fun ok H3 =>
  if ok=true then te aR H3 fun y H4=>∃ys,H4 l=some (.lst ys)/\ys.length<sizeLine/\∃m',m'<m/\W (i+1) m' aR (upd H4 l (.lst (ys++[y])))else ∃m',m'<m/\W (i+1) m' aR H3)
open PySem PySem.Spec PyProof.Rows PySem.Builtin.Str
def u7(z:Str)(lo hi:Option Int):Str:=⟨((z.cps.toList.drop (HT.aO z.cps.toList.length 0 lo)).take (HT.aO z.cps.toList.length z.cps.toList.length hi-HT.aO z.cps.toList.length 0 lo)).toArray⟩
theorem Ai(v:Int)(n d:Nat):max 0 (min (if v<0 then v+(n:Int)else v) (n:Int))=((HT.aO n d (some v):Nat):Int):=by
 rw[<- HT.f_ v n d];split<;>lia
theorem Ra(lo hi:Option Int)(n:Nat):strSliceIndices lo hi 1 n=(List.range (HT.aO n n hi-HT.aO n 0 lo)).map fun k=>HT.aO n 0 lo+k:=by
 have h1:∀(a b:Nat),sliceRange (a:Int) (b:Int) 1=(List.range (b-a)).map fun k=>a+k:=by
  intro a b;unfold sliceRange;simp only[show(1:Int)>0 by decide,if_true];have e:(if(a:Int)<(b:Int)then((b:Int)-(a:Int)+1-1) / 1 else 0).toNat=b-a:=by
   rw[Int.ediv_one];split<;>lia
  rw[e];refine IB fun k _=>?_;lia
 unfold strSliceIndices;simp only[show(1:Int)>0 by decide,if_true];cases lo with
 | none =>
  cases hi with
  | none=>exact h1 0 n
  | some v =>
   dsimp only;rw[Ai v n n];exact h1 0 _
 | some u =>
  cases hi with
  | none =>
   dsimp only;rw[Ai u n 0];exact h1 _ n
  | some v =>
   dsimp only;rw[Ai u n 0,Ai v n n];exact h1 _ _
theorem Rb(l:List Nat)(a k:Nat)(h:a+k<=l.length):((List.range k).map fun i=>a+i).filterMap (fun i=>l[i]?)=(l.drop a).take k:=by
 induction k generalizing a with
 | zero=>simp
 | succ k ih =>
  rw[List.range_succ_eq_map,Yr,List.filterMap_cons];have ha:a<l.length:=by lia
  simp only[Nat.add_zero];rw[Yh ha];dsimp only;rw[Ib ha,List.take_succ_cons];congr 1;rw[jk,<- ih (a+1) (by lia)];congr 1;refine IB fun i _=>?_;show a+(i+1)=a+1+i;lia
theorem Rc(x:Str)(lo hi:Option Int):Txt.slice x lo hi=u7 x lo hi:=by
 unfold Txt.slice u7;have hn:x.length=x.cps.toList.length:=by show x.cps.size=_;simp
 have ha:=HT.iS x.cps.toList.length 0 (Y9 _) lo;have hb:=HT.iS x.cps.toList.length x.cps.toList.length (Yk _) hi;rw[hn,Ra];generalize HT.aO x.cps.toList.length 0 lo=a at ha ⊢;generalize HT.aO x.cps.toList.length x.cps.toList.length hi=b at hb ⊢;have hp:=Rb x.cps.toList a (b-a);split
 .rename_i h;simp only[Yc,qd,YQ,beq_iff_eq]at h;have h2:b-a=x.cps.toList.length:=h.2;by_cases h0:x.cps.toList.length=0
  .have:x.cps=#[]:=by
    apply Array.eq_empty_of_size_eq_zero;simpa using h0
   cases x;simp_all
  .have ea:a=0:=by lia
   subst ea;rw[zL,m8 (by lia)]
 .congr 1;by_cases Kl:a<=b
  .rw[<- hp (by lia)];congr 1;simp only[rn]
  .have:b-a=0:=by lia
   rw[this];simp
section
variable{X:Cx}
def Rf:V->Option Int->Option Int->Hp->VK->Prop:=fun x lo hi H Q=>∃z,x=.str z/\z.length<=sizeLine/\Q (.str (u7 z lo hi)) H
def Rg:uY X Rf:=by
 intro pins s σ H x v vl vu lo hi sl Q I rx hs pl pu h;obtain⟨z,rfl,hz,q⟩:=h;obtain⟨t,rfl⟩:=rx;rw[<- Rc]at q;refine⟨"str",_,F.slot_str_getitem.lookup,typeIs_str _ _ _,?_⟩;obtain⟨o,ho,hc,hd⟩:=hs;have key:∀(l u:Option (Int×Tok)),vl=partValue l->vu=partValue u->lo=l.map (·.1)->hi=u.map (·.1)->wpAny (model X.prog X.w) X.A (getItem (.str z t) (.ref sl)) (EP X pins σ Q) X.xe s:=by
  intro l u e1 e2 e3 e4;subst e1 e2 e3 e4;exact wpAny_getItem_str_slice (l:=l) (u:=u) (st:=none) ⟨o,ho,hc,hd⟩ rfl (post_val_or_str ⟨YB (Txt.slice_le z _ _) hz,fun t' k=>⟨.str _,H,I.tok k,⟨_,rfl⟩,q⟩⟩)
 cases pl with
 | none =>
  cases pu with
  | none=>exact key none none rfl rfl rfl rfl
  | int j u=>exact key none (some (j,u)) rfl rfl rfl rfl
 | int i t =>
  cases pu with
  | none=>exact key (some (i,t)) none rfl rfl rfl rfl
  | int j u=>exact key (some (i,t)) (some (j,u)) rfl rfl rfl rfl
end
def Sq(K:au)(H:Hp)(a:Addr)(xs:List V):Prop:=aZ K H a xs\/bo K H a xs
def u9(y x:Str):Bool:=!(occurrences y x 0 y.length 1).isEmpty
def Dw:R2:=fun x y H Q=>match x,y with
 | .int i,.int j=>Q (.int (i-j)) H
 | _,_=>False
def Dx:R2:=fun x y H Q=>match x,y with
 | .int i,.int j=>C0 i j/\Q (.int (i / j)) H
 | _,_=>False
def Dy:R2:=fun x y H Q=>match x,y with
 | .int i,.int j=>0<j/\Q (.int (i % j)) H
 | _,_=>False
def Dz:R2:=fun x y H Q=>match x,y with
 | .int i,.int j=>C1 i j/\Q (.int (i^j.toNat)) H
 | _,_=>False
def DA:R2:=fun x y H Q=>match x,y with
 | .int i,.int j=>Q (.bl (decide (i<j))) H
 | .str i,.str j=>Q (.bl (decide (i.cps.toList<j.cps.toList))) H
 | _,_=>False
def DB:R2:=fun x y H Q=>match x,y with
 | .int i,.int j=>Q (.bl (decide (j<i))) H
 | _,_=>False
def DC:R2:=fun x y H Q=>match x,y with
 | .int i,.int j=>Q (.bl (decide (i=j))) H
 | .str i,.str j=>Q (.bl (decide (i=j))) H
 | .bl i,.bl j=>Q (.bl (decide (i=j))) H
 | .ay,.ay=>Q (.bl true) H
 | .ay,.str _=>Q (.bl false) H
 | .str _,.ay=>Q (.bl false) H
 | _,_=>False
def DD:R2:=fun x y H Q=>match x,y with
 | .int i,.int j=>Q (.bl (!decide (i=j))) H
 | .str i,.str j=>Q (.bl (!decide (i=j))) H
 | .bl i,.bl j=>Q (.bl (!decide (i=j))) H
 | .ay,.ay=>Q (.bl false) H
 | .ay,.str _=>Q (.bl true) H
 | .str _,.ay=>Q (.bl true) H
 | _,_=>False
def u_(K:au):R2:=fun x y H Q=>match x,y with
 | .str i,.str j=>Q (.bl (u9 j i)) H
 | x,.ref p=>∃xs,Sq K H p xs/\fL x=true/\xs.all fL=true/\Q (.bl (ny x xs)) H
 | _,_=>False
def xp(K:au):R2:=fun x y H Q=>match x,y with
 | .str i,.str j=>Q (.bl (!u9 j i)) H
 | x,.ref p=>∃xs,Sq K H p xs/\fL x=true/\xs.all fL=true/\Q (.bl (!ny x xs)) H
 | _,_=>False
def Aj(K:au):R2:=fun x y H Q=>match x,y with
 | .str z,.int i=>z.length<=sizeLine/\∃c,bX z.cps.toList i=some c/\Q (.str ⟨#[c]⟩) H
 | .ref p,.int i=>∃xs v,Sq K H p xs/\bX xs i=some v/\Q v H
 | _,_=>False
def DF(K:au):List V->Hp->VK->Prop:=fun xs H Q=>match xs with
 | [.str z]=>z.length<=sizeLine/\Q (.int z.length) H
 | [.ref p]=>∃ys,Sq K H p ys/\Q (.int ys.length) H
 | _=>False
def Km:List V->Hp->VK->Prop:=fun xs H Q=>match xs with
 | [.int i,.int j]=>Q (.int (min i j)) H
 | _=>False
section
variable{X:Cx}
def a8.imp(h:a8 X f r)(hi:∀x y H Q,r' x y H Q->r x y H Q):a8 X f r':=fun pins s σ H x y v u Q I rx ry q=>h pins s σ H x y v u Q I rx ry (hi _ _ _ _ q)
def Z4.imp(h:Z4 X f r)(hi:∀xs H Q,r' xs H Q->r xs H Q):Z4 X f r':=fun pins s σ H xs us Q I rx q=>h pins s σ H xs us Q I rx (hi _ _ _ q)
def va:a8 X (binaryOp .Sub) Dw:=PV.imp fun x y H Q q=>by
 unfold Dw at q
 split at q
 .exact⟨_,_,rfl,rfl,q⟩
 .exact q.elim
def gc:a8 X (binaryOp .FloorDiv) Dx:=PX.imp fun x y H Q q=>by
 unfold Dx at q
 split at q
 .exact⟨_,_,rfl,rfl,q.1,q.2⟩
 .exact q.elim
def cL:a8 X (binaryOp .Mod) Dy:=PY.imp fun x y H Q q=>by
 unfold Dy at q
 split at q
 .exact⟨_,_,rfl,rfl,q.1,q.2⟩
 .exact q.elim
def DG:a8 X (binaryOp .Pow) Dz:=PZ.imp fun x y H Q q=>by
 unfold Dz at q
 split at q
 .exact⟨_,_,rfl,rfl,q.1,q.2⟩
 .exact q.elim
def Ko:a8 X (compareOp .Lt) DA:=(P5.or P7).imp fun x y H Q q=>by
 unfold DA at q
 split at q
 .exact .inl ⟨_,_,rfl,rfl,q⟩
 .exact .inr ⟨_,_,rfl,rfl,q⟩
 .exact q.elim
def xq:a8 X (compareOp .Gt) DB:=P6.imp fun x y H Q q=>by
 unfold DB at q
 split at q
 .exact⟨_,_,rfl,rfl,q⟩
 .exact q.elim
def Kq:a8 X (compareOp .Eq) DC:=P2.imp fun x y H Q q=>by
 unfold DC at q
 split at q<;>first|exact q.elim|(refine⟨rfl,?_⟩;simpa using q)
def Rh:a8 X (compareOp .NotEq) DD:=P4.imp fun x y H Q q=>by
 unfold DD at q
 split at q<;>first|exact q.elim|(refine⟨rfl,?_⟩;simpa using q)
def vb:a8 X (compareOp .In) (u_ X.K):=(P8.or QN).imp fun x y H Q q=>by
 unfold u_ at q
 split at q
 .exact .inl ⟨_,_,rfl,rfl,q⟩
 .obtain⟨xs,h1,h2,h3,h4⟩:=q
  exact .inr ⟨_,xs,rfl,h1,h2,h3,h4⟩
 .exact q.elim
def Kr:a8 X (compareOp .NotIn) (xp X.K):=(QP.or QO).imp fun x y H Q q=>by
 unfold xp at q
 split at q
 .exact .inl ⟨_,_,rfl,rfl,q⟩
 .obtain⟨xs,h1,h2,h3,h4⟩:=q
  exact .inr ⟨_,xs,rfl,h1,h2,h3,h4⟩
 .exact q.elim
def ZW:j5 X (Aj X.K):=by
 intro value slice pins s σ H x y v u Q I rx ry q hs;refine QG value slice pins s σ H x y v u Q I rx ry ?_ hs;unfold Aj at q;split at q
 .obtain⟨h1,c,h2,h3⟩:=q;exact .inr (.inr ⟨_,_,c,rfl,rfl,h1,h2,h3⟩)
 .obtain⟨xs,v,h1|h1,h2,h3⟩:=q
  .exact .inl ⟨_,xs,_,v,rfl,rfl,h1,h2,h3⟩
  .exact .inr (.inl ⟨_,xs,_,v,rfl,rfl,h1,h2,h3⟩)
 .exact q.elim
def iL:Z4 X (.builtin "len") (DF X.K):=(QR.or QQ).imp fun xs H Q q=>by
 unfold DF at q
 split at q
 .exact .inl ⟨_,rfl,q.1,q.2⟩
 .obtain⟨ys,h1,h2⟩:=q
  exact .inr ⟨_,ys,rfl,h1,h2⟩
 .exact q.elim
theorem Ri(hc:X.calm=true):Z4 X (.builtin "min") Km:=(Qb hc).imp fun xs H Q q=>by
 unfold Km at q
 split at q
 .rename_i i j
  refine⟨i,j,rfl,?_⟩
  have e:(if j<i then j else i)=min i j:=by split<;>lia
  rw[e];exact q
 .exact q.elim
def DI(hg:Gl X x)(hm:X.mg x=none)(hv:bootBuiltins x=some (.type T))(hn:x≠"__name__":=by decide)(hd:(x==("__debug__":Str))=false:=by decide):PE X (.Name x pos) (tC (.ty T)):=Px hg hm hv rfl hn hd
end
def Ak:List V->Hp->(It->Hp->Prop)->Prop:=fun vs H R=>match vs with
 | [.int j]=>-(2^62)<=j/\j<2^62/\R (z6 0 j.toNat) H
 | _=>False
def Ks(ta:TA):TI:=fun σ H R=>ta σ H fun vs H1=>Ak vs H1 R
def Kt(K:au):V->Hp->(It->Hp->Prop)->Prop:=fun x H R=>match x with
 | .ref a=>(∃xs,aZ K H a xs)/\R (z5 K a) H
 | _=>False
def Ku(K:au):V->Hp->(It->Hp->Prop)->Prop:=fun x H R=>match x with
 | .ref a=>(∃xs,bo K H a xs)/\R (CW K a) H
 | _=>False
def xr(u:V->Hp->(It->Hp->Prop)->Prop)(te:TE):TI:=fun σ H R=>te σ H fun x H1=>u x H1 R
section
variable{X:Cx}{tg:Expr}{a b:Expr}{p pos:Pos}{ta:TA}{te:TE}
theorem ql(hg:Gl X "range")(hm:X.mg "range"=none)(ha:PA X [a] ta)(hs:starEach [a] X.env=[(false,eval a X.env)]:=by rfl):PI X tg (.Call (.Name "range" p) [a] [] pos) (Ks ta):=by
 intro pins s σ H R I h;refine Call_ (oB I hg hm boot_range (wm (aK (ha pos pins s σ H _ I h) fun us s1 ⟨vs,H1,I1,r1,q1⟩=>?_) hs rfl));unfold Ak at q1;dsimp only at q1;split at q1
 .obtain⟨q1,q2,q⟩:=q1;cases r1 with
  | cons r rr =>
   cases rr;obtain⟨t,rfl⟩:=r;exact call_range_1 (PL I1 (by lia) (by lia) q1 q2 (by simpa using q))
 .exact q1.elim
end
def sf:List Expr->Option (List Str)
 | []=>some []
 | .Constant (.str x) _ _::r=>(sf r).map (x::·)
 | _=>none
def Kv(vs:List V):TA:=fun _ H L=>L vs H
theorem qm:∀ {es:List Expr} {xs:List Str},sf es=some xs->PA X es (Kv (xs.map V.str))
 | [],xs,h=>by
  cases h
  exact fun pos pins s σ H Q I q=>Zd pos pins s σ H Q I q
 | e :: es, xs,h=>by
  cases e with
  | Constant c k p =>
   cases c with
   | str x =>
    cases h1:sf es with
    | none=>simp[sf,h1]at h
    | some ys =>
     have h2:x::ys=xs:=by simpa[sf,h1]using h
     subst h2
     have ih:=qm (X:=X) h1
     exact fun pos pins s σ H Q I q=>(Za (te:=tC (.str x)) Zk ih) pos pins s σ H Q I q
   | _=>simp[sf]at h
  | _=>simp[sf]at h
def a_.az(h:H l=none):a_ H (upd H l o):=fun b u e=>by rw[Zn (ZY e h)];exact e
def a_.sq{K:au}(e:a_ H H')(h:bo K H a xs):bo K H' a xs:=by
 rcases h with(h|⟨o,h⟩)|h
 .exact .inl (.inl (e _ _ h))
 .exact .inl (.inr ⟨o,e _ _ h⟩)
 .exact .inr h
theorem Kw(h0:0<=i)(h:i<xs.length):∃v,bX xs i=some v/\xs[i.toNat]? = some v:=by
 have bq:i.toNat<xs.length:=by lia
 refine⟨xs[i.toNat],?_,Yh bq⟩;have e:(i.toNat:Int)=i:=by lia
 have h:=ZQ (Yh bq);rw[e]at h;exact h
section
variable{P:Program}{w:World}{K:au}{mg:Str->Option Value}{base:Heap}
def iW.DJ{st:Stmt}(F:iW K x qual st f fd)(hs:ZI st=sc)(hb:kW st=body)(S:gU N ps (ZI st))(len:∀ vs H Q E,sp vs H Q E->vs.length=ps.length)(cT:gU N ps sc->∀ (bf:Value) (A:Around) (outer:List Env) (s:Shared) (H:Hp) (vs:List V) (Q:VK) (E:XK),bW k (A.deeper (envOfC qual sc s.heap.objs.size f bf))->sp vs H Q E ->
   ∃t,d0 (ff aP P w K mg base N qual sc f bf A outer s H E).nj body t/\t { nx:=fun _ H'=>Q .ay H',rt:=Q } (L2.start N vs) H):cz P w K mg base aP (k+1) f fd ps sp:=by
 subst hs hb;exact F.ok S len (cT S)
end
open PySem
def DK{x:Str}:[x].Nodup:=by simp
section
variable{X:Cx}(K:au)(h:X.K=K)
include h
def Rj:a8 X (compareOp .In) (u_ K):=h▸vb
def vc:j5 X (Aj K):=h▸ZW
end
mutual
inductive Rep (K:au) (H:Hp):PyData->V->Prop
 | ay:Rep K H .none .ay
 | bl (b:Bool):Rep K H (.bool b) (.bl b)
 | int (i:Int):Rep K H (.int i) (.int i)
 | str (x:Str):Rep K H (.str x) (.str x)
 | tup {a:Addr} {xs:List V} {ds:List PyData}:bo K H a xs->gH K H ds xs->Rep K H (.tuple ds) (.ref a)
 | lst {a:Addr} {xs:List V} {ds:List PyData}:aZ K H a xs->gH K H ds xs->Rep K H (.list ds) (.ref a)
inductive gH (K:au) (H:Hp):List PyData->List V->Prop
 | nil:gH K H [] []
 | cons {d:PyData} {v:V} {ds:List PyData} {vs:List V}:Rep K H d v->gH K H ds vs->gH K H (d::ds) (v::vs)
end
section
variable{X:Cx}{pins:List (Addr×Obj)}{σ:St}{H:Hp}{s:Shared}
mutual
theorem Rep.reads (I:Inv X pins σ H s):∀ {d:PyData} {v:V} {u:Value},Rep X.K H d v->aX v u->∃as,Reads s.heap u d as
 | _,_,_,.ay,r=>by cases r;exact⟨_,.none⟩
 | _,_,_,.bl b,r=>by cases r;exact⟨_,.bool b⟩
 | _,_,_,.int i,r=>by obtain⟨t,rfl⟩:=r;exact⟨_,.int i t⟩
 | _,_,_,.str x,r=>by obtain⟨t,rfl⟩:=r;exact⟨_,.str x t⟩
 | _, _,_,.tup h q,r=>by
  cases r
  obtain⟨its,rv,⟨o,e,c,n,d⟩,hz⟩:=I.tuple h
  obtain⟨as,ra⟩:=gH.reads I q rv
  exact⟨_,.tuple e c d (by simpa using ra)⟩
 | _, _,_,.lst h q,r=>by
  cases r
  obtain⟨its,rv,⟨o,n,e,c,_,d⟩,hz⟩:=I.list h
  obtain⟨as,ra⟩:=gH.reads I q rv
  exact⟨_,.list e c d (by simpa using ra)⟩
theorem gH.reads (I:Inv X pins σ H s):∀ {ds:List PyData} {vs:List V} {us:List Value},gH X.K H ds vs->ZU vs us->∃as,ReadsAll s.heap us ds as
 | _,_,_,.nil,r=>by cases r;exact⟨_,.nil⟩
 | _, _,_,.cons h q,r=>by
  cases r with
  | cons r0 r1 =>
   obtain⟨as,ra⟩:=Rep.reads I h r0
   obtain⟨bs,rb⟩:=gH.reads I q r1
   exact⟨_,.cons ra rb⟩
end
def sg(K:au)(ne:Bool):R2:=fun x y H Q=>∃d e,Rep K H d x/\Rep K H e y/\d.canLay0=true/\e.canLay0=true/\d.depth<=190/\Q (.bl (if ne then !PyData.eqv d e else PyData.eqv d e)) H
theorem Rm(hu:X.A.units+200<cLine):a8 X (compareOp .Eq) (sg X.K false):=by
 intro pins s σ H x y v u Q I rx ry h;obtain⟨d,e,h1,h2,c1,c2,dp,q⟩:=h;obtain⟨as,ra⟩:=Rep.reads I h1 rx;obtain⟨bs,rb⟩:=Rep.reads I h2 ry;refine SeqAt.compareEq_reads ra rb c1 c2 ?_ ⟨.bl _,H,I,rfl,q⟩;have:min d.depth e.depth<=d.depth:=CB _ _;lia
def Rn(hu:X.A.units+200<cLine):a8 X (compareOp .NotEq) (sg X.K true):=by
 intro pins s σ H x y v u Q I rx ry h;obtain⟨d,e,h1,h2,c1,c2,dp,q⟩:=h;obtain⟨as,ra⟩:=Rep.reads I h1 rx;obtain⟨bs,rb⟩:=Rep.reads I h2 ry;refine SeqAt.compareNe_reads ra rb c1 c2 ?_ ⟨.bl _,H,I,rfl,q⟩;have:min d.depth e.depth<=d.depth:=CB _ _;lia
def Al(K:au):R2:=fun x y H Q=>match x,y with
 | .ref a,y=>sg K false (.ref a) y H Q
 | x,.ref b=>sg K false x (.ref b) H Q
 | x,y=>DC x y H Q
def DL(K:au):R2:=fun x y H Q=>match x,y with
 | .ref a,y=>sg K true (.ref a) y H Q
 | x,.ref b=>sg K true x (.ref b) H Q
 | x,y=>DD x y H Q
theorem cM(hr:bW k X.A):a8 X (compareOp .Eq) (Al X.K):=((Rm (by have:=hr.un;lia)).or Kq).imp fun x y H Q q=>by
 unfold Al at q
 split at q
 .exact .inl q
 .exact .inl q
 .exact .inr q
def sh(hr:bW k X.A):a8 X (compareOp .NotEq) (DL X.K):=((Rn (by have:=hr.un;lia)).or Rh).imp fun x y H Q q=>by
 unfold DL at q
 split at q
 .exact .inl q
 .exact .inl q
 .exact .inr q
def Ky(K:au)(h:X.K=K)(hr:bW k X.A):a8 X (compareOp .Eq) (Al K):=h▸cM hr
end
def DM(K:au):List V->Hp->VK->Prop:=fun xs H Q=>match xs with
 | [.ref p]=>∃ns:List Int,aZ K H p (ns.map V.int)/\Q (.int ns.sum) H
 | _=>False
theorem Kz(ns:List Int):∀n,n<=ns.length->preSum (fun i=>ns.getD i 0) n=(ns.take n).sum
 | 0,_=>by simp[preSum]
 | n+1,h=>by
  rw[preSum,Kz ns n (by lia),List.take_add_one,Yh (by lia),List.sum_append]
  simp[Y0,Yh (show n<ns.length by lia)]
theorem Ro(hc:X.calm=true):Z4 X (.builtin "sum") (DM X.K):=by
 intro pins s σ H xs us Q I r h;unfold DM at h;split at h
 .rename_i p;obtain⟨ns,hl,q⟩:=h;obtain⟨u,rfl,ru⟩:=r.one;cases ru;obtain⟨its,rv,pl,hz⟩:=I.list hl;refine call_sum_walkAnyS (uL pl.isList ?_);have aT:p≠s.heap.objs.size:=Yo (by obtain⟨o,n,e,_⟩:=pl;exact Ym e);have hlen:its.toArray.size=ns.length:=by have:=rv.length;simp at this;simp;lia
  refine⟨s.heap.objs.size,_,_,_,_,_,_,fun i=>ns.getD i 0,rfl,(wG (show X.A.in1.handled=none from I.ok.hd hc) s.heap.objs.size p aT its.toArray).toS,⟨⟨_,Yl _ rfl,rfl,rfl⟩,pl.isList.at fun o e=>Yd _ e⟩,?_,?_,fun s' t' hm=>?_⟩
  .intro b hb;have hp:p<s.heap.objs.size:=by obtain⟨o,n,e,_⟩:=pl;exact Ym e
   rw[YK];rcases Yp.mp hb with rfl|hb
   .exact Y7 _
   .have:b=p:=by simpa using hb
    subst this;exact YR hp
  .intro i v hv;have jY:its[i]? = some v:=by simpa using hv
   cases e:(ns.map V.int)[i]? with
   | none =>
    have:=rv.none_of e;rw[this]at jY;cases jY
   | some y =>
    obtain⟨u,hu,ru⟩:=rv.get e;rw[jY]at hu;cases hu;rw[Yj]at e;cases eb:ns[i]? with
    | none=>rw[eb]at e;cases e
    | some b =>
     rw[eb]at e;cases e;obtain⟨t,rfl⟩:=ru;exact⟨t,by dsimp only;rw[Y0,eb];rfl⟩
  .have e:preSum (fun i=>ns.getD i 0) its.toArray.size=ns.sum:=by
    rw[hlen,Kz ns _ (Yk _),YV]
   rw[e];have hI:Inv X pins σ H { s with heap:=s'.heap,toks:=s'.toks }:=I.kept (t':=s'.toks) fun b o e=>hm.heap b o (by simp;exact Yo (Ym e)) (Yd _ e);have es:({ s with heap:=s'.heap,toks:=s'.toks }:Shared)=s':=by
    have h1:=hm.gens;have h2:=hm.drawn;have h3:=hm.os;cases s';simp only at h1 h2 h3;subst h1 h2 h3;rfl
   rw[es]at hI;exact⟨.int _,H,hI,⟨_,rfl⟩,q⟩
 .exact h.elim
def DO:R2:=fun x y H Q=>match x,y with
 | .int i,.int j=>IntMulOk i j/\Q (.int (i*j)) H
 | .ref a,.int k=>Ka (.ref a) (.int k) H Q
 | _,_=>False
def Rp:a8 X (binaryOp .Mult) (fun x y H Q=>∃i j,x=.int i/\y=.int j/\IntMulOk i j/\Q (.int (i*j)) H):=by
 intro pins s σ H x y v u Q I rx ry h;obtain⟨i,j,rfl,rfl,hm,q⟩:=h;obtain⟨t,rfl⟩:=rx;obtain⟨t',rfl⟩:=ry;exact PyProof.Rows.mul_int ⟨.int _,H,I.tok _,⟨_,rfl⟩,q⟩ hm
def Am:a8 X (binaryOp .Mult) DO:=(Rp.or QX).imp fun x y H Q q=>by
 unfold DO at q
 split at q
 .exact .inl ⟨_,_,rfl,rfl,q.1,q.2⟩
 .exact .inr q
 .exact q.elim
def An(h:C2 i j):IntMulOk i j:=h.ok
def qo{α:Type}{P:α->Prop}{a:α}{l:List α}(h:P a)(t:∀p∈l,P p):∀p∈a::l,P p:=fun p hp=>by
 rcases Yp.mp hp with rfl|hp
 .exact h
 .exact t p hp
def vd{α:Type}{P:α->Prop}:∀p∈([]:List α),P p:=fun _ z=>nomatch z
def DP{cl:List (Str×Addr)}(h:(relabel scope env).names=names)(h2:(names.all fun p=>(p.2 != .cell&&p.2 != .free)||(cl.lookup p.1).isSome)=true):
  ∀p∈(relabel scope env).names,p.2=.cell\/p.2=.free->(cl.lookup p.1).isSome=true:=by
 intro p hp hk;rw[h]at hp;have:=wA.mp h2 p hp;rcases hk with e|e
 .rw[e]at this;simpa using this
 .rw[e]at this;simpa using this
section
variable{X:Cx}
def Rq(K:au):R2:=fun x y H Q=>∃l b xs zs,x=.ref l/\y=.ref b/\aZ K H l xs/\aZ K H b zs/\xs.length+zs.length<=sizeLine/\∀p,H p=none->Q (.ref p) (upd H p (.lst (xs++zs)))
theorem Rr:a8 X (binaryOp .Add) (Rq X.K):=by
 intro pins s σ H x y v u Q I rx ry h;obtain⟨l,b,xs,zs,rfl,rfl,hH,hB,hz,q⟩:=h;cases rx;cases ry;obtain⟨its,r,pl,z1⟩:=I.list hH;obtain⟨cV,r2,Rt,z2⟩:=I.list hB;have hl:=r.length;have dj:=r2.length;obtain⟨⟨cls,dd,data,sl⟩,ho,hc,n,hd⟩:=id pl.isList;obtain⟨⟨Df,kU,data2,z8⟩,lR,w8,n2,hd2⟩:=id Rt.isList;simp only at hc hd w8 hd2;subst hc hd w8 hd2;have e:its.toArray++cV.toArray=(its++cV).toArray:=by simp
 refine zN ⟨_,ho,rfl⟩ ⟨_,lR,rfl⟩ noFill_list_add seq_list_add PySem.F.slot_list_add PySem.F.entry_list_add (PySem.F.args_list_add_2 _ _) (PyProof.Rows.list_addW l b its.toArray cV.toArray n n2 dd kU sl z8 (by rw[Ys,Ys];lia)) ⟨ho,lR,?_⟩;rw[e];exact⟨.ref _,_,I.xi (t':=s.toks) (r.append r2) (by rw[Yq];lia),rfl,q _ I.fresh⟩
end
theorem KA(hc:X.calm=true)(S:ZS X scope cl ts frs')(hi:PI X tg iter wi)(hg:∀ pins s H fp,PG (X.comp scope cl (ts++frs'.map (·.1)) pins s H fp) tg g)(ht:∀ pins s H fp,qk (X.comp scope cl (ts++frs'.map (·.1)) pins s H fp) ifs tt)(he:∀ pins s H fp,PE (X.comp scope cl (ts++frs'.map (·.1)) pins s H fp) elt te)(hs:∀ x,foldedSetIterable iter X.env x=pure x)(I:Inv X pins σ H s)(h:Ah ts.length frs' wi g tt te σ H Q)(si:∀ (C D:Addr) (H5:Hp) (s6:Shared) (m6:Str->Option Value),Inv X pins σ H5 s6->s6.heap.Ns C m6->gG X pins H5 C->(∀ h',Heap.SameBut C s6.heap h'->Inv X pins σ H5 { s6 with heap:=h' })->Q (.ref D) H5 ->
   compPost (model X.prog X.w) X.A X.xe use Qv (.ref D) C (.ok .next) s6):
  wpAny (model X.prog X.w) X.A (comprehension (.ListComp elt [⟨tg,iter,ifs,0⟩] scope pos) scope X.env DS (newList []) false (eval iter X.env) use) Qv X.xe s:=by
 refine wpAny_comprehension_free (use:=use) (cl:=cl) rfl hs S.xo S.kind S.names (aK (hi pins s σ H _ I h) fun v s1 h1=>aK h1 fun z4 s2 h2=>?_);obtain⟨it,fp,tn,J,H2,e,I2,T,fe,f2,q2⟩:=h2;subst e;have DV:H2 s2.heap.objs.size=none:=I2.aE.fresh (Yk _);obtain⟨W,⟨m0,w0⟩,turn⟩:=q2 _ DV;refine YO ?_;have mi:∀b∈fp,b<s2.heap.objs.size:=fun b hb=>by
  obtain⟨o,e,_⟩:=T.obj _ _ fe b hb;exact Ym e
 have I3:Inv X pins σ (upd H2 s2.heap.objs.size (.lst [])) { s2 with heap:=s2.heap.push { cls:=.type "list",data:=.seq ([]:List Value).toArray } } :=
  I2.laid (t':=s2.toks) (fun b u e=>Yd _ e) (Yk _) ⟨Y9 _,[],0,.nil,Yl _ rfl⟩
 have f3:∀b∈fp,gG X pins (upd H2 s2.heap.objs.size (.lst [])) b:=fun b hb=>⟨by rw[Zn (Yo (mi b hb))];exact(f2 b hb).1,(f2 b hb).2⟩;have sj:∀b o,s2.heap.get? b=some o->(s2.heap.push { cls:=.type "list",data:=.seq ([]:List Value).toArray }).get? b=some o:=fun b o e=>Yd _ e;have sk:(s2.heap.push { cls:=.type "list",data:=.seq ([]:List Value).toArray }).objs.size=s2.heap.objs.size+1:=YK ..;refine wpAny_newFunctionEnv S.mh (by intro y hy;simp at hy) (fun bF bY cG=>?_) S.kind;dsimp only at bY cG ⊢;generalize xt:({ s2 with heap:=s2.heap.push { cls:=.type "list",data:=.seq ([]:List Value).toArray } }:Shared)=s3 at I3 bY cG ⊢;have j8:s3.heap=s2.heap.push { cls:=.type "list",data:=.seq ([]:List Value).toArray }:=by rw[<- xt]
 have xu:∀b o,s3.heap.get? b=some o->bF.get? b=some o:=fun b o e=>by
  have:=cG.2 b (by rw[<- j8];exact Yo (Ym e));rw[<- j8]at this;exact this.trans (Yd _ e)
 have mj:∀b∈fp,b<s3.heap.objs.size:=fun b hb=>by
  rw[j8,sk];exact YR (mi b hb)
 rw[<- j8]at bY;have I4:=S.inv I3 f3 mj (tk:=s2.toks+([]:List (Str×Value)).length) bY xu;have xv:tn 0 bF:=T.keep _ _ _ fe fun b hb o e=>xu b o (by rw[j8];exact sj b o e);have iY:({ s2 with heap:=bF,toks:=s2.toks+([]:List (Str×Value)).length }:Shared)={ s3 with heap:=bF,toks:=s2.toks+([]:List (Str×Value)).length }:=by rw[<- xt]
 rw[iY];have eg:∀ {H':Hp},(∀b∈fp,H' b=none)->∀b∈fp,gG (X.comp scope cl (ts++frs'.map (·.1)) pins s3 (upd H2 s2.heap.objs.size (.lst [])) fp) [] H' b:=fun hn b hb=>by
  obtain⟨h1,h2,h3,h4,h5,h6⟩:=f3 b hb;refine⟨hn b hb,Yo (mj b hb),fun z=>?_,.inl hb,fun x c e=>h5 x c (S.g8 e),fun p hp=>h6 p (by
   have:p∈(X.pn++pins)++[]:=hp;rwa [YW]at this)⟩
  rcases Yp.mp (I3.di _ z)with e'|e'
  .exact h2 e'
  .exact h3 e'
 have loop : codeAny (model X.prog X.w) X.A (.compLoop (.ListComp elt [⟨tg,iter,ifs,0⟩] scope pos) 0 (.ref it) (.ref s2.heap.objs.size) (compEnvC scope cl s3.heap.objs.size X.env))
   (compPost (model X.prog X.w) X.A X.xe use Qv (.ref s2.heap.objs.size) s3.heap.objs.size) { s3 with heap:=bF,toks:=s2.toks+([]:List (Str×Value)).length }:=by
  refine Q_ (fun n s'=>∃i τ H',Inv (X.comp scope cl (ts++frs'.map (·.1)) pins s3 (upd H2 s2.heap.objs.size (.lst [])) fp) [] τ H' s'/\tn i s'.heap/\(∀b∈fp,H' b=none)/\W i n τ H') ?_ m0
   ⟨0,_,_,I4,xv,fun b hb=>(f3 b hb).1,w0⟩
  rintro n s5 ⟨i,τ,H5,I5,oG,rN,w5⟩;rcases turn i n τ H5 w5 with⟨stop,qn⟩|⟨go,step⟩
  .refine YH (T.done (X.comp scope cl (ts++frs'.map (·.1)) pins s3 (upd H2 s2.heap.objs.size (.lst [])) fp) rfl rfl rfl hc i [] s5 τ H5 (fun _ _=>False) I5 (eg rN) oG stop) (fun r s6 ⟨hr,I6⟩=>?_) fun _ _ z=>z;subst hr;obtain⟨m6,sr,_⟩:=id I6.loc;have hA:∀h',Heap.SameBut s3.heap.objs.size s6.heap h'->Inv X pins σ H5 { s6 with heap:=h' }:=fun h' g9=>ZS.after I3 f3 I6 g9;have DW:=I3.fZ (b:=s3.heap.objs.size) (Yk _) (I3.aE.fresh (Yk _));exact si _ _ H5 s6 m6 (hA s6.heap ⟨rfl,fun _ _=>rfl⟩) sr ⟨I6.free,DW.2⟩ hA qn
  .refine YH (T.item (X.comp scope cl (ts++frs'.map (·.1)) pins s3 (upd H2 s2.heap.objs.size (.lst [])) fp) rfl rfl rfl hc i [] s5 τ H5 (fun _ _=>False) I5 (eg rN) oG go) (fun r s6 ⟨u,hr,h6⟩=>?_) fun _ _ z=>z;subst hr;refine aK h6 fun _ s7 aH=>?_;obtain⟨x,H7,I7,r7,y7,sv,DX⟩:=aH;have DY:=I7.pinned (eg DX) (T.obj _ _ sv);refine aK (hg _ _ _ _ _ s7 τ H7 x u _ DY r7 (step x H7 y7)) fun _ s8 aH=>?_;obtain⟨jv,H8,I8,q8⟩:=aH;refine aK (ht _ _ _ _ _ s8 jv H8 _ I8 q8) fun ok s9 aH=>?_;obtain⟨H9,I9,q9⟩:=aH;have again:∀ {m':Nat} {H':Hp} {s':Shared},Inv (X.comp scope cl (ts++frs'.map (·.1)) pins s3 (upd H2 s2.heap.objs.size (.lst [])) fp) ([]++uU fp s7.heap) jv H' s'->m'<n->W (i+1) m' jv H' ->
     ∃m,m<n/\∃i τ H',Inv (X.comp scope cl (ts++frs'.map (·.1)) pins s3 (upd H2 s2.heap.objs.size (.lst [])) fp) [] τ H' s'/\tn i s'.heap/\(∀b∈fp,H' b=none)/\W i m τ H':=fun {m' H' s'} I' hm w'=>by
    refine⟨m',hm,i+1,jv,H',I'.cj,T.keep _ _ _ sv fun b hb o e=>(I'.pin (b,o) (Yy _ (Yy _ (uV hb e)))).1,fun b hb=>?_,w'⟩;obtain⟨o,e,d⟩:=T.obj _ _ sv b hb;exact(I'.pin (b,o) (Yy _ (Yy _ (uV hb e)))).2.1
   cases ok with
   | false =>
    rw[if_neg Yw];rw[if_neg Yw]at q9;obtain⟨m',hm,w'⟩:=q9;exact again I9 hm w'
   | true =>
    rw[if_pos rfl];rw[if_pos rfl]at q9;refine aK (he _ _ _ _ _ s9 jv H9 _ I9 q9) fun yv DZ aH=>?_;obtain⟨y,D0,D1,D2,ys,hl,hz,m',hm,w'⟩:=aH;refine aK (ZZ _ DZ jv D0 (.ref s2.heap.objs.size) [y] (.ref s2.heap.objs.size) [yv] (fun _ H'=>W (i+1) m' jv H') D1 rfl (.cons D2 .nil) ⟨_,ys,y,rfl,rfl,hl,hz,w'⟩) fun _ Ru aH=>?_;obtain⟨_,Rv,Ao,_,Rw⟩:=aH;exact again Ao hm Rw
 have es:(s2.heap.push { cls:=.type "list",data:=.seq ([]:List Value).toArray }).objs.size=s3.heap.objs.size:=by rw[j8]
 rw[es];exact codeAny_compStart_list loop (T.self _ 0 _ _ _ xv loop)
def nA(hc:X.calm=true)(S:ZS X scope cl ts frs')(hi:PI X tg iter wi)(hg:∀pins s H fp,PG (X.comp scope cl (ts++frs'.map (·.1)) pins s H fp) tg g)(ht:∀pins s H fp,qk (X.comp scope cl (ts++frs'.map (·.1)) pins s H fp) ifs tt)(he:∀pins s H fp,PE (X.comp scope cl (ts++frs'.map (·.1)) pins s H fp) elt te)(hs:∀x,foldedSetIterable iter X.env x=pure x:=by intro _;rfl):
  PE X (.ListComp elt [⟨tg,iter,ifs,0⟩] scope pos) (Ah ts.length frs' wi g tt te):=by
 intro pins s σ H Q I h;rw[eval_ListComp];exact KA hc S hi hg ht he hs (use:=none) (Qv:=EP X pins σ Q) I h fun C D H5 s6 m6 I6 hn Rx hA q=>⟨m6,hn,fun h' g9=>⟨.ref D,H5,hA h' g9,rfl,q⟩⟩
def Ap(hN:X.N.Nodup)(kX:X.N[i]? = some y)(hy:Loc X.env.scope y)(D3:swapsWith (.ListComp elt [⟨tg,iter,ifs,0⟩] scope pos) (some (.Name y py)) sx.line X.env=pure true)(hc:X.calm=true)(S:ZS X scope cl ts frs')(hi:PI X tg iter wi)(hg:∀pins s H fp,PG (X.comp scope cl (ts++frs'.map (·.1)) pins s H fp) tg g)(ht:∀pins s H fp,qk (X.comp scope cl (ts++frs'.map (·.1)) pins s H fp) ifs tt)(he:∀pins s H fp,PE (X.comp scope cl (ts++frs'.map (·.1)) pins s H fp) elt te)(hs:∀x,foldedSetIterable iter X.env x=pure x:=by intro _;rfl)(hf:X.fn y=true\/X.env.scope.names.lookup y=some .local:=by first|exact .inl rfl|exact .inr rfl|assumption):
  PS X (.Assign [.Name y py] (.ListComp elt [⟨tg,iter,ifs,0⟩] scope pos) sx) (wQ (Ah ts.length frs' wi g tt te) (rL i)):=by
 intro pins s σ H D I h;rw[exec_Assign_Name_used _ _ _ _ D3];refine Yb (oo (Yb ?_));show wpAny _ X.A (do let _ <- comprehension (.ListComp elt [⟨tg,iter,ifs,0⟩] scope pos) scope X.env _ (newList []) false (eval iter X.env) (some (assign (.Name y py) X.env))) _ _ s;refine Yb (YH (KA hc S hi hg ht he hs (Qv:=fun _ s'=>SP X pins D .next s') (use:=some (assign (.Name y py) X.env)) I h ?_) (fun _ s' hq=>Ye (Ye hq)) fun _ _ e=>e);intro C Da H5 s6 m6 I6 sr xw hA qn;show wpAny _ X.A (assign (.Name y py) X.env (.ref Da)) _ _ _;refine Cu (CN I6 hN kX hy (v:=.ref Da) rfl (fun s7 I7 ⟨a,sb,ha⟩=>?_) hf);have D4:C≠a:=by
  obtain⟨_,h2,_,_,h5,_⟩:=xw;rcases ha with rfl|ha
  .exact h2
  .exact fun e=>h5 _ _ ha e.symm
 refine⟨m6,sr.sameBut sb D4,fun h' g9=>?_⟩;obtain⟨f0,f1,f2,f3,f4,f5⟩:=xw;exact⟨_,H5,I7.turned (h':=h') (t':=s7.toks) (fun b o hb e=>(g9.2 b hb).trans e) f0 f1 f3 f4 f5,qn⟩
def D5(K:au):List V->Hp->VK->Prop:=fun xs H Q=>match xs with
 | [.ref p]=>∃ys,Sq K H p ys/\∀l,H l=none->Q (.ref l) (upd H l (.lst ys))
 | _=>False
def Ry:Z4 X (.type "list") (D5 X.K):=QS.imp fun xs H Q q=>by
 unfold D5 at q
 split at q
 .obtain⟨ys,h1,h2⟩:=q
  exact⟨_,ys,rfl,h1,h2⟩
 .exact q.elim
theorem D6(h:j<n):iU n (j:Int)=some j:=by
 unfold iU;rw[if_pos (by lia),if_pos (by lia)];simp
end L2
namespace MM
def sm(n:Nat)(f:Nat->Int):Int:=((List.range n).map f).sum
abbrev fh(l:List Int)(i:Nat):Int:=l.getD i 0
end MM
namespace MM
def mc:Nat->Nat->Nat
 | _,0=>1
 | 0,_+1=>0
 | m+1,j+1=>mc m (j+1)+mc (m+1) j
def ch:Nat->Nat->Nat
 | _,0=>1
 | 0,_+1=>0
 | n+1,k+1=>ch n k+ch n (k+1)
def sy(l:List Int):Int->Int:=fun z=>if 0<=z then fh l z.toNat else 0
def part(w:Nat->Int)(s:Nat)(bs:List Int)(m n:Nat):Int:=sm (m+1) fun j=>if j*s<=n then w j*fh bs (n-j*s)else 0
end MM
namespace L2
open PySem PySem.Spec PyProof.Rows
def gI{c A B:Prop}[Decidable c](hc:c)(h:A):if c then A else B:=by rw[if_pos hc];exact h
def jw{c A B:Prop}[Decidable c](hc:¬c)(h:B):if c then A else B:=by rw[if_neg hc];exact h
section
variable{X:Cx}{pins:List (Addr×Obj)}{σ:St}{H:Hp}{s:Shared}
def Inv.gd{ch:List Addr}(I:Inv X pins σ H s)(eW:∀b∈ch,gG X pins H b)(k:∀b u,b∉ch->s.heap.get? b=some u->h'.get? b=some u)(hT:s.heap.objs.size<=T)(new:dD X.prog X.w (upd H T o) h' T o):Inv X pins σ (upd H T o) { s with heap:=h',toks:=t' }:=by
 have hn:H T=none:=I.aE.fresh hT;have nT:∀b u,s.heap.get? b=some u->b≠T:=fun b u e=>Yo (YJ (Ym e) hT);have gF:∀b u,H b=some u->b∉ch:=fun b u e z=>by rw[(eW b z).1]at e;cases e
 refine I.step (g':=s.gens) (d':=s.drawn) (ch:=ch) (fun b hb=>?_) (fun b u _ _ hc e _=>k b u hc e) (fun b u _ _ hc e _=>⟨u.slots,k b u hc e⟩) (fun b u _ e n=>by rw[Zn (nT b u e)];exact n)
  (fun b u hc e=>⟨u,k b u hc e⟩) (fun b xs e=>by rw[Zn (ZY e hn)];exact e) (fun b u v e=>by rw[Zn (ZY e hn)];exact e) (fun b ps e=>⟨#[],by rw[Zn (ZY e hn),e];simp⟩) (fun m hm=>?_) (fun b u e=>?_) I.bare
 .obtain⟨h0,h1,h2,h3,h4,h5⟩:=eW b hb;exact⟨h3,h1,h4,h5⟩
 .obtain⟨ob,es,ep,ho,r⟩:=hm;exact⟨ob,es,ep,k _ ob (fun z=>(eW _ z).2.1 rfl) ho,r⟩
 .by_cases hb:b=T
  .subst hb;rw[Zs]at e;cases e;exact new
  .rw[Zn hb]at e;refine(I.aE b u e).dh (fun c v hc q=>k c v ?_ q) (fun c q=>by rw[Zn (ZY q hn)];exact q) fun c xs q=>by rw[Zn (ZY q hn)];exact q
   rcases hc with z|z
   .rw[z];exact gF b u e
   .exact gF c _ z
def Inv.gf{ch:List Addr}(I:Inv X pins σ H s)(eW:∀b∈ch,gG X pins H b)(k:∀b u,b∉ch->s.heap.get? b=some u->h'.get? b=some u):Inv X pins σ H { s with heap:=h',toks:=t' }:=by
 have gF:∀b u,H b=some u->b∉ch:=fun b u e z=>by rw[(eW b z).1]at e;cases e
 refine I.step (g':=s.gens) (d':=s.drawn) (ch:=ch) (fun b hb=>?_) (fun b u _ _ hc e _=>k b u hc e) (fun b u _ _ hc e _=>⟨u.slots,k b u hc e⟩) (fun _ _ _ _ n=>n)
  (fun b u hc e=>⟨u,k b u hc e⟩) (fun _ _ e=>e) (fun _ _ _ e=>e) (fun b ps e=>⟨#[],by rw[e];simp⟩) (fun m hm=>?_) (fun b u e=>?_) I.bare
 .obtain⟨h0,h1,h2,h3,h4,h5⟩:=eW b hb;exact⟨h3,h1,h4,h5⟩
 .obtain⟨ob,es,ep,ho,r⟩:=hm;exact⟨ob,es,ep,k _ ob (fun z=>(eW _ z).2.1 rfl) ho,r⟩
 .refine(I.aE b u e).dh (fun c v hc q=>k c v ?_ q) (fun _ q=>q) fun _ _ q=>q;rcases hc with z|z
  .rw[z];exact gF b u e
  .exact gF c _ z
end
def xx(K:au)(a:Addr):It :=
 ⟨fun i H=>∃xs x,aZ K H a xs/\xs[i]? = some x,
  fun i H v H'=>∃T x,v=.ref T/\H T=none/\H'=upd H T (.tup [.int i,x])/\(∀xs,aZ K H a xs->xs[i]? = some x),
  fun i H=>∃xs,aZ K H a xs/\xs.length<=i⟩
def Rz{K:au}(aT:e≠it):nu P w K (.Tuple elts k0 pos) (xx K l) [e,it] e
  (fun i h=>(∃old,IsEnum h e it i old)/\h.IsListIter it l i) where
 mem:=by simp
 obj := fun i h st b hb=>by
  obtain⟨⟨old,he⟩,h1⟩:=st
  simp only[Yp,YN,fH]at hb
  rcases hb with rfl|rfl
  .exact⟨_,he,fun v q=>nomatch q⟩
  .obtain⟨o,e,c,d⟩:=h1
   exact⟨o,e,fun v q=>by rw[d]at q;cases q⟩
 keep:=fun i h h' st k=>by
  obtain⟨⟨old,he⟩,h1⟩:=st
  exact⟨⟨old,k e (by simp) _ he⟩,h1.at fun o q=>k it (by simp) o q⟩
 item := by
  intro X hP hw hK hc i pins s σ H E I hf st hg;subst hP hw hK;obtain⟨⟨old,he⟩,h1⟩:=st;obtain⟨xs,x,hx,xy⟩:=hg;obtain⟨its,rv,p,_⟩:=I.list hx;obtain⟨u,hu,ru⟩:=rv.get xy;refine wpAny_pyNext_enum_item he h1 p.isList (x:=u) (by simpa using hu) aT fun h' a1 a2 a3 a4 hk=>⟨_,rfl,Ia a1 fun qp xA sb=>?_⟩;have nz:s.heap.objs.size≠e:=lI (Ym he);have xB:IsTup qp s.heap.objs.size [Value.int i s.toks,u].toArray:=⟨_,sb.extBut _ _ nz a3,rfl,_,rfl⟩;have I':Inv X pins σ (upd H s.heap.objs.size (.tup [.int i,x])) { s with heap:=qp,toks:=s.toks+1 }:=I.gd (ch:=[e,it]) hf (fun b o hb q=>by
   simp only[Yp,YN,fH,not_or]at hb;exact sb.extBut _ _ hb.1 (hk b o hb.1 hb.2 q)) (Yk _) ⟨by show 2<=sizeLine;decide,[Value.int i s.toks,u],.cons ⟨_,rfl⟩ (.cons ru .nil),xB⟩
  have hn:H s.heap.objs.size=none:=I.aE.fresh (Yk _);refine⟨.ref s.heap.objs.size,_,I',rfl,⟨_,x,rfl,hn,rfl,fun zs j9=>by rw[I.gR j9 hx];exact xy⟩,⟨⟨_,by push_cast;exact xA⟩,a2.extBut sb.extBut (Ne.symm aT)⟩,fun b hb=>?_⟩;have xC:=(hf b hb).1;have : b≠s.heap.objs.size:=by
   obtain⟨o,q⟩:∃o,s.heap.get? b=some o:=by
    simp only[Yp,YN,fH]at hb;rcases hb with rfl|rfl
    .exact⟨_,he⟩
    .obtain⟨o,q,_⟩:=h1;exact⟨o,q⟩
   exact Yo (Ym q)
  rw[Zn this];exact xC
 done := by
  intro X hP hw hK hc i pins s σ H E I hf st hg;subst hP hw hK;obtain⟨⟨old,he⟩,h1⟩:=st;obtain⟨xs,hx,D7⟩:=hg;obtain⟨its,rv,p,_⟩:=I.list hx;have hl:=rv.length;exact wpAny_pyNext_enum_end (I.ok.hd hc) he h1 p.isList (by simp;lia) fun h' hk=>⟨rfl,I.gf (t':=s.toks) (ch:=[e,it]) hf (fun b o hb q=>by
   simp only[Yp,YN,fH,not_or]at hb;exact hk b o hb.2 q)⟩
 self:=fun _ _ _ _ _ st h=>by
  obtain⟨⟨old,he⟩,h1⟩:=st;exact zH he h
def D8(K:au):List V->Hp->(It->Hp->Prop)->Prop:=fun vs H R=>match vs with
 | [.ref a]=>(∃xs,aZ K H a xs)/\R (xx K a) H
 | _=>False
def Aq(u:List V->Hp->(It->Hp->Prop)->Prop)(ta:TA):TI:=fun σ H R=>ta σ H fun vs H1=>u vs H1 R
theorem RA:bootBuiltins "enumerate"=some (.type "enumerate"):=by decide +kernel
def xD(K:au)(hK:X.K=K)(n:Nat)(hc:X.calm=true)(h:wO X es t)(hn:(assignEach es X.env).length=n)(jq:(assignEach es X.env).findIdx? (·.1)=none):PG X (.Tuple es k pos) (zZ K n t):=by
 subst hK;exact oE hc h hn jq
def g2{K:au}(h:bo K H T [x,y])(q:Q (some x::some y::fr) H):zZ K 2 (zY (rL 0) (zY (rL 1) CU)) (.ref T) (k0::k1::fr) H Q :=
 ⟨T,_,rfl,h,rfl,_,_,rfl,_,_,rfl,rfl,q⟩
theorem D9(ns:List Int):∀k i,i<=k->MM.fh ns (argBest (fun i j=>decide (MM.fh ns i<MM.fh ns j)) k)<=MM.fh ns i
 | 0, i,h=>by
  have:i=0:=by lia
  subst this
  exact Int.le_refl _
 | k+1, i,h=>by
  rw[argBest]
  have ih:=D9 ns k
  split
  .rename_i hb
   have hb:=lG hb
   by_cases e:i=k+1
   .rw[e];exact Int.le_refl _
   .have:=ih i (by lia)
    lia
  .rename_i hb
   have hb:¬(MM.fh ns (k+1)<MM.fh ns (argBest (fun i j=>decide (MM.fh ns i<MM.fh ns j)) k)):=fun z=>hb (YC z)
   by_cases e:i=k+1
   .rw[e];lia
   .exact ih i (by lia)
def KC(h:i<ns.length):MM.fh ns i∈ns:=by
 unfold MM.fh;rw[Y0,Yh h];exact rq h
def KD(h:x∈ns):∃i,i<ns.length/\MM.fh ns i=x:=by
 obtain⟨i,hi,e⟩:=p_.mp h;refine⟨i,hi,?_⟩;unfold MM.fh;rw[Y0,Yh hi];exact e
theorem ve(rv:ZU (ns.map V.int) its){v:Value}(h:its.toArray[i]? = some v):i<ns.length/\∃t,v=.int (MM.fh ns i) t:=by
 have jY:its[i]? = some v:=by simpa using h
 have hlen:=rv.length;have hi:i<ns.length:=by
  have:=(Yg.mp jY).1;rw[Yc]at hlen;lia
 refine⟨hi,?_⟩;have e:(ns.map V.int)[i]? = some (.int (MM.fh ns i)):=by
  rw[Yj,Yh hi];unfold MM.fh;rw[Y0,Yh hi];rfl
 obtain⟨u,hu,ru⟩:=rv.get e;rw[jY]at hu;cases hu;exact ru
section
variable{X:Cx}
def D_(K:au):List V->Hp->VK->Prop:=fun xs H Q=>match xs with
 | [.int i,.int j]=>Q (.int (min i j)) H
 | [.ref p]=>∃ns:List Int,aZ K H p (ns.map V.int)/\1<=ns.length/\∀m,m∈ns->(∀x∈ns,m<=x)->Q (.int m) H
 | _=>False
theorem RB(hc:X.calm=true):Z4 X (.builtin "min") (fun xs H Q=>∃(p:Addr)(ns:List Int),xs=[.ref p]/\aZ X.K H p (ns.map V.int)/\1<=ns.length/\∀m,m∈ns->(∀x∈ns,m<=x)->Q (.int m) H):=by
 intro pins s σ H xs us Q I r h;obtain⟨p,ns,rfl,hl,h1,q⟩:=h;obtain⟨u,rfl,ru⟩:=r.one;cases ru;obtain⟨its,rv,pl,hz⟩:=I.list hl;have hlen:its.toArray.size=ns.length:=by have:=rv.length;simp at this;simp;lia
 have hp:p<s.heap.objs.size:=by obtain⟨o,n,e,_⟩:=pl;exact Ym e
 refine call_min_walk (uL pl.isList ?_);refine⟨s.heap.objs.size,_,_,_,_,_,fun i j=>decide (MM.fh ns i<MM.fh ns j),rfl,wG (show X.A.in1.handled=none from I.ok.hd hc) s.heap.objs.size p (Yo hp) its.toArray,⟨⟨_,Yl _ rfl,rfl,rfl⟩,pl.isList.at fun o e=>Yd _ e⟩,?_,by rw[hlen];exact h1,?_,?_⟩
 .intro b hb;rw[YK];rcases Yp.mp hb with rfl|hb
  .exact Y7 _
  .have:b=p:=by simpa using hb
   subst this;exact YR hp
 .intro i j vi vj s' Q' E' hi hj hq;obtain⟨_,t,rfl⟩:=ve rv hi;obtain⟨_,t',rfl⟩:=ve rv hj;exact HT.gV _ _ _ _ _ _ _ _ _ _ hq
 .intro v h' tk hv hk;obtain⟨hi,t,rfl⟩:=ve rv hv;rw[hlen]at hi ⊢;refine⟨.int _,H,I.kept (t':=tk) fun b o e=>hk b o (by simp;exact Yo (Ym e)) (Yd _ e),⟨_,rfl⟩,q _ (KC hi) fun x hx=>?_⟩;obtain⟨j,hj,rfl⟩:=KD hx;exact D9 ns (ns.length-1) j (by lia)
def RC(hc:X.calm=true):Z4 X (.builtin "min") (D_ X.K):=((Ri hc).or (RB hc)).imp fun xs H Q q=>by
 unfold D_ at q
 split at q
 .exact .inl q
 .obtain⟨ns,h1,h2,h3⟩:=q
  exact .inr ⟨_,ns,rfl,h1,h2,h3⟩
 .exact q.elim
end
section
variable{prog:Program}{w:World}{A:Around}{E:Value->Shared->Prop}{s:Shared}
def RD{ws:List Value}(ht:IsTup s.heap t #[])(hb:IsTup s.heap b ws.toArray)(h:Q (.ref b) s):wpAny (model prog w) A (binaryOp .Add (.ref t) (.ref b)) Q E s:=by
 obtain⟨⟨c1,d1,x1,l1⟩,g1,k1,n1,z1⟩:=id ht;obtain⟨⟨c2,d2,x2,l2⟩,g2,k2,n2,z2⟩:=id hb;simp only at k1 z1 k2 z2;subst k1 z1 k2 z2;exact zN ⟨_,g1,rfl⟩ ⟨_,g2,rfl⟩ PySem.noFill_tuple_add PySem.seq_tuple_add Co Ck (Cj _ _) (tuple_addW0 t b #[] ws.toArray n1 n2 d1 d2 l1 l2 rfl) ⟨g1,g2,h⟩
end
section
variable{X:Cx}
def RE(K:au):R2:=fun x y H Q=>∃a b xs ys,x=.ref a/\y=.ref b/\bo K H a xs/\bo K H b ys/\xs.length+ys.length<=sizeLine/\∀p H',a_ H H'->bo K H' p (xs++ys)->Q (.ref p) H'
def RF:a8 X (binaryOp .Add) (RE X.K):=by
 intro pins s σ H x y v u Q I rx ry h;obtain⟨a,b,xs,ys,rfl,rfl,ha,hb,hz,q⟩:=h;by_cases hx:xs=[]
 .subst hx;cases rx;cases ry;obtain⟨its,r1,p1,_⟩:=I.tuple ha;obtain⟨cV,r2,p2,_⟩:=I.tuple hb;cases r1;exact RD p1 p2 ⟨.ref b,H,I,rfl,q b H (a_.refl _) hb⟩
 .refine QB pins s σ H (.ref a) (.ref b) v u Q I rx ry ⟨a,b,xs,ys,rfl,rfl,ha,hb,hx,hz,fun e=>?_,fun _ p hp=>q p _ (a_.az hp) (bo.of Zs)⟩
  .subst e;exact q a H (a_.refl _) (by rw[YW];exact ha)
def RG(K:au):V->Option Int->Option Int->Hp->VK->Prop:=fun x lo hi H Q=>∃a xs,x=.ref a/\bo K H a xs/\∀p H',a_ H H'->bo K H' p (j4 xs lo hi)->Q (.ref p) H'
end
section
variable{prog:Program}{w:World}{A:Around}{E:Value->Shared->Prop}{s:Shared}
def RH{lo hi:Option Int}(ht:IsTup s.heap t items)(hs:s.heap.IsSliceOf sl vl vu .none)(pl:IsPart vl lo)(pu:IsPart vu hi)(h1:HT.aO items.size 0 lo=0)(h2:HT.aO items.size items.size hi=items.size)(h:Q (.ref t) s):wpAny (model prog w) A (getItem (.ref t) (.ref sl)) Q E s:=by
 obtain⟨ob,g1,g2,g3⟩:=id hs;have hT:s.TypeIs (.ref sl) "slice":=⟨ob,g1,g2⟩;unfold getItem;try with_reducible refine YU ?_
 first|refine Yb (Ye ?_)|skip
 refine Yb (IP ht.typeIs (by decide) ?_);have key:wpAny (model prog w) A.in1 (Builtin.«tuple.__getitem__» ⟨[.ref t,.ref sl],[]⟩) (fun fin s'=>∃v,fin=.done (.ret v)/\Q v s') E s:=by
  show wpAny _ _ (Builtin.Tuple.tupleItemsOf (.ref t)>>=_) _ _ s;refine Yb (PyProof.Rows.tupleItemsOf_ ht (Yb (rD hT ?_)));rw[if_pos (by decide)];refine Yb (HT.bQ hs pl pu ?_);rw[h1,h2];show wpAny _ _ (if((((0:Nat):Int)==0&&(1:Int)==1&&(items.size-0)==items.size))=true then _ else _) _ _ s;rw[if_pos (by simp)];refine Yb (Yb (rD ht.typeIs (Ye ?_)));rw[if_pos (by decide)];exact Yb (qf (Ye ⟨_,rfl,h⟩))
 exact Yb (Y4 (name:=Str.ofString "__getitem__") ht.typeIs uH (Y1 uH ht.typeIs PyProof.Rows.entry_tuple_getitem (YH key (fun fin s' ⟨v,e,q⟩=>⟨v,e,Ye q⟩) fun _ _ z=>z) (PyProof.Rows.args_tuple_getitem _ _)))
end
section
variable{X:Cx}
def RI{lo hi:Option Int}(h1:HT.aO xs.length 0 lo=0)(h2:HT.aO xs.length xs.length hi=xs.length):j4 xs lo hi=xs:=by
 unfold j4;rw[h1,h2,zL,Nat.sub_zero,YV]
def RJ:uY X (RG X.K):=by
 intro pins s σ H x v vl vu lo hi sl Q I rx hs pl pu h;obtain⟨a,xs,rfl,hx,q⟩:=h;by_cases hw:HT.aO xs.length 0 lo=0/\HT.aO xs.length xs.length hi=xs.length
 .cases rx;obtain⟨its,r,ht,hz⟩:=I.tuple hx;have hlen:its.toArray.size=xs.length:=by rw[Ys];exact r.length.symm
  refine⟨"tuple",_,uH.lookup,ht.typeIs,RH ht hs pl pu (by rw[hlen];exact hw.1) (by rw[hlen];exact hw.2) ⟨.ref a,H,I,rfl,q a H (a_.refl _) ?_⟩⟩;rw[RI hw.1 hw.2];exact hx
 .exact Qz pins s σ H (.ref a) v vl vu lo hi sl Q I rx hs pl pu ⟨a,xs,rfl,hx,hw,fun p hp=>q p _ (a_.az hp) (bo.of Zs)⟩
def Ar(K:au):R2:=fun x y H Q=>match x,y with
 | .int i,.int j=>Q (.int (i+j)) H
 | .str i,.str j=>i.length+j.length<=sizeLine/\Q (.str (i++j)) H
 | .ref a,.ref b=>(∃xs zs,aZ K H a xs/\aZ K H b zs/\xs.length+zs.length<=sizeLine/\∀p,H p=none->Q (.ref p) (upd H p (.lst (xs++zs)))) \/
   (∃xs zs,bo K H a xs/\bo K H b zs/\xs.length+zs.length<=sizeLine/\∀p H',a_ H H'->bo K H' p (xs++zs)->Q (.ref p) H')
 | _,_=>False
def fM:a8 X (binaryOp .Add) (Ar X.K):=((PU.or P').or (Rr.or RF)).imp fun x y H Q q=>by
 unfold Ar at q
 split at q
 .exact .inl (.inl ⟨_,_,rfl,rfl,q⟩)
 .exact .inl (.inr ⟨_,_,rfl,rfl,q.1,q.2⟩)
 .rcases q with⟨xs,zs,h1,h2,h3,h4⟩|⟨xs,zs,h1,h2,h3,h4⟩
  .exact .inr (.inl ⟨_,_,xs,zs,rfl,rfl,h1,h2,h3,h4⟩)
  .exact .inr (.inr ⟨_,_,xs,zs,rfl,rfl,h1,h2,h3,h4⟩)
 .exact q.elim
def RK(K:au)(h:X.K=K):a8 X (binaryOp .Add) (Ar K):=h▸fM
def Ea(K:au):V->Option Int->Option Int->Hp->VK->Prop:=fun x lo hi H Q=>match x with
 | .str z=>z.length<=sizeLine/\Q (.str (u7 z lo hi)) H
 | .ref a=>(∃xs,aZ K H a xs/\∀p,H p=none->Q (.ref p) (upd H p (.lst (j4 xs lo hi))))\/(∃xs,bo K H a xs/\∀p H',a_ H H'->bo K H' p (j4 xs lo hi)->Q (.ref p) H')
 | _=>False
def nB:uY X (Ea X.K):=by
 intro pins s σ H x v vl vu lo hi sl Q I rx hs pl pu q;unfold Ea at q;split at q
 .exact Rg pins s σ H _ v vl vu lo hi sl Q I rx hs pl pu ⟨_,rfl,q.1,q.2⟩
 .rcases q with⟨xs,h1,h2⟩|⟨xs,h1,h2⟩
  .exact QL pins s σ H _ v vl vu lo hi sl Q I rx hs pl pu ⟨_,xs,rfl,h1,h2⟩
  .exact RJ pins s σ H _ v vl vu lo hi sl Q I rx hs pl pu ⟨_,xs,rfl,h1,h2⟩
 .exact q.elim
end
section
open PySem.AutoSeq1 (wpAny_loadPart')
variable{prog:Program}{w:World}{A:Around}{E:Value->Shared->Prop}{s:Shared}
def RL(t:Addr)(items:Array Value)(n:Nat)(dd:Option Addr)(sl:Array (Option Value)):
  Meets (Builtin.«enumerate.__new__» ⟨[.type "enumerate",.ref t],[]⟩) (fun _ R s=>s.heap.get? t=some { cls:=.type "tuple",dict:=dd,data:=.seq items n,slots:=sl } /\
   R (.ok (.ret (.ref (s.heap.push { cls:=.type "tuple_iterator",data:=.fields #[.ref t,.int 0 0] }).objs.size)))
    { s with heap:=(s.heap.push { cls:=.type "tuple_iterator",data:=.fields #[.ref t,.int 0 0] }).push { cls:=.type "enumerate",data:=.fields #[.none,.bool false,.ref s.heap.objs.size,rawInt 0,.none,.none] } }) :=
 .of_wp fun prog w A R s aD=>by
  obtain⟨g1,g2⟩:=aD
  obtain⟨hp,ge,dr,tk,os⟩:=s
  have es:=sub_enumerate
  have hL:Heap.IsTuple (Shared.heap ⟨hp,ge,dr,tk,os⟩) t items:=⟨_,g1,rfl,n,rfl⟩
  wp_walk using wq g1
  refine wpAny_stack_any fun st=>Ye ?_
  split
  .rename_i cc _ _ _ _ _
   cases(cc==Value.type "enumerate")<;>(wp_walk using wq g1,Cs hL;exact⟨_,rfl,g2⟩)
  .wp_walk using wq g1,Cs hL
   exact⟨_,rfl,g2⟩
end
section
variable{prog:Program}{w:World}{A:Around}{E:Value->Shared->Prop}{s:Shared}
def RM(ht:s.heap.IsTuple t items)(h:∀h',IsEnum h' (s.heap.objs.size+1) s.heap.objs.size 0 .none->h'.IsTupleIter s.heap.objs.size t 0->(∀b o,s.heap.get? b=some o->h'.get? b=some o)->Q (.ref (s.heap.objs.size+1)) { s with heap:=h' }):
  wpAny (model prog w) A (call (.type "enumerate") [.ref t]) Q E s:=by
 obtain⟨⟨c,dd,dt,sl⟩,g1,k1,n,k2⟩:=ht;simp only at k1 k2;subst k1 k2;have e1:(s.heap.push { cls:=.type "tuple_iterator",data:=.fields #[.ref t,.int 0 0] }).objs.size=s.heap.objs.size+1:=YK ..;have e2:IsEnum ((s.heap.push { cls:=.type "tuple_iterator",data:=.fields #[.ref t,.int 0 0] }).push { cls:=.type "enumerate",data:=.fields #[.none,.bool false,.ref s.heap.objs.size,rawInt 0,.none,.none] }) (s.heap.objs.size+1) s.heap.objs.size 0 .none:=by
  rw[<- e1];exact Yl _ rfl
 refine callType_new F.called_enumerate (by decide) (F.typeCall_enumerate_1 _) (F.newCall_enumerate_1 _) (fun ob=>F.args_object_init_2 ob _) F.entry_enumerate_new (RL t items n dd sl) ⟨g1,?_⟩;show _/\_;rw[e1];exact⟨⟨_,e2,rfl⟩,h _ e2 ⟨_,Yd _ (Yl _ rfl),rfl,rfl⟩ fun b o z=>Yd _ (Yd _ z)⟩
def RN(st:s.heap.IsTupleIter it t i)(ht:s.heap.IsTuple t items)(hx:items[i]? = some x)(hQ:∀h',h'.IsTupleIter it t (i+1)->Heap.SameBut it s.heap h'->Q x { s with heap:=h' }):wpAny (model prog w) A (Builtin.SmallTypes.nextOf (.ref it)) Q E s:=by
 obtain⟨ob,g1,g2,g3⟩:=id st;obtain⟨ol,k1,k2,n,k3⟩:=ht;have no:¬((Value.ref t==Value.none)=true):=Yw;unfold Builtin.SmallTypes.nextOf;refine Yb (Y4 (name:=Str.ofString "__next__") st.typeIs zA (Y1 zA st.typeIs HZ (show wpAny _ _ (field (.ref it) 0>>=_) _ _ s from Yb (Y8 g1 g3 (x:=.ref t) rfl (show wpAny _ _ (if(Value.ref t==Value.none)=true then _ else _) _ _ s from ?_))) (HY _)));rw[if_neg no];refine(show wpAny _ _ (field (.ref it) 1>>=_) _ _ s from Yb (Y8 g1 g3 (x:=.int i 0) rfl (show wpAny _ _ (seqItems? (.ref t)>>=_) _ _ s from Yb (uN k1 k3 ?_))));simp only[hx,Int.toNat_natCast];refine Yb (wpAny_setField g1 g3 (by simp) (Ye ⟨x,rfl,Ye (hQ _ ⟨_,YE _ g1 (Obj.isFreed_of_fields (YX g3 _)),(Obj.cls_mapFields ..).trans g2,?_⟩ (lE ..))⟩));rw[YX g3];simp[rawInt]
theorem RP{i:Nat}{T1:Heap->Prop}(he:IsEnum s.heap e it i old)(aT:e≠it)(hk:∀ h h',T1 h->(∀ o,h.get? it=some o->h'.get? it=some o)->T1 h')(hn:∀ (A':Around) (E':Value->Shared->Prop) (Q':Value->Shared->Prop),(∀ h',T1 h'->Heap.SameBut it s.heap h'->Q' x { s with heap:=h' })->wpAny (model prog w) A' (Builtin.SmallTypes.nextOf (.ref it)) Q' E' s)(hQ : ∀ h',IsEnumOut h' e it ((i:Int) + 1) x s.heap.objs.size->T1 h'->h'.get? s.heap.objs.size=some { cls:=.type "tuple",data:=.seq #[.int i s.toks,x] } ->
   (∀b o,b≠e->b≠it->s.heap.get? b=some o->h'.get? b=some o)->Q (some (.ref s.heap.objs.size)) { s with heap:=h',toks:=s.toks+1 }):
  wpAny (model prog w) A (pyNext (.ref e)) Q E s:=by
 have hT:s.TypeIs (.ref e) "enumerate":=⟨_,he,rfl⟩;have lt:e<s.heap.objs.size:=Ym he;have core:wpAny (model prog w) A.in1 (Builtin.«enumerate.__next__» ⟨[.ref e],[]⟩) (fun fin s'=>∃v,fin=.done (.ret v)/\wpAny (model prog w) A (pure (some v)) Q E s') (fun _ _=>False) s:=by
  obtain⟨hp,ge,dr,tk,os⟩:=s;refine(show wpAny _ _ (field (.ref e) 2>>=_) _ _ _ from Yb (Y8 he rfl (x:=.ref it) rfl (Yb (hn _ _ _ fun h1 t1 b1=>?_))));have b1:Heap.SameBut it hp h1:=b1;have g1:IsEnum h1 e it i old:=(b1.2 e aT).trans he;refine(show wpAny _ _ (field (.ref e) 3>>=_) _ _ ⟨h1,ge,dr,tk,os⟩from Yb (Y8 g1 rfl (x:=rawInt i) rfl (show wpAny _ _ (field (.ref e) 4>>=_) _ _ ⟨h1,ge,dr,tk,os⟩from Yb (Y8 g1 rfl (x:=.none) rfl (show wpAny _ _ (mkInt i>>=_) _ _ ⟨h1,ge,dr,tk,os⟩from Yb (wpAny_mkInt (show wpAny _ _ (setField (.ref e) 3 (rawInt ((i:Int)+1))>>=_) _ _ ⟨h1,ge,dr,tk+1,os⟩from Yb (wx g1 (by simp) fun h2 g2 b2=>?_))))))));have b2:Heap.SameBut e h1 h2:=b2;have g2:IsEnum h2 e it ((i:Int)+1) old:=g2;refine(show wpAny _ _ (setField (.ref e) 4 .none>>=_) _ _ ⟨h2,ge,dr,tk+1,os⟩from Yb (wx g2 (by simp) fun h3 g3 b3=>?_));have b3:Heap.SameBut e h2 h3:=b3;have g3:IsEnum h3 e it ((i:Int)+1) old:=g3;have z3:h3.objs.size=hp.objs.size:=by rw[b3.1,b2.1,b1.1]
  refine(show wpAny _ _ (newTuple [.int i tk,x]>>=_) _ _ ⟨h3,ge,dr,tk+1,os⟩from Yb (wpAny_newTuple ?_));have g4:IsEnum (h3.push { cls:=.type "tuple",data:=.seq #[.int i tk,x] }) e it ((i:Int)+1) old:=Yd _ g3;have u4:(h3.push { cls:=.type "tuple",data:=.seq #[.int i tk,x] }).get? hp.objs.size=some { cls:=.type "tuple",data:=.seq #[.int i tk,x] }:=by
   rw[<- z3];exact Yl _ rfl
  have v4:∀b o,b≠e->b≠it->hp.get? b=some o->(h3.push { cls:=.type "tuple",data:=.seq #[.int i tk,x] }).get? b=some o:=fun b o q1 q2 q3=>Yd _ (b3.extBut b o q1 (b2.extBut b o q1 (b1.extBut b o q2 q3)));have w4:T1 (h3.push { cls:=.type "tuple",data:=.seq #[.int i tk,x] }):=hk h1 _ t1 fun o q=>Yd _ (b3.extBut it o (Ne.symm aT) (b2.extBut it o (Ne.symm aT) q));generalize h3.push { cls:=.type "tuple",data:=.seq #[.int i tk,x] }=h4 at g4 u4 v4 w4 ⊢;rw[z3];refine(show wpAny _ _ (Builtin.SmallTypes.ownedTupleIsFree (.ref e)>>=_) _ _ ⟨h4,ge,dr,tk+1,os⟩from Yb ?_);unfold Builtin.SmallTypes.ownedTupleIsFree;refine Yb (Y8 g4 rfl (x:=.none) rfl (Ye ?_));simp only[if_true];refine Yb (qf (Yb (Y8 g4 rfl (x:=old) rfl (Yb (wx g4 (by simp) fun h5 g5 b5=>?_)))));have b5:Heap.SameBut e h4 h5:=b5;have g5:IsEnum h5 e it ((i:Int)+1) x:=g5;refine(show wpAny _ _ (Builtin.SmallTypes.ownedTupleHandOut (.ref e) (.ref hp.objs.size)>>=_) _ _ ⟨h5,ge,dr,tk+1,os⟩from Yb ?_);unfold Builtin.SmallTypes.ownedTupleHandOut;refine Yb (wx g5 (by simp) fun h6 g6 b6=>?_);have b6:Heap.SameBut e h5 h6:=b6;have g6:IsEnumOut h6 e it ((i:Int)+1) x hp.objs.size:=g6;refine wx g6 (by simp) fun h7 g7 b7=>?_;have b7:Heap.SameBut e h6 h7:=b7;have g7:IsEnumOut h7 e it ((i:Int)+1) x hp.objs.size:=g7;have on:∀b o,b≠e->h4.get? b=some o->h7.get? b=some o:=fun b o q1 q2=>b7.extBut b o q1 (b6.extBut b o q1 (b5.extBut b o q1 q2));exact Yb (rE (Ye ⟨_,rfl,Ye (hQ h7 g7 (hk h4 h7 w4 fun o q=>on it o (Ne.symm aT) q) (on _ _ (lI lt) u4) fun b o q1 q2 q3=>on b o q1 (v4 b o q1 q2 q3))⟩))
 unfold pyNext;exact Yb (qe (Y4 (name:=Str.ofString "__next__") hT zD (Y1 zD hT Io (YH core (fun fin s' ⟨v,q1,q2⟩=>⟨v,q1,q2⟩) fun _ _ z=>z.elim) (Ih _))))
end
section
variable{prog:Program}{w:World}{A:Around}{E:Value->Shared->Prop}{s:Shared}
def RQ(hh:A.handled=none)(st:s.heap.IsTupleIter it t i)(ht:s.heap.IsTuple t items)(hx:items[i]? = none)(hE:∀h' e,Heap.ExtBut it s.heap h'->(∃o,h'.get? e=some o/\o.cls=.type "StopIteration")->E (.ref e) { s with heap:=h' }):wpAny (model prog w) A (Builtin.SmallTypes.nextOf (.ref it)) Q E s:=by
 obtain⟨ob,g1,g2,g3⟩:=id st;obtain⟨ol,k1,k2,n,k3⟩:=ht;have no:¬((Value.ref t==Value.none)=true):=Yw;unfold Builtin.SmallTypes.nextOf;refine Yb (Y4 (name:=Str.ofString "__next__") st.typeIs zA (Y1 zA st.typeIs HZ (show wpAny _ _ (field (.ref it) 0>>=_) _ _ s from Yb (Y8 g1 g3 (x:=.ref t) rfl (show wpAny _ _ (if(Value.ref t==Value.none)=true then _ else _) _ _ s from ?_))) (HY _)));rw[if_neg no];refine(show wpAny _ _ (field (.ref it) 1>>=_) _ _ s from Yb (Y8 g1 g3 (x:=.int i 0) rfl (show wpAny _ _ (seqItems? (.ref t)>>=_) _ _ s from Yb (uN k1 k3 ?_))));simp only[hx,Int.toNat_natCast];refine Yb (qf (Yb (wpAny_setField g1 g3 (by simp) (show wpAny _ _ (newExc (.type "StopIteration") []>>=_) _ _ _ from Yb ?_))));simp only[newTuple,newExc];refine Yb (YO (Yb (m:=firstArgMember _ _) (wF (a:=Value.none) (by first|rfl|(simp only[firstArgMember];rfl)) (YO ?_ (by size_fits)))) (by size_fits));simp only[raiseNew];refine Yb (wpAny_handled ?_);first|rw[hh]|rw[show A.in1.handled=none from hh]
 exact Yb (Ye (wpAny_throw (hE _ _ (((lE ..).extBut.push _).push _) ⟨_,Yl _ rfl,rfl⟩)))
def RR(he:IsEnum s.heap e it i old)(hn:∀(E':Value->Shared->Prop)(Q':Value->Shared->Prop),(∀h' x,Heap.ExtBut it s.heap h'->(∃o,h'.get? x=some o/\o.cls=.type "StopIteration")->E' (.ref x) { s with heap:=h' })->wpAny (model prog w) A.in1 (Builtin.SmallTypes.nextOf (.ref it)) Q' E' s)(hQ:∀h',Heap.ExtBut it s.heap h'->Q none { s with heap:=h' }):wpAny (model prog w) A (pyNext (.ref e)) Q E s:=by
 have hT:s.TypeIs (.ref e) "enumerate":=⟨_,he,rfl⟩;unfold pyNext;refine Yb (qe (Y4 (name:=Str.ofString "__next__") hT zD (Y1 zD hT Io (show wpAny _ _ (field (.ref e) 2>>=_) _ _ _ from Yb (Y8 he rfl (x:=.ref it) rfl (Yb (hn _ _ fun h' x q1 q2=>?_)))) (Ih _))));obtain⟨o,ho,hc⟩:=q2;exact Yb (wB (T:="StopIteration") (b:=true) ⟨o,ho,hc⟩ isSubtype_stop (Ye (hQ _ q1)))
end
def xE(K:au)(a:Addr):It :=
 ⟨fun i H=>∃xs x,bo K H a xs/\xs[i]? = some x,
  fun i H v H'=>∃T x,v=.ref T/\H T=none/\H'=upd H T (.tup [.int i,x])/\(∀xs,bo K H a xs->xs[i]? = some x),
  fun i H=>∃xs,bo K H a xs/\xs.length<=i⟩
def RT{K:au}(aT:e≠it):nu P w K (.Tuple elts k0 pos) (xE K l) [e,it] e
  (fun i h=>(∃old,IsEnum h e it i old)/\h.IsTupleIter it l i) where
 mem:=by simp
 obj := fun i h st b hb=>by
  obtain⟨⟨old,he⟩,h1⟩:=st
  simp only[Yp,YN,fH]at hb
  rcases hb with rfl|rfl
  .exact⟨_,he,fun v q=>nomatch q⟩
  .obtain⟨o,e,c,d⟩:=h1
   exact⟨o,e,fun v q=>by rw[d]at q;cases q⟩
 keep:=fun i h h' st k=>by
  obtain⟨⟨old,he⟩,h1⟩:=st
  exact⟨⟨old,k e (by simp) _ he⟩,h1.at fun o q=>k it (by simp) o q⟩
 item := by
  intro X hP hw hK hc i pins s σ H E I hf st hg;subst hP hw hK;obtain⟨⟨old,he⟩,h1⟩:=st;obtain⟨xs,x,hx,xy⟩:=hg;obtain⟨its,rv,p,_⟩:=I.tuple hx;obtain⟨u,hu,ru⟩:=rv.get xy;refine RP (x:=u) (T1:=fun h=>h.IsTupleIter it l (i+1)) he aT (fun h h' a b=>a.at b) (fun A' E' Q' q=>RN h1 p (by simpa using hu) q) fun h' a1 a2 a3 hk=>⟨_,rfl,Ia a1 fun qp xA sb=>?_⟩;have nz:s.heap.objs.size≠e:=lI (Ym he);have xB:IsTup qp s.heap.objs.size [Value.int i s.toks,u].toArray:=⟨_,sb.extBut _ _ nz a3,rfl,_,rfl⟩;have I':Inv X pins σ (upd H s.heap.objs.size (.tup [.int i,x])) { s with heap:=qp,toks:=s.toks+1 }:=I.gd (ch:=[e,it]) hf (fun b o hb q=>by
   simp only[Yp,YN,fH,not_or]at hb;exact sb.extBut _ _ hb.1 (hk b o hb.1 hb.2 q)) (Yk _) ⟨by show 2<=sizeLine;decide,[Value.int i s.toks,u],.cons ⟨_,rfl⟩ (.cons ru .nil),xB⟩
  have hn:H s.heap.objs.size=none:=I.aE.fresh (Yk _);refine⟨.ref s.heap.objs.size,_,I',rfl,⟨_,x,rfl,hn,rfl,fun zs j9=>by rw[I.fJ j9 hx];exact xy⟩,⟨⟨_,by push_cast;exact xA⟩,a2.at fun o q=>sb.extBut it o (Ne.symm aT) q⟩,fun b hb=>?_⟩;have xC:=(hf b hb).1;have : b≠s.heap.objs.size:=by
   obtain⟨o,q⟩:∃o,s.heap.get? b=some o:=by
    simp only[Yp,YN,fH]at hb;rcases hb with rfl|rfl
    .exact⟨_,he⟩
    .obtain⟨o,q,_⟩:=h1;exact⟨o,q⟩
   exact Yo (Ym q)
  rw[Zn this];exact xC
 done := by
  intro X hP hw hK hc i pins s σ H E I hf st hg;subst hP hw hK;obtain⟨⟨old,he⟩,h1⟩:=st;obtain⟨xs,hx,D7⟩:=hg;obtain⟨its,rv,p,_⟩:=I.tuple hx;have hl:=rv.length;exact RR he (fun E' Q' q=>RQ (show X.A.in1.handled=none from I.ok.hd hc) h1 p (by simp;lia) q) fun h' hk=>⟨rfl,I.gf (t':=s.toks) (ch:=[e,it]) hf (fun b o hb q=>by
   simp only[Yp,YN,fH,not_or]at hb;exact hk b o hb.2 q)⟩
 self:=fun _ _ _ _ _ st h=>by
  obtain⟨⟨old,he⟩,h1⟩:=st;exact zH he h
def Eb(K:au):List V->Hp->(It->Hp->Prop)->Prop:=fun vs H R=>match vs with
 | [.ref a]=>(∃xs,bo K H a xs)/\R (xE K a) H
 | _=>False
def RV(m:Moved wr (fun a b=>b=a) s s'):s'={ s with heap:=s'.heap,toks:=s'.toks }:=by
 have h1:=m.gens;have h2:=m.drawn;have h3:=m.os;cases s';simp only at h1 h2 h3;subst h1 h2 h3;rfl
inductive Wr where
 | nothing
 | bead (c:Str)
 | side (b:Bool) (f:Wr)
 | pair (f g:Wr)
 | many (k:Nat) (ps:List Wr)
def Z8:Nat->Str
 | 0=>"row"
 | 1=>"bag"
 | 2=>"choice"
 | _=>"ring"
def Ec:Bool->Str
 | true=>"right"
 | false=>"left"
def Wr.name:Wr->Str
 | .nothing=>"nothing"
 | .bead _=>"bead"
 | .side b _=>Ec b
 | .pair _ _=>"pair"
 | .many k _=>Z8 k
mutual
def Wr.bM:Wr->Nat
 | .nothing=>1
 | .bead _=>1
 | .side _ f=>1+f.bM
 | .pair f g=>1+(f.bM+(g.bM+0))
 | .many _ ps=>1+KG ps
def KG:List Wr->Nat
 | []=>0
 | w::ws=>w.bM+KG ws
end
def oS(K:au)(H H':Hp):Prop:=∀a xs,bo K H a xs->bo K H' a xs
def oS.trans{K:au}(h:oS K H H1)(k:oS K H1 H2):oS K H H2:=fun a xs q=>k a xs (h a xs q)
def a_.bM{K:au}(e:a_ H H'):oS K H H':=fun _ _ h=>e.sq h
def oS.lst{K:au}(h:H l=some (.lst ys)):oS K H (upd H l (.lst zs)):=fun a xs q=>by
 rcases q with(q|⟨o,q⟩)|q
 .refine .inl (.inl ?_)
  rw[Zn (kP q h (by intro z;cases z))];exact q
 .refine .inl (.inr ⟨o,?_⟩)
  rw[Zn (kP q h (by intro z;cases z))];exact q
 .exact .inr q
def tn(ps:List Wr)(i:Nat):Int:=((ps.map Wr.bM).getD i 0:Nat)
theorem KH(j:Int):∃c:Str,bX [V.str "red",V.str "ash",V.str "blue",V.str "redder"] (j % 4)=some (.str c)/\PyData.strOk c=true:=by
 have h:j % 4=0\/j % 4=1\/j % 4=2\/j % 4=3:=by lia
 rcases h with h|h|h|h<;>rw[h]
 .exact⟨"red",ZQ (j:=0) rfl,by decide +kernel⟩
 .exact⟨"ash",ZQ (j:=1) rfl,by decide +kernel⟩
 .exact⟨"blue",ZQ (j:=2) rfl,by decide +kernel⟩
 .exact⟨"redder",ZQ (j:=3) rfl,by decide +kernel⟩
section
open PySem.AutoSeq1 (wpAny_loadPart')
def RW(l:Addr)(items:Array Value)(n:Nat)(t:Addr)(more:Array Value)(m:Nat)(dd:Option Addr)(sl:Array (Option Value))(h1:¬(!items.isEmpty&&Builtin.List.listTooLong (items.size+more.size))=true)(h2:items.size<=sizeLine)(h3:(items++more).size<=sizeLine+1):
  Meets (Builtin.«list.extend» ⟨[.ref l,.ref t],[]⟩) (fun _ R s=>s.heap.get? l=some { cls:=.type "list",data:=.seq items n } /\
   s.heap.get? t=some { cls:=.type "tuple",dict:=dd,data:=.seq more m,slots:=sl }/\R (.ok (.ret .none)) { s with heap:=s.heap.update l (Obj.mapSeq fun x=>x++more) }) :=
 .of_wp fun prog w A R s aD=>by
  obtain⟨g1,g2,q⟩:=aD
  obtain⟨hp,ge,dr,tk,os⟩:=s
  have a1:=PySem.AutoSeq1.idx_int
  have a2:=PySem.AutoSeq1.sub_tuple_tuple
  have a3:=PySem.AutoSeq1.sub_list_list
  have a4:=PySem.AutoSeq1.sub_tuple_list
  have a5:=PySem.AutoSeq1.sub_list_tuple
  wp_walk using(oh g1 rfl (hz:=h2) (_hz':=h3)),wq g1,wq g2
  exact⟨_,rfl,q⟩
end
section
variable{X:Cx}
def Ed(K:au):V->List V->Hp->VK->Prop:=fun x vs H Q=>∃l b xs zs,x=.ref l/\vs=[.ref b]/\H l=some (.lst xs)/\bo K H b zs/\xs.length+zs.length<=sizeLine/\Q .ay (upd H l (.lst (xs++zs)))
theorem RX:xh X "list.extend" (Ed X.K):=by
 intro pins s σ H x vs v us Q I rx rv h;obtain⟨l,b,xs,zs,rfl,rfl,hH,hB,hz,q⟩:=h;cases rx;obtain⟨u,rfl,ru⟩:=rv.one;cases ru;obtain⟨z,its,n,r,hl,e⟩:=I.eh hH;obtain⟨cV,r2,⟨⟨c,dd,dt,sl⟩,e2,k1,m,k2⟩,z2⟩:=I.tuple hB;simp only at k1 k2;subst k1 k2;have dj:=r2.length;have hsz:its.toArray.size+cV.toArray.size<=sizeLine:=by simp only[Ys];lia
 refine rF IK ⟨_,e,rfl⟩ IA (Iw _ _) (RW l its.toArray n b cV.toArray m dd sl (by rw[Dk hsz,CC];decide) (by lia) (by rw[Array.size_append];lia)) ⟨e,e2,?_⟩;refine⟨.ay,_,I.oO (its':=its++cV) (t':=s.toks) hH e (by simp) (r.append r2) ?_,rfl,q⟩;simp only[Yq];lia
end
open PySem PySem.Spec PyProof.Rows PySem.MeetsSeq
open PySem.AutoSeq1 (wpAny_loadPart')
section
variable{X:Cx}
def vf(z:Str):Value->Bool
 | .str s _=>s.cps.toList==z.cps.toList
 | _=>false
theorem Ee{ss:List Str}(r:ZU (ss.map V.str) its){i:Nat}(hu:its[i]? = some u):∃s t,ss[i]? = some s/\u=.str s t:=by
 have hl:=r.length;rw[Yc]at hl;have hi:i<its.length:=(Yg.mp hu).1;obtain⟨v,hv,rv⟩:=r.get (i:=i) (x:=V.str (ss[i]'(by lia))) (by rw[Yj,Yh (by lia)];rfl);rw[hu]at hv;cases hv;obtain⟨t,rfl⟩:=rv;exact⟨_,t,Yh (by lia),rfl⟩
theorem RY{ss:List Str}(r:ZU (ss.map V.str) its)(hj:ss[j]? = some z)(iT:∀m,m<j->ss[m]?≠some z):
  (∀y,y∈its.toArray->EqGives y (.str z t) (vf z y))/\∃h:j<its.toArray.size,vf z (its.toArray[j])=true/\∀m (hm:m<its.toArray.size),m<j->vf z (its.toArray[m])=false:=by
 have hl:=r.length;rw[Yc]at hl;refine⟨fun y hy=>?_,?_⟩
 .obtain⟨i,hi⟩:=Ir.mp (show y∈its by simpa using hy);obtain⟨s,u,_,rfl⟩:=Ee r hi;exact SeqRoads2.EqGives.str s z u t
 .have h0:j<ss.length:=(Yg.mp hj).1;refine⟨by rw[Ys];lia,?_,fun m hm h=>?_⟩
  .obtain⟨s,u,h1,h2⟩:=Ee r (i:=j) (u:=its[j]'(by lia)) (Yh (by lia));rw[hj]at h1;cases h1;show vf z (its[j]'(by lia))=true;rw[h2];show(z.cps.toList==z.cps.toList)=true;simp
  .rw[Ys]at hm;obtain⟨s,u,h1,h2⟩:=Ee r (i:=m) (u:=its[m]) (Yh hm);show vf z its[m]=false;rw[h2];show(s.cps.toList==z.cps.toList)=false;refine Yx.mpr fun e=>iT m h ?_;have:s=z:=by
    cases s;cases z;simp only at e;rw[Cz.mp e]
   rw[h1,this]
def KI(T:V->List Str->Hp->Prop):V->List V->Hp->VK->Prop:=fun x vs H Q=>∃(ss:List Str)(z:Str)(j:Nat),T x ss H/\vs=[.str z]/\ss[j]? = some z/\(∀m,m<j->ss[m]?≠some z)/\Q (.int j) H
theorem RZ:z9 X "list.index" (KI fun x ss H=>∃a,x=.ref a/\H a=some (.lst (ss.map V.str))):=by
 intro pins s σ H x vs v us Q I rx rv h;obtain⟨ss,z,j,⟨a,rfl,hH⟩,rfl,hj,iT,q⟩:=h;cases rx;obtain⟨u,rfl,ru⟩:=rv.one;obtain⟨t,rfl⟩:=ru;obtain⟨zz,its,n,r,hl,e⟩:=I.eh hH;obtain⟨h1,h2,h3,h4⟩:=RY (t:=t) r hj iT;have kY:j<sizeLine:=by rw[Ys,<- hl]at h2;lia
 have big:(sizeLine:Int)<2^63-1:=by decide
 exact rF F.slot_list_index ⟨_,e,rfl⟩ F.entry_list_index (F.args_list_index_2 _ _) (MeetsSeq.list_index a its.toArray n (.str z t) (vf z) h1 j h2 (by lia) h3 h4) ⟨e,.int j,H,I.tok _,⟨_,rfl⟩,q⟩
end
inductive U where
 | ay|bl (b:Bool)|int (i:Int)|str (x:Str)|ty (n:String)|tup (xs:List U)|bK (xs:List U)|ref (a:Addr)
def sA(K:au)(H:Hp)(a:Addr)(xs:List V):Prop:=(∃o,H a=some (.gN o (.lst xs))) \/
  ∃(o:Obj)(its:Array Value)(n:Nat),K.lookup a=some o/\o.cls=.type "list"/\o.dict=none/\o.data=.seq its n/\its.size<=sizeLine/\ZU xs its.toList
def sA.sq{K:au}(h:sA K H a xs):aZ K H a xs:=by
 rcases h with h|h
 .exact .inl (.inr h)
 .exact .inr h
structure Kp (K:au) (H H':Hp):Prop where
 t : oS K H H'
 r : ∀a xs,sA K H a xs->sA K H' a xs
 f : ∀a o u,H a=some (.gN o u)->H' a=some (.gN o u)
def Kp.refl{K:au}(H:Hp):Kp K H H:=⟨fun _ _ h=>h,fun _ _ h=>h,fun _ _ _ h=>h⟩
def Kp.trans{K:au}(h:Kp K H H1)(k:Kp K H1 H2):Kp K H H2:=⟨h.t.trans k.t,fun a xs q=>k.r a xs (h.r a xs q),fun a o u q=>k.f a o u (h.f a o u q)⟩
def a_.kp{K:au}(e:a_ H H'):Kp K H H':=⟨e.bM,fun a xs q=>by
 rcases q with⟨o,q⟩|q
 .exact .inl ⟨o,e _ _ q⟩
 .exact .inr q,fun a o u q=>e _ _ q⟩
def Kp.lst{K:au}(h:H l=some (.lst ys)):Kp K H (upd H l (.lst zs)):=⟨oS.lst h,fun a xs q=>by
 rcases q with⟨o,q⟩|q
 .exact .inl ⟨o,by rw[Zn (kP q h (by intro z;cases z))];exact q⟩
 .exact .inr q,fun a o u q=>by rw[Zn (kP q h (by intro z;cases z))];exact q⟩
def Kp.ins{K:au}(h:H l=some (.ins C dx fs)):Kp K H (upd H l o'):=⟨fun a xs q=>by
 rcases q with(q|⟨o,q⟩)|q
 .exact .inl (.inl (by rw[Zn (kP q h (by intro z;cases z))];exact q))
 .exact .inl (.inr ⟨o,by rw[Zn (kP q h (by intro z;cases z))];exact q⟩)
 .exact .inr q,fun a xs q=>by
 rcases q with⟨o,q⟩|q
 .exact .inl ⟨o,by rw[Zn (kP q h (by intro z;cases z))];exact q⟩
 .exact .inr q,fun a o u q=>by rw[Zn (kP q h (by intro z;cases z))];exact q⟩
mutual
inductive RU (K:au) (H:Hp):U->V->Prop
 | ay:RU K H .ay .ay
 | bl (b:Bool):RU K H (.bl b) (.bl b)
 | int (i:Int):RU K H (.int i) (.int i)
 | str (x:Str):RU K H (.str x) (.str x)
 | ty (n:String):RU K H (.ty n) (.ty n)
 | ref (a:Addr):RU K H (.ref a) (.ref a)
 | tup {a:Addr} {vs:List V} {us:List U}:bo K H a vs->aJ K H us vs->RU K H (.tup us) (.ref a)
 | bK {a:Addr} {vs:List V} {us:List U}:sA K H a vs->aJ K H us vs->RU K H (.bK us) (.ref a)
inductive aJ (K:au) (H:Hp):List U->List V->Prop
 | nil:aJ K H [] []
 | cons {u:U} {v:V} {us:List U} {vs:List V}:RU K H u v->aJ K H us vs->aJ K H (u::us) (v::vs)
end
section
variable{K:au}{H H':Hp}
mutual
theorem RU.same (e:Kp K H H'):∀ {u:U} {v:V},RU K H u v->RU K H' u v
 | _,_,.ay=>.ay
 | _,_,.bl b=>.bl b
 | _,_,.int i=>.int i
 | _,_,.str x=>.str x
 | _,_,.ty n=>.ty n
 | _,_,.ref a=>.ref a
 | _,_,.tup h r=>.tup (e.t _ _ h) (aJ.same e r)
 | _,_,.bK h r=>.bK (e.r _ _ h) (aJ.same e r)
theorem aJ.same (e:Kp K H H'):∀ {us:List U} {vs:List V},aJ K H us vs->aJ K H' us vs
 | _,_,.nil=>.nil
 | _,_,.cons h r=>.cons (RU.same e h) (aJ.same e r)
end
theorem aJ.length:∀ {us:List U} {vs:List V},aJ K H us vs->us.length=vs.length
 | _,_,.nil=>rfl
 | _,_,.cons _ r=>by rw[List.length_cons,List.length_cons,r.length]
theorem aJ.app:∀ {us ws:List U} {vs xs:List V},aJ K H us vs->aJ K H ws xs->aJ K H (us++ws) (vs++xs)
 | _,_,_,_,.nil,s=>s
 | _,_,_,_,.cons h r,s=>.cons h (aJ.app r s)
def aJ.one(h:RU K H u v):aJ K H [u] [v]:=.cons h .nil
theorem aJ.get':∀ {us:List U} {vs:List V} {i:Nat} {u:U},aJ K H us vs->us[i]? = some u->∃v,vs[i]? = some v/\RU K H u v
 | _,_,_,_,.nil,e=>by simp at e
 | _,_,0,_,.cons h _,e=>by simp at e;subst e;exact⟨_,rfl,h⟩
 | _,_,i+1,_,.cons _ r,e=>by simp at e;simpa using aJ.get' r e
theorem aJ.take:∀ {us:List U} {vs:List V} (n:Nat),aJ K H us vs->aJ K H (us.take n) (vs.take n)
 | _,_,0,_=>.nil
 | _,_,_+1,.nil=>.nil
 | _,_,n+1,.cons r t=>.cons r (aJ.take n t)
theorem aJ.drop:∀ {us:List U} {vs:List V} (n:Nat),aJ K H us vs->aJ K H (us.drop n) (vs.drop n)
 | _,_,0,r=>r
 | _,_,_+1,.nil=>.nil
 | _,_,n+1,.cons _ t=>aJ.drop n t
def aJ.dropLast(h:aJ K H us vs):aJ K H us.dropLast vs.dropLast:=by
 rw[Iu,Iu,h.length];exact h.take _
theorem aJ.set(h:RU K H u v):∀ {us:List U} {vs:List V} (i:Nat),aJ K H us vs->aJ K H (us.set i u) (vs.set i v)
 | _,_,_,.nil=>.nil
 | _,_,0,.cons _ t=>.cons h t
 | _,_,i+1,.cons q t=>.cons q (aJ.set h i t)
theorem aJ.ints:∀ {ns:List Int} {vs:List V},aJ K H (ns.map U.int) vs->vs=ns.map V.int
 | [],_,.nil=>rfl
 | n::ns,_,.cons h r=>by cases h;rw[Yr,aJ.ints r]
theorem aJ.KJ:∀ {ns:List Bool} {vs:List V},aJ K H (ns.map U.bl) vs->vs=ns.map V.bl
 | [],_,.nil=>rfl
 | n::ns,_,.cons h r=>by cases h;rw[Yr,aJ.KJ r]
theorem aJ.strs:∀ {ns:List Str} {vs:List V},aJ K H (ns.map U.str) vs->vs=ns.map V.str
 | [],_,.nil=>rfl
 | n::ns,_,.cons h r=>by cases h;rw[Yr,aJ.strs r]
theorem aJ.cY:∀ {ns:List Str},aJ K H (ns.map U.str) (ns.map V.str)
 | []=>.nil
 | n::ns=>.cons (.str n) aJ.cY
theorem aJ.jx:∀ {ns:List Int},aJ K H (ns.map U.int) (ns.map V.int)
 | []=>.nil
 | n::ns=>.cons (.int n) aJ.jx
end
inductive AO where
 | lst (us:List U)|ins (C dx:Addr) (fs:List (Str×U))|cZ (φ:au->Hp->Addr->Prop)
abbrev aw:=Addr->Option AO
def af(A:aw)(a:Addr)(o:AO):aw:=fun b=>if b=a then some o else A b
def Zb:af A a o a=some o:=by unfold af;rw[if_pos rfl]
def Zi(h:b≠a):af A a o b=A b:=by unfold af;rw[if_neg h]
def ZF:af (af A a o) a u=af A a u:=by funext b;unfold af;split<;>rfl
def cb(K:au)(H:Hp)(fs:List (Str×U))(gs:List (Str×V)):Prop:=fs.map (·.1)=gs.map (·.1)/\aJ K H (fs.map (·.2)) (gs.map (·.2))
def RO(K:au)(H:Hp)(a:Addr):AO->Prop
 | .lst us=>∃vs,H a=some (.lst vs)/\aJ K H us vs
 | .ins C dx fs=>∃gs,H a=some (.ins C dx gs)/\cb K H fs gs
 | .cZ φ=>(∃o,H a=some o)/\φ K H a/\∀H1 H2,φ K H1 a->Kp K H1 H2->H2 a=H1 a->φ K H2 a
def HR(K:au)(H:Hp)(A:aw):Prop:=∀a o,A a=some o->RO K H a o
section
variable{K:au}{H H':Hp}{A:aw}{a:Addr}
def RO.keep(t:Kp K H H')(e:H' b=H b)(h:RO K H b o):RO K H' b o:=by
 cases o with
 | lst us=>obtain⟨vs,h1,h2⟩:=h;exact⟨vs,by rw[e];exact h1,h2.same t⟩
 | ins C dx fs=>obtain⟨gs,h1,h2,h3⟩:=h;exact⟨gs,by rw[e];exact h1,h2,h3.same t⟩
 | cZ φ=>obtain⟨h0,h1,h2⟩:=h;exact⟨by rw[e];exact h0,h2 _ _ h1 t e,h2⟩
def HR.grow(t:a_ H H')(h:HR K H A):HR K H' A:=fun a o e=>by
 have q:=h a o e
 cases o with
 | lst us=>obtain⟨vs,h1,h2⟩:=q;exact⟨vs,t _ _ h1,h2.same t.kp⟩
 | ins C dx fs=>obtain⟨gs,h1,h2,h3⟩:=q;exact⟨gs,t _ _ h1,h2,h3.same t.kp⟩
 | cZ φ=>obtain⟨⟨o,h0⟩,h1,h2⟩:=q;exact⟨⟨o,t _ _ h0⟩,h2 _ _ h1 t.kp (by rw[h0];exact t _ _ h0),h2⟩
def HR.none(h:HR K H A)(e:H a=none):A a=none:=by
 cases q:A a with
 | none=>rfl
 | some o =>
  have:=h a o q;cases o with
  | lst us=>obtain⟨vs,h1,_⟩:=this;rw[e]at h1;cases h1
  | ins C dx fs=>obtain⟨vs,h1,_⟩:=this;rw[e]at h1;cases h1
  | cZ φ=>obtain⟨⟨_,h1⟩,_⟩:=this;rw[e]at h1;cases h1
def HR.fj(h:HR K H A)(e:H a=Option.none)(r:aJ K H us vs):HR K (upd H a (.lst vs)) (af A a (.lst us)):=fun b o q=>by
 have s:=a_.az (o:=.lst vs) e
 by_cases hb:b=a
 .subst hb
  rw[Zb]at q
  cases q
  exact⟨vs,Zs,r.same s.kp⟩
 .rw[Zi hb]at q
  exact(h b o q).keep s.kp (Zn hb)
def HR.j_(h:HR K H A)(e:H a=some (.lst xs))(r:aJ K H us vs):HR K (upd H a (.lst vs)) (af A a (.lst us)):=fun b o q=>by
 have s:Kp K H (upd H a (.lst vs)):=Kp.lst e
 by_cases hb:b=a
 .subst hb
  rw[Zb]at q
  cases q
  exact⟨vs,Zs,r.same s⟩
 .rw[Zi hb]at q
  exact(h b o q).keep s (Zn hb)
def HR.list(h:HR K H A)(e:A a=some (.lst us)):∃vs,H a=some (.lst vs)/\aJ K H us vs:=h a _ e
end
abbrev aQ:=List (Option U)
inductive aU (K:au) (H:Hp):aQ->St->Prop
 | nil:aU K H [] []
 | skip {x:Option V} {ρ:aQ} {σ:St}:aU K H ρ σ->aU K H (none::ρ) (x::σ)
 | cons {u:U} {v:V} {ρ:aQ} {σ:St}:RU K H u v->aU K H ρ σ->aU K H (some u::ρ) (some v::σ)
section
variable{K:au}{H H':Hp}
theorem aU.same(e:Kp K H H'):∀ {ρ:aQ} {σ:St},aU K H ρ σ->aU K H' ρ σ
 | _,_,.nil=>.nil
 | _,_,.skip r=>.skip (aU.same e r)
 | _,_,.cons h r=>.cons (h.same e) (aU.same e r)
def KL:Nat->aQ->(U->Prop)->Prop
 | 0, ρ,k=>match ρ with
  | some u::_=>k u
  | _=>False
 | i+1,ρ,k=>match ρ with
  | _::ρ=>KL i ρ k
  | []=>False
def xF(ρ:aQ)(i:Nat)(k:U->Prop):Prop:=KL i ρ k
theorem aU.get:∀ {ρ:aQ} {σ:St} {i:Nat} {k:U->Prop},aU K H ρ σ->xF ρ i k->∃u v,σ[i]? = some (some v)/\RU K H u v/\k u
 | _,_,0,_,.nil,h=>h.elim
 | _,_,_+1,_,.nil,h=>h.elim
 | _,_,0,_,.skip _,h=>h.elim
 | _,_,i+1,_,.skip r,h=>by simpa using aU.get r h
 | _,_,0,_,.cons q _,h=>⟨_,_,rfl,q,h⟩
 | _,_,i+1,_,.cons _ r,h=>by simpa using aU.get r h
theorem aU.set(q:RU K H u v):∀ {ρ:aQ} {σ:St} (i:Nat),aU K H ρ σ->aU K H (ρ.set i (some u)) (σ.set i (some v))
 | _,_,_,.nil=>.nil
 | _,_,0,.skip r=>.cons q r
 | _,_,i+1,.skip r=>.skip (aU.set q i r)
 | _,_,0,.cons _ r=>.cons q r
 | _,_,i+1,.cons h r=>.cons h (aU.set q i r)
end
abbrev bc:=U->aw->Prop
abbrev AE:=aQ->aw->bc->Prop
abbrev AT:=aQ->aw->(Bool->aw->Prop)->Prop
abbrev AA:=aQ->aw->(List U->aw->Prop)->Prop
abbrev xG:=aQ->aw->(Option Int->aw->Prop)->Prop
structure jy where
 nx:aQ->aw->Prop
 rt:bc
 bk:aQ->aw->Prop:=fun _ _=>False
 ct:aQ->aw->Prop:=fun _ _=>False
abbrev AS:=jy->aQ->aw->Prop
abbrev kZ(K:au)(H:Hp)(Q':bc)(Q:VK):Prop:=∀u A' v H',Kp K H H'->HR K H' A'->RU K H' u v->Q' u A'->Q v H'
def aV(K:au)(te:TE)(ae:AE):Prop:=∀ρ A σ H Q' Q,aU K H ρ σ->HR K H A->ae ρ A Q'->kZ K H Q' Q->te σ H Q
def g_(K:au)(te:TT)(ae:AT):Prop:=∀ρ A σ H (Q':Bool->aw->Prop) (Q:Bool->Hp->Prop),aU K H ρ σ->HR K H A->ae ρ A Q'->(∀b A' H',Kp K H H'->HR K H' A'->Q' b A'->Q b H')->te σ H Q
def fk(K:au)(te:TA)(ae:AA):Prop:=∀ρ A σ H (Q':List U->aw->Prop) (Q:List V->Hp->Prop),aU K H ρ σ->HR K H A->ae ρ A Q'->(∀us A' vs H',Kp K H H'->HR K H' A'->aJ K H' us vs->Q' us A'->Q vs H')->te σ H Q
def As(K:au)(te:TO)(ae:xG):Prop:=∀ρ A σ H (Q':Option Int->aw->Prop) (Q:Option Int->Hp->Prop),aU K H ρ σ->HR K H A->ae ρ A Q'->(∀b A' H',Kp K H H'->HR K H' A'->Q' b A'->Q b H')->te σ H Q
structure oV (K:au) (H:Hp) (D':jy) (D:kR):Prop where
 nx:∀ρ A σ H',Kp K H H'->HR K H' A->aU K H' ρ σ->D'.nx ρ A->D.nx σ H'
 rt:kZ K H D'.rt D.rt
 bk:∀ρ A σ H',Kp K H H'->HR K H' A->aU K H' ρ σ->D'.bk ρ A->D.bk σ H'
 ct:∀ρ A σ H',Kp K H H'->HR K H' A->aU K H' ρ σ->D'.ct ρ A->D.ct σ H'
def oV.same{K:au}(h:oV K H D' D)(k:Kp K H H1):oV K H1 D' D :=
 ⟨fun ρ A σ H' q=>h.nx ρ A σ H' (k.trans q),fun u A v H' q=>h.rt u A v H' (k.trans q),fun ρ A σ H' q=>h.bk ρ A σ H' (k.trans q),fun ρ A σ H' q=>h.ct ρ A σ H' (k.trans q)⟩
def df(K:au)(ts:TS)(as:AS):Prop:=∀ρ A σ H D' D,aU K H ρ σ->HR K H A->as D' ρ A->oV K H D' D->ts D σ H
section
variable{K:au}
def gh(i:Nat):AE:=fun ρ A Q=>xF ρ i fun u=>Q u A
def Zh:aV K (lL i) (gh i):=fun ρ A σ H Q' Q hr hh h k=>by
 obtain⟨u,v,e,r,q⟩:=hr.get h
 exact⟨v,e,k u A v H (.refl H) hh r q⟩
def aC(u:U):AE:=fun _ A Q=>Q u A
def vg(h:∀H,RU K H u v):aV K (tC v) (aC u):=fun ρ A σ H Q' Q hr hh q k=>k u A v H (.refl H) hh (h H) q
def ZC:aV K (tC (.int i)) (aC (.int i)):=vg fun _=>.int i
def ZM:aV K (tC (.str i)) (aC (.str i)):=vg fun _=>.str i
def ZoS:aV K (tC (.bl i)) (aC (.bl i)):=vg fun _=>.bl i
def ZlT:aV K (tC .ay) (aC .ay):=vg fun _=>.ay
def Zpn:aV K (tC (.ty n)) (aC (.ty n)):=vg fun _=>.ty n
def ZeA:aV K (tC (.ref a)) (aC (.ref a)):=vg fun _=>.ref a
abbrev fo:=U->U->aw->bc->Prop
def ei(K:au)(r:R2)(ar:fo):Prop:=∀x y u w A H Q' Q,RU K H u x->RU K H w y->HR K H A->ar u w A Q'->kZ K H Q' Q->r x y H Q
def ka(ar:fo)(a b:AE):AE:=fun ρ A Q=>a ρ A fun x A1=>b ρ A1 fun y A2=>ar x y A2 Q
def ZA(hr:ei K r ar)(ha:aV K ta aa)(hb:aV K tb ab):aV K (wU r ta tb) (ka ar aa ab):=fun ρ A σ H Q' Q hs hh h k =>
 ha ρ A σ H _ _ hs hh h fun x A1 v H1 k1 h1 r1 q1=>hb ρ A1 σ H1 _ _ (hs.same k1) h1 q1 fun y A2 v2 H2 k2 h2 r2 q2=>hr _ _ _ _ _ _ _ _ (r1.same k2) r2 h2 q2 fun z A3 v3 H3 k3 h3 r3 q3=>k _ _ _ _ (k1.trans (k2.trans k3)) h3 r3 q3
def aB(a:AE):AT:=fun ρ A Q=>a ρ A fun x A1=>∃c,x=.bl c/\Q c A1
def ZoF(ha:aV K ta aa):g_ K (tB ta) (aB aa):=fun ρ A σ H Q' Q hs hh h k =>
 ha ρ A σ H _ _ hs hh h fun x A1 v H1 k1 h1 r1 aD=>by obtain⟨c,e,q1⟩:=aD;subst e;cases r1;exact⟨c,rfl,k c A1 H1 k1 h1 q1⟩
def ZaX(ha:aV K ta aa):g_ K (Jz ta) (aB aa):=ZoF ha
def Ef(t u:AT):AT:=fun ρ A Q=>t ρ A fun c A1=>if c=true then u ρ A1 Q else Q false A1
def KN(t u:AT):AT:=fun ρ A Q=>t ρ A fun c A1=>if c=true then Q true A1 else u ρ A1 Q
def KO(t:AT):AT:=fun ρ A Q=>t ρ A fun c A1=>Q (!c) A1
def ZmH(ha:g_ K t a)(hb:g_ K u b):g_ K (Jd t u) (Ef a b):=fun ρ A σ H Q' Q hs hh h k =>
 ha ρ A σ H _ _ hs hh h fun c A1 H1 k1 h1 q1=>by
  cases c
  .exact jw (by decide) (k _ _ _ k1 h1 (by simpa using q1))
  .exact gI rfl (hb ρ A1 σ H1 _ _ (hs.same k1) h1 (by simpa using q1) fun c A2 H2 k2 h2 q2=>k _ _ _ (k1.trans k2) h2 q2)
def ZuY(ha:g_ K t a)(hb:g_ K u b):g_ K (Je t u) (KN a b):=fun ρ A σ H Q' Q hs hh h k =>
 ha ρ A σ H _ _ hs hh h fun c A1 H1 k1 h1 q1=>by
  cases c
  .exact jw (by decide) (hb ρ A1 σ H1 _ _ (hs.same k1) h1 (by simpa using q1) fun c A2 H2 k2 h2 q2=>k _ _ _ (k1.trans k2) h2 q2)
  .exact gI rfl (k _ _ _ k1 h1 (by simpa using q1))
def ZqM(ha:g_ K t a):g_ K (Jf t) (KO a):=fun ρ A σ H Q' Q hs hh h k=>ha ρ A σ H _ _ hs hh h fun c A1 H1 k1 h1 q1=>k _ _ _ k1 h1 q1
def KP(a b:AE):AE:=fun ρ A Q=>a ρ A fun x A1=>∃c,x=.bl c/\if c=true then b ρ A1 Q else Q (.bl false) A1
def KQ(a b:AE):AE:=fun ρ A Q=>a ρ A fun x A1=>∃c,x=.bl c/\if c=true then Q (.bl true) A1 else b ρ A1 Q
def ZnP(ha:aV K t a)(hb:aV K u b):aV K (Jg t u) (KP a b):=fun ρ A σ H Q' Q hs hh h k =>
 ha ρ A σ H _ _ hs hh h fun x A1 v H1 k1 h1 r1 aD=>by
  obtain⟨c,e,q1⟩:=aD
  subst e;cases r1
  refine⟨c,rfl,?_⟩
  cases c
  .exact jw (by decide) (k _ _ _ _ k1 h1 (.bl _) (by simpa using q1))
  .exact gI rfl (hb ρ A1 σ H1 _ _ (hs.same k1) h1 (by simpa using q1) fun z A2 v2 H2 k2 h2 r2 q2=>k _ _ _ _ (k1.trans k2) h2 r2 q2)
def Zrw(ha:aV K t a)(hb:aV K u b):aV K (Jh t u) (KQ a b):=fun ρ A σ H Q' Q hs hh h k =>
 ha ρ A σ H _ _ hs hh h fun x A1 v H1 k1 h1 r1 aD=>by
  obtain⟨c,e,q1⟩:=aD
  subst e;cases r1
  refine⟨c,rfl,?_⟩
  cases c
  .exact jw (by decide) (hb ρ A1 σ H1 _ _ (hs.same k1) h1 (by simpa using q1) fun z A2 v2 H2 k2 h2 r2 q2=>k _ _ _ _ (k1.trans k2) h2 r2 q2)
  .exact gI rfl (k _ _ _ _ k1 h1 (.bl _) (by simpa using q1))
def qq:AT:=fun _ A Q=>Q true A
def Zbd:g_ K Kk qq:=fun ρ A σ H Q' Q hs hh h k=>k _ _ _ (.refl H) hh h
def nD:AA:=fun _ A Q=>Q [] A
def Zr:fk K f9 nD:=fun ρ A σ H Q' Q hs hh h k=>k _ _ _ _ (.refl H) hh .nil h
def iZ(a:AE)(l:AA):AA:=fun ρ A Q=>a ρ A fun x A1=>l ρ A1 fun xs A2=>Q (x::xs) A2
def Zf(ha:aV K ta a)(hl:fk K tl l):fk K (cR ta tl) (iZ a l):=fun ρ A σ H Q' Q hs hh h k =>
 ha ρ A σ H _ _ hs hh h fun x A1 v H1 k1 g1 r1 q1=>hl ρ A1 σ H1 _ _ (hs.same k1) g1 q1 fun xs A2 vs H2 k2 g2 r2 q2=>k _ _ _ _ (k1.trans k2) g2 (.cons (r1.same k2) r2) q2
def Eg(us:List U):AA:=fun _ A L=>L us A
def Zir{xs:List Str}:fk K (Kv (xs.map V.str)) (Eg (xs.map U.str)):=fun ρ A σ H Q' Q hs hh h k=>k _ _ _ _ (.refl H) hh aJ.cY h
def vh(l:AA):AE:=fun ρ A Q=>l ρ A fun xs A1=>xs.length<=sizeLine/\Q (.tup xs) A1
def ZV(hl:fk K tl l):aV K (qi tl) (vh l):=fun ρ A σ H Q' Q hs hh h k =>
 hl ρ A σ H _ _ hs hh h fun xs A1 vs H1 k1 g1 r1 ⟨hz,q1⟩=>⟨by rw[<- r1.length];exact hz,fun p hp=>by
  have s:=a_.az (o:=.tup vs) hp
  exact k _ _ _ _ (k1.trans s.kp) (g1.grow s) (.tup (bo.of Zs) (r1.same s.kp)) q1⟩
def xH(l:AA):AE:=fun ρ A Q=>l ρ A fun xs A1=>xs.length<=sizeLine/\∀p,A1 p=none->Q (.ref p) (af A1 p (.lst xs))
def ZaV(hl:fk K tl l):aV K (uX tl) (xH l):=fun ρ A σ H Q' Q hs hh h k =>
 hl ρ A σ H _ _ hs hh h fun xs A1 vs H1 k1 g1 r1 ⟨hz,q1⟩=>⟨by rw[<- r1.length];exact hz,fun p hp=>k _ _ _ _ (k1.trans (a_.az hp).kp) (g1.fj hp r1) (.ref p) (q1 p (g1.none hp))⟩
def hG(K:au)(r:List V->Hp->VK->Prop)(ar:List U->aw->bc->Prop):Prop:=∀xs us A H Q' Q,aJ K H us xs->HR K H A->ar us A Q'->kZ K H Q' Q->r xs H Q
def KR(ar:List U->aw->bc->Prop)(l:AA):AE:=fun ρ A Q=>l ρ A fun us A1=>ar us A1 Q
def Zc7(hr:hG K r ar)(hl:fk K tl l):aV K (rU r tl) (KR ar l):=fun ρ A σ H Q' Q hs hh h k =>
 hl ρ A σ H _ _ hs hh h fun xs A1 vs H1 k1 g1 r1 q1=>hr _ _ _ _ _ _ r1 g1 q1 fun z A3 v3 H3 k3 h3 r3 q3=>k _ _ _ _ (k1.trans k3) h3 r3 q3
abbrev bP:=List U->aw->bc->Prop
def aW(K:au)(bg:bP):Sp:=fun vs H Q _=>∃us A Q',aJ K H us vs/\HR K H A/\bg us A Q'/\kZ K H Q' Q
def Eh(bg:bP)(l:AA):AE:=fun ρ A Q=>l ρ A fun us A1=>bg us A1 Q
def Zai(hl:fk K tl l):aV K (Dc (aW K bg) [] E tl) (Eh bg l):=fun ρ A σ H Q' Q hs hh h k =>
 hl ρ A σ H _ _ hs hh h fun us A1 vs H1 k1 g1 r1 q1=>⟨us,A1,Q',by rw[YW];exact r1,g1,q1,fun z A3 v3 H3 k3 h3 r3 q3=>k _ _ _ _ (k1.trans k3) h3 r3 q3⟩
def KS:xG:=fun _ A Q=>Q none A
def ZcH:As K JU KS:=fun ρ A σ H Q' Q hs hh h k=>k _ _ _ (.refl H) hh h
def KU(a:AE):xG:=fun ρ A Q=>a ρ A fun x A1=>∃i,x=.int i/\Q (some i) A1
def Zfg(ha:aV K t a):As K (JV t) (KU a):=fun ρ A σ H Q' Q hs hh h k =>
 ha ρ A σ H _ _ hs hh h fun x A1 v H1 k1 h1 r1 aD=>by obtain⟨i,e,q1⟩:=aD;subst e;cases r1;exact⟨i,rfl,k _ _ _ k1 h1 q1⟩
def KW(K:au)(r:V->Option Int->Option Int->Hp->VK->Prop)(ar:U->Option Int->Option Int->aw->bc->Prop):Prop:=∀x u lo hi A H Q' Q,RU K H u x->HR K H A->ar u lo hi A Q'->kZ K H Q' Q->r x lo hi H Q
def KY(ar:U->Option Int->Option Int->aw->bc->Prop)(a:AE)(l h:xG):AE:=fun ρ A Q=>a ρ A fun x A1=>l ρ A1 fun i A2=>h ρ A2 fun j A3=>ar x i j A3 Q
def Zoo(hr:KW K r ar)(ha:aV K t a)(hl:As K tl l)(hh:As K th h):aV K (JW r t tl th) (KY ar a l h):=fun ρ A σ H Q' Q hs g w k =>
 ha ρ A σ H _ _ hs g w fun x A1 v H1 k1 g1 r1 q1=>hl ρ A1 σ H1 _ _ (hs.same k1) g1 q1 fun i A2 H2 k2 g2 q2=>hh ρ A2 σ H2 _ _ (hs.same (k1.trans k2)) g2 q2 fun j A3 H3 k3 g3 q3 =>
  hr _ _ _ _ _ _ _ _ (r1.same (k2.trans k3)) g3 q3 fun z A4 v4 H4 k4 g4 r4 q4=>k _ _ _ _ (k1.trans (k2.trans (k3.trans k4))) g4 r4 q4
def Au(K:au)(T:String)(y:U->aw->Prop):Prop:=∀x u A H,RU K H u x->HR K H A->y u A->Aa K T x H
def KZ(y:U->aw->Prop)(ar:U->List U->aw->bc->Prop)(a:AE):AE:=fun ρ A Q=>a ρ A fun x A1=>y x A1/\ar x [] A1 Q
def Ei(y:U->aw->Prop)(ar:U->List U->aw->bc->Prop)(a:AE)(l:AA):AE:=fun ρ A Q=>a ρ A fun x A1=>y x A1/\l ρ A1 fun us A2=>ar x us A2 Q
def oW(K:au)(r:V->List V->Hp->VK->Prop)(ar:U->List U->aw->bc->Prop):Prop:=∀x u xs us A H Q' Q,RU K H u x->aJ K H us xs->HR K H A->ar u us A Q'->kZ K H Q' Q->r x xs H Q
def Zqb(hy:Au K T y)(hr:oW K r ar)(ha:aV K t a):aV K (J7 K T r t) (KZ y ar a):=fun ρ A σ H Q' Q hs g w k =>
 ha ρ A σ H _ _ hs g w fun x A1 v H1 k1 g1 r1 ⟨q0,q1⟩=>⟨hy _ _ _ _ r1 g1 q0,hr _ _ _ _ _ _ _ _ r1 .nil g1 q1 fun z A4 v4 H4 k4 g4 r4 q4=>k _ _ _ _ (k1.trans k4) g4 r4 q4⟩
def ZpO(hy:Au K T y)(hr:oW K r ar)(ha:aV K t a)(hl:fk K tl l):aV K (J8 K T r t tl) (Ei y ar a l):=fun ρ A σ H Q' Q hs g w k =>
 ha ρ A σ H _ _ hs g w fun x A1 v H1 k1 g1 r1 ⟨q0,q1⟩=>⟨hy _ _ _ _ r1 g1 q0,hl ρ A1 σ H1 _ _ (hs.same k1) g1 q1 fun us A2 vs H2 k2 g2 r2 q2=>hr _ _ _ _ _ _ _ _ (r1.same k2) r2 g2 q2 fun z A4 v4 H4 k4 g4 r4 q4=>k _ _ _ _ (k1.trans (k2.trans k4)) g4 r4 q4⟩
def Ej:AS:=fun D ρ A=>D.nx ρ A
def Zbk:df K Jj Ej:=fun ρ A σ H D' D hs g w k=>k.nx _ _ _ _ (.refl H) g hs w
def K0(t u:AS):AS:=fun D ρ A=>t { D with nx:=u D } ρ A
def ZK(ha:df K t a)(hb:df K u b):df K (zW t u) (K0 a b):=fun ρ A σ H D' D hs g w k =>
 ha ρ A σ H _ _ hs g w ⟨fun nE A1 jo H1 k1 g1 r1 q1=>hb nE A1 jo H1 _ _ r1 g1 q1 (k.same k1),k.rt,k.bk,k.ct⟩
def Ek(a:AE):AS:=fun D ρ A=>a ρ A fun _ A1=>D.nx ρ A1
def Zd6(ha:aV K t a):df K (zX t) (Ek a):=fun ρ A σ H D' D hs g w k=>ha ρ A σ H _ _ hs g w fun x A1 v H1 k1 g1 r1 q1=>k.nx _ _ _ _ k1 g1 (hs.same k1) q1
def Av(a:AE):AS:=fun D ρ A=>a ρ A D.rt
def ZcD(ha:aV K t a):df K (Jk t) (Av a):=fun ρ A σ H D' D hs g w k=>ha ρ A σ H _ _ hs g w k.rt
def El(c:AT)(t u:AS):AS:=fun D ρ A=>c ρ A fun b A1=>if b=true then t D ρ A1 else u D ρ A1
def Zmi(hc:g_ K c ac)(ha:df K t a)(hb:df K u b):df K (CS c t u) (El ac a b):=fun ρ A σ H D' D hs g w k =>
 hc ρ A σ H _ _ hs g w fun c A1 H1 k1 g1 q1=>by
  cases c
  .exact jw (by decide) (hb ρ A1 σ H1 _ _ (hs.same k1) g1 (by simpa using q1) (k.same k1))
  .exact gI rfl (ha ρ A1 σ H1 _ _ (hs.same k1) g1 (by simpa using q1) (k.same k1))
abbrev AG:=U->aQ->aw->(aQ->aw->Prop)->Prop
abbrev xJ:=List U->aQ->aw->(aQ->aw->Prop)->Prop
abbrev K1(K:au)(H:Hp)(Q':aQ->aw->Prop)(Q:St->Hp->Prop):Prop:=∀ρ A σ H',Kp K H H'->HR K H' A->aU K H' ρ σ->Q' ρ A->Q σ H'
def oY(K:au)(t:TG)(a:AG):Prop:=∀u v ρ A σ H Q' Q,RU K H u v->aU K H ρ σ->HR K H A->a u ρ A Q'->K1 K H Q' Q->t v σ H Q
def Aw(K:au)(t:uS)(a:xJ):Prop:=∀u v ρ A σ H Q' Q,aJ K H u v->aU K H ρ σ->HR K H A->a u ρ A Q'->K1 K H Q' Q->t v σ H Q
def ml(i:Nat):AG:=fun u ρ A Q=>Q (ρ.set i (some u)) A
def Zu:oY K (rL i) (ml i):=fun u v ρ A σ H Q' Q r hs g w k=>k _ _ _ _ (.refl H) g (hs.set r i) w
def Em:xJ:=fun us ρ A Q=>us=[]/\Q ρ A
def Zc3:Aw K CU Em:=fun u v ρ A σ H Q' Q r hs g aD k=>by obtain⟨e,w⟩:=aD;subst e;cases r;exact⟨rfl,k _ _ _ _ (.refl H) g hs w⟩
def Ax(t:AG)(u:xJ):xJ:=fun us ρ A Q=>∃v r,us=v::r/\t v ρ A fun dg A'=>u r dg A' Q
def ZaL(ha:oY K t a)(hb:Aw K u b):Aw K (zY t u) (Ax a b):=fun us vs ρ A σ H Q' Q r hs g aD k=>by
 obtain⟨x,xs,e,w⟩:=aD
 subst e
 cases r with
 | cons r rr=>exact⟨_,_,rfl,ha _ _ _ _ _ _ _ _ r hs g w fun nE A1 jo H1 k1 g1 s1 q1=>hb _ _ _ _ _ _ _ _ (rr.same k1) s1 g1 q1 fun dM A2 oF H2 k2 g2 s2 q2=>k _ _ _ _ (k1.trans k2) g2 s2 q2⟩
def En(n:Nat)(t:xJ):AG:=fun u ρ A Q=>∃us,u=.tup us/\us.length=n/\t us ρ A Q
def ZcC(ha:Aw K t a):oY K (zZ K n t) (En n a):=fun u v ρ A σ H Q' Q r hs g aD k=>by
 obtain⟨us,e,hn,w⟩:=aD
 subst e
 cases r with
 | tup h rr=>exact⟨_,_,rfl,h,by rw[<- rr.length];exact hn,ha _ _ _ _ _ _ _ _ rr hs g w k⟩
def K2(a:AE)(b:AG):AS:=fun D ρ A=>a ρ A fun x A1=>b x ρ A1 D.nx
def ZR(ha:aV K t a)(hb:oY K tg b):df K (wQ t tg) (K2 a b):=fun ρ A σ H D' D hs g w k =>
 ha ρ A σ H _ _ hs g w fun x A1 v H1 k1 g1 r1 q1=>hb _ _ _ _ _ _ _ _ r1 (hs.same k1) g1 q1 fun dM A2 oF H2 k2 g2 s2 q2=>k.nx _ _ _ _ (k1.trans k2) g2 s2 q2
def R0(c:AT)(b:AS):AS:=fun D ρ A=>∃W:Nat->aQ->aw->Prop,(∃m,W m ρ A)/\∀m ρ A,W m ρ A ->
 c ρ A fun k A1=>if k=true then ∃N:aQ->aw->Prop,(∀dg A',N dg A'->∃m',m'<m/\W m' dg A')/\b { D with nx:=N,ct:=N,bk:=D.nx } ρ A1 else D.nx ρ A1
def ZdZ(hc:g_ K c ac)(ha:df K t a):df K (Jm c t) (R0 ac a):=fun ρ A σ H D' D hs g aD k=>by
 obtain⟨W,⟨m0,w0⟩,turn⟩:=aD
 refine⟨fun m jo H1=>∃nE A1,Kp K H H1/\HR K H1 A1/\aU K H1 nE jo/\W m nE A1,⟨m0,ρ,A,.refl H,g,hs,w0⟩,?_⟩
 rintro m jo H1 ⟨nE,A1,k1,g1,s1,w1⟩
 refine hc nE A1 jo H1 _ _ s1 g1 (turn m nE A1 w1) fun b A2 H2 k2 g2 q2=>?_
 cases b
 .exact jw (by decide) (k.nx _ _ _ _ (k1.trans k2) g2 (s1.same k2) (by simpa using q2))
 .refine gI rfl ?_
  obtain⟨N,hN,q2⟩:=(by simpa using q2:∃N:aQ->aw->Prop,(∀dg A',N dg A'->∃m',m'<m/\W m' dg A')/\a { D' with nx:=N,ct:=N,bk:=D'.nx } nE A2)
  refine⟨fun aS H'=>∃dg A',Kp K H H'/\HR K H' A'/\aU K H' dg aS/\N dg A',?_,?_⟩
  .rintro aS H' ⟨dg,A',k',g',s',n'⟩
   obtain⟨m',hm,w'⟩:=hN dg A' n'
   exact⟨m',hm,dg,A',k',g',s',w'⟩
  .have nF:=k1.trans k2
   exact ha nE A2 jo H2 _ _ (s1.same k2) g2 q2 ⟨fun ρ A σ H' k3 g3 s3 n3=>⟨ρ,A,nF.trans k3,g3,s3,n3⟩,(k.same nF).rt,fun ρ A σ H' k3 g3 s3 n3=>k.nx _ _ _ _ (nF.trans k3) g3 s3 n3,fun ρ A σ H' k3 g3 s3 n3=>⟨ρ,A,nF.trans k3,g3,s3,n3⟩⟩
end
abbrev dk:=Nat->aw->Option U->Prop
def qr(K:au)(H0:Hp)(J:It)(aj:dk):Prop:=∀i A H r,Kp K H0 H->HR K H A->aj i A r->match r with
 | none=>J.stop i H
 | some u=>J.go i H/\∀x H',J.rM i H x H'->Kp K H H'/\HR K H' A/\RU K H' u x
abbrev AI:=aQ->aw->(dk->aw->Prop)->Prop
def sC(K:au)(wi:TI)(ai:AI):Prop:=∀ρ A σ H R' R,aU K H ρ σ->HR K H A->ai ρ A R'->(∀aj A' J H',Kp K H H'->HR K H' A'->qr K H' J aj->R' aj A'->R J H')->wi σ H R
def sD(J:dk)(g:AG)(b:AS)(D:jy)(ρ:aQ)(A:aw):Prop:=∃W:Nat->Nat->aQ->aw->Prop,(∃m,W 0 m ρ A)/\∀i m ρ A,W i m ρ A ->
 (J i A none/\D.nx ρ A)\/∃u,J i A (some u)/\∃N:aQ->aw->Prop,(∀dg A',N dg A'->∃m',m'<m/\W (i+1) m' dg A')/\g u ρ A fun dM A2=>b { D with nx:=N,ct:=N,bk:=D.nx } dM A2
def K3(wi:AI)(g:AG)(b:AS):AS:=fun D ρ A=>wi ρ A fun J A1=>sD J g b D ρ A1
section
variable{K:au}
def Zl9(hi:sC K wi ai)(hg:oY K g ag)(ha:df K t a):df K (Jo wi g t) (K3 ai ag a):=fun ρ A σ H D' D hs g0 w k=>by
 refine hi ρ A σ H _ _ hs g0 w fun aj A1 J H1 k1 g1 hj q=>?_
 obtain⟨W,⟨m0,w0⟩,turn⟩:=q
 refine⟨fun i m oF H2=>∃dM A2,Kp K H1 H2/\HR K H2 A2/\aU K H2 dM oF/\W i m dM A2,⟨m0,ρ,A1,.refl H1,g1,hs.same k1,w0⟩,?_⟩
 rintro i m oF H2 ⟨dM,A2,k2,g2,s2,w2⟩
 have nF:=k1.trans k2
 rcases turn i m dM A2 w2 with⟨hU,q⟩|⟨u,xK,N,hN,q⟩
 .exact .inl ⟨hj i A2 H2 _ k2 g2 hU,k.nx _ _ _ _ nF g2 s2 q⟩
 .obtain⟨j1,j2⟩:=hj i A2 H2 _ k2 g2 xK
  refine .inr ⟨j1,fun aS H'=>∃dg A',Kp K H1 H'/\HR K H' A'/\aU K H' dg aS/\N dg A',?_,fun x H3 hy=>?_⟩
  .rintro aS H' ⟨dg,A',k',g',s',n'⟩
   obtain⟨m',hm,w'⟩:=hN dg A' n'
   exact⟨m',hm,dg,A',k',g',s',w'⟩
  .obtain⟨k3,g3,r3⟩:=j2 x H3 hy
   refine hg _ _ _ _ _ _ _ _ r3 (s2.same k3) g3 q fun nG A4 qu H4 k4 g4 s4 q4=>?_
   have Ay:=k2.trans (k3.trans k4)
   exact ha nG A4 qu H4 _ _ s4 g4 q4 ⟨fun Az A5 K4 H5 k5 g5 s5 n5=>⟨Az,A5,Ay.trans k5,g5,s5,n5⟩,(k.same (k1.trans Ay)).rt,fun Az A5 K4 H5 k5 g5 s5 n5=>k.nx _ _ _ _ ((k1.trans Ay).trans k5) g5 s5 n5,fun Az A5 K4 H5 k5 g5 s5 n5=>⟨Az,A5,Ay.trans k5,g5,s5,n5⟩⟩
def dF(us:List U):dk:=fun i _ r=>r=us[i]?
def sE(a:Addr):dk:=fun i A r=>∃us,A a=some (.lst us)/\r=us[i]?
def Eo(y:U->aw->(dk->aw->Prop)->Prop)(a:AE):AI:=fun ρ A R=>a ρ A fun x A1=>y x A1 R
def sF(K:au)(u:V->Hp->(It->Hp->Prop)->Prop)(y:U->aw->(dk->aw->Prop)->Prop):Prop:=∀x v A H R' R,RU K H x v->HR K H A->y x A R'->(∀aj A' J H',Kp K H H'->HR K H' A'->qr K H' J aj->R' aj A'->R J H')->u v H R
def Zbn(hy:sF K u y)(ha:aV K t a):sC K (xr u t) (Eo y a):=fun ρ A σ H R' R hs g w k =>
 ha ρ A σ H _ _ hs g w fun x A1 v H1 k1 g1 r1 q1=>hy _ _ _ _ _ _ r1 g1 q1 fun aj A2 J H2 k2 g2 hj q2=>k _ _ _ _ (k1.trans k2) g2 hj q2
def R1(h:sA K H a vs)(r:aJ K H us vs):qr K H (z5 K a) (dF us):=fun i A H1 x k g e=>by
 have e:x=us[i]?:=e
 have h1:=(k.r _ _ h).sq
 have r1:=r.same k
 subst e
 cases hu:us[i]? with
 | none=>exact⟨vs,h1,by rw[<- r1.length];exact YI.mp hu⟩
 | some u =>
  obtain⟨v,hv,rv⟩:=r1.get' hu
  refine⟨⟨vs,v,h1,hv⟩,?_⟩
  rintro x H' ⟨rfl,hx⟩
  have:=hx vs h1
  rw[hv]at this;cases this
  exact⟨.refl _,g,rv⟩
def R3:qr K H (z5 K a) (sE a):=fun i A H1 x k g aD=>by
 obtain⟨us,hA,e⟩:=aD
 subst e
 obtain⟨vs,h1,r1⟩:=g.list hA
 have h1:aZ K H1 a vs:=aZ.of h1
 cases hu:us[i]? with
 | none=>exact⟨vs,h1,by rw[<- r1.length];exact YI.mp hu⟩
 | some u =>
  obtain⟨v,hv,rv⟩:=r1.get' hu
  refine⟨⟨vs,v,h1,hv⟩,?_⟩
  rintro x H' ⟨rfl,hx⟩
  have:=hx vs h1
  rw[hv]at this;cases this
  exact⟨.refl _,g,rv⟩
def R4(h:bo K H a vs)(r:aJ K H us vs):qr K H (CW K a) (dF us):=fun i A H1 x k g e=>by
 have e:x=us[i]?:=e
 have h1:=k.t _ _ h
 have r1:=r.same k
 subst e
 cases hu:us[i]? with
 | none=>exact⟨vs,h1,by rw[<- r1.length];exact YI.mp hu⟩
 | some u =>
  obtain⟨v,hv,rv⟩:=r1.get' hu
  refine⟨⟨vs,v,h1,hv⟩,?_⟩
  rintro x H' ⟨rfl,hx⟩
  have:=hx vs h1
  rw[hv]at this;cases this
  exact⟨.refl _,g,rv⟩
def Ep:U->aw->(dk->aw->Prop)->Prop:=fun u A R=>match u with
 | .ref a=>(∃us,A a=some (.lst us))/\R (sE a) A
 | .bK us=>R (dF us) A
 | _=>False
def K5:sF K (Kt K) Ep:=fun x v A H R' R r g w k=>by
 cases r with
 | ref a =>
  obtain⟨⟨us,hA⟩,w⟩:=w
  obtain⟨vs,h1,r1⟩:=g.list hA
  exact⟨⟨vs,aZ.of h1⟩,k _ _ _ _ (.refl H) g R3 w⟩
 | bK h1 r1=>exact⟨⟨_,h1.sq⟩,k _ _ _ _ (.refl H) g (R1 h1 r1) w⟩
 | _=>exact w.elim
def K6:U->aw->(dk->aw->Prop)->Prop:=fun u A R=>match u with
 | .tup us=>R (dF us) A
 | _=>False
def R5:sF K (Ku K) K6:=fun x v A H R' R r g w k=>by
 cases r with
 | tup h1 r1=>exact⟨⟨_,h1⟩,k _ _ _ _ (.refl H) g (R4 h1 r1) w⟩
 | _=>exact w.elim
def mm(lo:Int)(n:Nat):List U:=(List.range n).map fun(i:Nat)=>.int (lo+(i:Int))
theorem Er(lo:Int)(n i:Nat):(mm lo n)[i]? = if i<n then some (.int (lo+(i:Int)))else none:=by
 unfold mm;rw[Yj];by_cases h:i<n
 .rw[if_pos h,Cq h];rfl
 .rw[if_neg h,Y3 (by rw[qd];lia)];rfl
def et(lo:Int)(n:Nat):(mm lo n).length=n:=by simp[mm]
def R6{lo:Int}:qr K H (z6 lo n) (dF (mm lo n)):=fun i A H1 x k g e=>by
 have e:x=(mm lo n)[i]?:=e
 rw[Er]at e
 subst e
 by_cases h:i<n
 .rw[if_pos h]
  refine⟨h,?_⟩
  rintro x H' ⟨rfl,rfl⟩
  exact⟨.refl _,g,.int _⟩
 .rw[if_neg h]
  exact uM h
def AB:List U->aw->(dk->aw->Prop)->Prop:=fun us A R=>match us with
 | [.int j]=>-(2^62)<=j/\j<2^62/\R (dF (mm 0 j.toNat)) A
 | _=>False
def vk(K:au)(u:List V->Hp->(It->Hp->Prop)->Prop)(y:List U->aw->(dk->aw->Prop)->Prop):Prop:=∀x v A H R' R,aJ K H x v->HR K H A->y x A R'->(∀aj A' J H',Kp K H H'->HR K H' A'->qr K H' J aj->R' aj A'->R J H')->u v H R
def AD(y:List U->aw->(dk->aw->Prop)->Prop)(l:AA):AI:=fun ρ A R=>l ρ A fun us A1=>y us A1 R
def Zd5(hy:vk K u y)(hl:fk K t l):sC K (Aq u t) (AD y l):=fun ρ A σ H R' R hs g w k =>
 hl ρ A σ H _ _ hs g w fun x A1 v H1 k1 g1 r1 q1=>hy _ _ _ _ _ _ r1 g1 q1 fun aj A2 J H2 k2 g2 hj q2=>k _ _ _ _ (k1.trans k2) g2 hj q2
def R7:vk K Ak AB:=fun x v A H R' R r g w k=>by
 unfold AB at w
 split at w
 .cases r with
  | cons r rr =>
   cases rr;cases r
   exact⟨w.1,w.2.1,k _ _ _ _ (.refl H) g R6 w.2.2⟩
 .exact w.elim
def Zgl(hl:fk K t l):sC K (Ks t) (AD AB l):=Zd5 (u:=Ak) R7 hl
def gJ(us:List U):List U:=us.zipIdx.map fun p=>.tup [.int (p.2:Nat),p.1]
def Es(us:List U)(i:Nat):(gJ us)[i]? = (us[i]?).map fun u=>.tup [.int (i:Nat),u]:=by
 unfold gJ;rw[Yj,List.getElem?_zipIdx];cases us[i]?<;>simp
def R8(us:List U):(gJ us).length=us.length:=by simp[gJ]
def AF(a:Addr):dk:=fun i A r=>∃us,A a=some (.lst us)/\r=(gJ us)[i]?
def AH:List U->aw->(dk->aw->Prop)->Prop:=fun us A R=>match us with
 | [.ref a]=>(∃us,A a=some (.lst us))/\R (AF a) A
 | [.bK us]=>R (dF (gJ us)) A
 | _=>False
def K7(h1:aZ K H a vs)(r1:aJ K H us vs)(g:HR K H A):match (gJ us)[i]? with
  | none=>(xx K a).stop i H
  | some u=>(xx K a).go i H/\∀x H',(xx K a).rM i H x H'->Kp K H H'/\HR K H' A/\RU K H' u x:=by
 rw[Es];cases hu:us[i]? with
 | none=>exact⟨vs,h1,by rw[<- r1.length];exact YI.mp hu⟩
 | some u =>
  obtain⟨v,hv,rv⟩:=r1.get' hu;refine⟨⟨vs,v,h1,hv⟩,?_⟩;rintro x H' ⟨T,x0,rfl,hT,rfl,hx⟩;have:=hx vs h1;rw[hv]at this;cases this;have s:=a_.az (o:=.tup [.int i,v]) hT;exact⟨s.kp,g.grow s,.tup (bo.of Zs) (.cons (.int _) (.one (rv.same s.kp)))⟩
def R9(h1:bo K H a vs)(r1:aJ K H us vs)(g:HR K H A):match (gJ us)[i]? with
  | none=>(xE K a).stop i H
  | some u=>(xE K a).go i H/\∀x H',(xE K a).rM i H x H'->Kp K H H'/\HR K H' A/\RU K H' u x:=by
 rw[Es];cases hu:us[i]? with
 | none=>exact⟨vs,h1,by rw[<- r1.length];exact YI.mp hu⟩
 | some u =>
  obtain⟨v,hv,rv⟩:=r1.get' hu;refine⟨⟨vs,v,h1,hv⟩,?_⟩;rintro x H' ⟨T,x0,rfl,hT,rfl,hx⟩;have:=hx vs h1;rw[hv]at this;cases this;have s:=a_.az (o:=.tup [.int i,v]) hT;exact⟨s.kp,g.grow s,.tup (bo.of Zs) (.cons (.int _) (.one (rv.same s.kp)))⟩
def K8:vk K (D8 K) AH:=fun x v A H R' R r g w k=>by
 unfold AH at w
 split at w
 .cases r with
  | cons r rr =>
   cases rr;cases r
   obtain⟨⟨us,hA⟩,w⟩:=w
   obtain⟨vs,h1,r1⟩:=g.list hA
   refine⟨⟨vs,aZ.of h1⟩,k _ _ _ _ (.refl H) g (fun i A1 H1 r k1 g1 ⟨us,hA,e⟩=>?_) w⟩
   subst e
   obtain⟨vs,h1,r1⟩:=g1.list hA
   exact K7 (aZ.of h1) r1 g1
 .cases r with
  | cons r rr =>
   cases rr
   cases r with
   | bK h1 r1 =>
    refine⟨⟨_,h1.sq⟩,k _ _ _ _ (.refl H) g (fun i A1 H1 r k1 g1 e=>?_) w⟩
    have e:r=(gJ _)[i]?:=e
    subst e
    exact K7 (k1.r _ _ h1).sq (r1.same k1) g1
 .exact w.elim
def Et:List U->aw->(dk->aw->Prop)->Prop:=fun us A R=>match us with
 | [.tup us]=>R (dF (gJ us)) A
 | _=>False
def R_:vk K (Eb K) Et:=fun x v A H R' R r g w k=>by
 unfold Et at w
 split at w
 .cases r with
  | cons r rr =>
   cases rr
   cases r with
   | tup h1 r1 =>
    refine⟨⟨_,h1⟩,k _ _ _ _ (.refl H) g (fun i A1 H1 r k1 g1 e=>?_) w⟩
    have e:r=(gJ _)[i]?:=e
    subst e
    exact R9 (k1.t _ _ h1) (r1.same k1) g1
 .exact w.elim
def aCompStart(nt:Nat)(bx:List (Str×Nat))(ρ:aQ):aQ:=List.replicate nt none++bx.map fun p=>(ρ[p.2]?).join
theorem aU.join:∀ {ρ:aQ} {σ:St} (i:Nat) {dM:aQ} {oF:St},aU K H ρ σ->aU K H dM oF->aU K H ((ρ[i]?).join::dM) ((σ[i]?).join::oF)
 | _,_,_,_,_,.nil,q=>by simpa using .skip q
 | _,_,0,_,_,.skip _,q=>by simpa using .skip q
 | _,_,i+1,_,_,.skip r,q=>by simpa using aU.join i r q
 | _,_,0,_,_,.cons h _,q=>by simpa using .cons h q
 | _,_,i+1,_,_,.cons _ r,q=>by simpa using aU.join i r q
def aU.comp(h:aU K H ρ σ)(nt:Nat)(bx:List (Str×Nat)):aU K H (aCompStart nt bx ρ) (mf nt bx σ):=by
 unfold aCompStart mf;induction nt with
 | zero =>
  simp only[List.replicate_zero,List.nil_append];induction bx with
  | nil=>exact .nil
  | cons p bx ih=>simp only[Yr];exact h.join p.2 ih
 | succ n ih=>simp only[List.replicate_succ,List.cons_append];exact .skip ih
def nH(J:dk)(g:AG)(tt:AT)(te:AE)(l:Addr)(Q:bc)(τ:aQ)(A:aw):Prop:=∃W:Nat->Nat->aQ->aw->Prop,(∃m,W 0 m τ A) /\
 ∀i m τ A,W i m τ A->(J i A none/\Q (.ref l) A)\/∃u,J i A (some u)/\g u τ A fun aR A2=>tt aR A2 fun ok A3 =>
  if ok=true then te aR A3 fun y A4=>∃ys,A4 l=some (.lst ys)/\ys.length<sizeLine/\∃m',m'<m/\W (i+1) m' aR (af A4 l (.lst (ys++[y])))else ∃m',m'<m/\W (i+1) m' aR A3
def Eu(nt:Nat)(bx:List (Str×Nat))(wi:AI)(g:AG)(tt:AT)(te:AE):AE:=fun ρ A Q=>wi ρ A fun J A1=>∀l,A1 l=none->nH J g tt te l Q (aCompStart nt bx ρ) (af A1 l (.lst []))
def Zb5{bx:List (Str×Nat)}(hi:sC K wi ai)(hg:oY K g ag)(ht:g_ K tt at')(he:aV K te ae):aV K (Ah nt bx wi g tt te) (Eu nt bx ai ag at' ae):=fun ρ A σ H Q' Q hs g0 w k=>by
 refine hi ρ A σ H _ _ hs g0 w fun aj A1 J H1 k1 g1 hj q=>?_
 intro l hl
 obtain⟨W,⟨m0,w0⟩,turn⟩:=q l (g1.none hl)
 have kl:Kp K H1 (upd H1 l (.lst [])):=(a_.az hl).kp
 refine⟨fun i m τ H2=>∃oZ A2,Kp K H1 H2/\HR K H2 A2/\aU K H2 oZ τ/\W i m oZ A2,⟨m0,_,_,kl,g1.fj hl .nil,(hs.same (k1.trans kl)).comp nt bx,w0⟩,?_⟩
 rintro i m τ H2 ⟨oZ,A2,k2,g2,s2,w2⟩
 have nF:=k1.trans k2
 rcases turn i m oZ A2 w2 with⟨hU,q⟩|⟨u,xK,q⟩
 .exact .inl ⟨hj i A2 H2 _ k2 g2 hU,k _ _ _ _ nF g2 (.ref l) q⟩
 .obtain⟨j1,j2⟩:=hj i A2 H2 _ k2 g2 xK
  refine .inr ⟨j1,fun x H3 hy=>?_⟩
  obtain⟨k3,g3,r3⟩:=j2 x H3 hy
  refine hg _ _ _ _ _ _ _ _ r3 (s2.same k3) g3 q fun nG A4 qu H4 k4 g4 s4 q4=>ht nG A4 qu H4 _ _ s4 g4 q4 fun b A5 H5 k5 g5 q5=>?_
  have xM:=k2.trans (k3.trans (k4.trans k5))
  cases b
  .refine jw (by decide) ?_
   obtain⟨m',hm,w'⟩:=(by simpa using q5:∃m',m'<m/\W (i+1) m' nG A5)
   exact⟨m',hm,_,_,xM,g5,s4.same k5,w'⟩
  .refine gI rfl (he nG A5 qu H5 _ _ (s4.same k5) g5 (by simpa using q5) fun y A6 v6 H6 k6 g6 r6 q6=>?_)
   obtain⟨ys,hA,hz,m',hm,w'⟩:=q6
   obtain⟨vs,h6,r7⟩:=g6.list hA
   exact⟨vs,h6,by rw[<- r7.length];exact hz,m',hm,_,_,xM.trans (k6.trans (Kp.lst h6)),g6.j_ h6 (r7.app (.one r6)),(s4.same (k5.trans (k6.trans (Kp.lst h6)))),w'⟩
end
section
variable{K:au}
def sG:fo:=fun u w A Q=>match u,w with
 | .int i,.int j=>Q (.int (i+j)) A
 | .str i,.str j=>i.length+j.length<=sizeLine/\Q (.str (i++j)) A
 | .tup xs,.tup ys=>xs.length+ys.length<=sizeLine/\Q (.tup (xs++ys)) A
 | .ref a,.ref b=>∃xs ys,A a=some (.lst xs)/\A b=some (.lst ys)/\xs.length+ys.length<=sizeLine/\∀p,A p=none->Q (.ref p) (af A p (.lst (xs++ys)))
 | _,_=>False
def ZbR:ei K (Ar K) sG:=fun x y u w A H Q' Q hu hw g h k=>by
 unfold sG at h
 split at h
 .cases hu;cases hw;exact k _ _ _ _ (.refl H) g (.int _) h
 .cases hu;cases hw;exact⟨h.1,k _ _ _ _ (.refl H) g (.str _) h.2⟩
 .cases hu with
  | tup h1 r1 =>
   cases hw with
   | tup h2 r2 =>
    refine .inr ⟨_,_,h1,h2,by rw[<- r1.length,<- r2.length];exact h.1,fun p H' s hp=>k _ _ _ _ s.kp (g.grow s) (.tup hp ((r1.app r2).same s.kp)) h.2⟩
 .cases hu;cases hw
  obtain⟨xs,ys,e1,e2,hz,q⟩:=h
  obtain⟨vs,h1,r1⟩:=g.list e1
  obtain⟨zs,h2,r2⟩:=g.list e2
  exact .inl ⟨vs,zs,aZ.of h1,aZ.of h2,by rw[<- r1.length,<- r2.length];exact hz,fun p hp=>k _ _ _ _ (a_.az hp).kp (g.fj hp (r1.app r2)) (.ref p) (q p (g.none hp))⟩
 .exact h.elim
def sH(C:Int->Int->Prop)(f:Int->Int->U):fo:=fun u w A Q=>match u,w with
 | .int i,.int j=>C i j/\Q (f i j) A
 | _,_=>False
def xI(f:Int->Int->U):fo:=fun u w A Q=>match u,w with
 | .int i,.int j=>Q (f i j) A
 | _,_=>False
def ZhM:ei K Dw (xI fun i j=>.int (i-j)):=fun x y u w A H Q' Q hu hw g h k=>by
 unfold xI at h
 split at h
 .cases hu;cases hw;exact k _ _ _ _ (.refl H) g (.int _) h
 .exact h.elim
def AK:fo:=fun u w A Q=>match u,w with
 | .int i,.int j=>IntMulOk i j/\Q (.int (i*j)) A
 | .ref a,.int m=>∃xs,A a=some (.lst xs)/\-(2^63)<=m/\m<2^63/\xs.length*m.toNat<=sizeLine/\∀p,A p=none->Q (.ref p) (af A p (.lst (List.replicate m.toNat xs).flatten))
 | _,_=>False
theorem aJ.flat(r:aJ K H us vs):∀n,aJ K H (List.replicate n us).flatten (List.replicate n vs).flatten
 | 0=>.nil
 | n+1=>by rw[List.replicate_succ,List.replicate_succ,List.flatten_cons,List.flatten_cons];exact r.app (r.flat n)
def ZqE:ei K DO AK:=fun x y u w A H Q' Q hu hw g h k=>by
 unfold AK at h
 split at h
 .cases hu;cases hw;exact⟨h.1,k _ _ _ _ (.refl H) g (.int _) h.2⟩
 .cases hu;cases hw
  obtain⟨xs,e1,b1,b2,hz,q⟩:=h
  obtain⟨vs,h1,r1⟩:=g.list e1
  exact⟨_,_,vs,rfl,rfl,h1,b1,b2,by rw[<- r1.length];exact hz,fun p hp=>k _ _ _ _ (a_.az hp).kp (g.fj hp (r1.flat _)) (.ref p) (q p (g.none hp))⟩
 .exact h.elim
def ZaR:ei K Dx (sH C0 fun i j=>.int (i / j)):=fun x y u w A H Q' Q hu hw g h k=>by
 unfold sH at h
 split at h
 .cases hu;cases hw;exact⟨h.1,k _ _ _ _ (.refl H) g (.int _) h.2⟩
 .exact h.elim
def ZaI:ei K Dy (sH (fun _ j=>0<j) fun i j=>.int (i % j)):=fun x y u w A H Q' Q hu hw g h k=>by
 unfold sH at h
 split at h
 .cases hu;cases hw;exact⟨h.1,k _ _ _ _ (.refl H) g (.int _) h.2⟩
 .exact h.elim
def Zqn:ei K Dz (sH C1 fun i j=>.int (i^j.toNat)):=fun x y u w A H Q' Q hu hw g h k=>by
 unfold sH at h
 split at h
 .cases hu;cases hw;exact⟨h.1,k _ _ _ _ (.refl H) g (.int _) h.2⟩
 .exact h.elim
def AL:fo:=fun u w A Q=>match u,w with
 | .int i,.int j=>Q (.bl (decide (i<j))) A
 | .str i,.str j=>Q (.bl (decide (i.cps.toList<j.cps.toList))) A
 | _,_=>False
def Ztx:ei K DA AL:=fun x y u w A H Q' Q hu hw g h k=>by
 unfold AL at h
 split at h
 .cases hu;cases hw;exact k _ _ _ _ (.refl H) g (.bl _) h
 .cases hu;cases hw;exact k _ _ _ _ (.refl H) g (.bl _) h
 .exact h.elim
def Ztr:ei K DB (xI fun i j=>.bl (decide (j<i))):=fun x y u w A H Q' Q hu hw g h k=>by
 unfold xI at h
 split at h
 .cases hu;cases hw;exact k _ _ _ _ (.refl H) g (.bl _) h
 .exact h.elim
mutual
inductive DU (A:aw):U->PyData->Prop
 | ay:DU A .ay .none
 | bl (b:Bool):DU A (.bl b) (.bool b)
 | int (i:Int):DU A (.int i) (.int i)
 | str (x:Str):DU A (.str x) (.str x)
 | tup {us:List U} {ds:List PyData}:hX A us ds->DU A (.tup us) (.tuple ds)
 | bK {us:List U} {ds:List PyData}:hX A us ds->DU A (.bK us) (.list ds)
 | lst {a:Addr} {us:List U} {ds:List PyData}:A a=some (.lst us)->hX A us ds->DU A (.ref a) (.list ds)
inductive hX (A:aw):List U->List PyData->Prop
 | nil:hX A [] []
 | cons {u:U} {d:PyData} {us:List U} {ds:List PyData}:DU A u d->hX A us ds->hX A (u::us) (d::ds)
end
mutual
theorem DU.rep {A:aw} {H:Hp} (g:HR K H A):∀ {u:U} {v:V} {d:PyData},DU A u d->RU K H u v->Rep K H d v:=by
 intro u v d h r
 cases h with
 | ay=>cases r;exact .ay
 | bl b=>cases r;exact .bl b
 | int b=>cases r;exact .int b
 | str b=>cases r;exact .str b
 | tup q=>cases r with|tup h r=>exact .tup h (hX.mq g q r)
 | bK q=>cases r with|bK h r=>exact .lst h.sq (hX.mq g q r)
 | lst e q =>
  cases r
  obtain⟨vs,h,r⟩:=g.list e
  exact .lst (aZ.of h) (hX.mq g q r)
theorem hX.mq {A:aw} {H:Hp} (g:HR K H A):∀ {us:List U} {vs:List V} {ds:List PyData},hX A us ds->aJ K H us vs->gH K H ds vs
 | _,_,_,.nil,.nil=>.nil
 | _,_,_,.cons h r,.cons q s=>.cons (DU.rep g h q) (hX.mq g r s)
end
def eY(ne:Bool)(u w:U)(A:aw)(Q:bc):Prop:=∃d e,DU A u d/\DU A w e/\d.canLay0=true/\e.canLay0=true/\d.depth<=190/\Q (.bl (if ne then !PyData.eqv d e else PyData.eqv d e)) A
def kc:fo:=fun u w A Q=>match u,w with
 | .int i,.int j=>Q (.bl (decide (i=j))) A
 | .str i,.str j=>Q (.bl (decide (i=j))) A
 | .bl i,.bl j=>Q (.bl (decide (i=j))) A
 | .tup us,.tup ws=>eY false (.tup us) (.tup ws) A Q
 | .ref a,.ref b=>eY false (.ref a) (.ref b) A Q
 | .bK a,.ref b=>eY false (.bK a) (.ref b) A Q
 | .tup us,.ay=>eY false (.tup us) .ay A Q
 | .ay,.tup us=>eY false .ay (.tup us) A Q
 | .ay,.ay=>Q (.bl true) A
 | .ay,.str _=>Q (.bl false) A
 | .str _,.ay=>Q (.bl false) A
 | _,_=>False
def nI(hu:RU K H u x)(hw:RU K H w y)(g:HR K H A)(h:eY ne u w A Q')(k:kZ K H Q' Q):sg K ne x y H Q:=by
 obtain⟨d,e,h1,h2,c1,c2,dp,q⟩:=h;exact⟨d,e,h1.rep g hu,h2.rep g hw,c1,c2,dp,k _ _ _ _ (.refl H) g (.bl _) q⟩
def Zfq:ei K (Al K) kc:=fun x y u w A H Q' Q hu hw g h k=>by
 unfold kc at h
 split at h
 .cases hu;cases hw;exact k _ _ _ _ (.refl H) g (.bl _) h
 .cases hu;cases hw;exact k _ _ _ _ (.refl H) g (.bl _) h
 .cases hu;cases hw;exact k _ _ _ _ (.refl H) g (.bl _) h
 .have:=nI hu hw g h k;cases hu;exact this
 .have:=nI hu hw g h k;cases hu;exact this
 .have:=nI hu hw g h k;cases hu;exact this
 .have:=nI hu hw g h k;cases hu;exact this
 .have:=nI hu hw g h k;cases hu;cases hw;exact this
 .cases hu;cases hw;exact k _ _ _ _ (.refl H) g (.bl _) h
 .cases hu;cases hw;exact k _ _ _ _ (.refl H) g (.bl _) h
 .cases hu;cases hw;exact k _ _ _ _ (.refl H) g (.bl _) h
 .exact h.elim
def jz:fo:=fun u w A Q=>match u,w with
 | .int i,.int j=>Q (.bl (!decide (i=j))) A
 | .str i,.str j=>Q (.bl (!decide (i=j))) A
 | .bl i,.bl j=>Q (.bl (!decide (i=j))) A
 | .tup us,.tup ws=>eY true (.tup us) (.tup ws) A Q
 | .ref a,.ref b=>eY true (.ref a) (.ref b) A Q
 | .bK a,.ref b=>eY true (.bK a) (.ref b) A Q
 | .tup us,.ay=>eY true (.tup us) .ay A Q
 | .ay,.tup us=>eY true .ay (.tup us) A Q
 | .ay,.ay=>Q (.bl false) A
 | .ay,.str _=>Q (.bl true) A
 | .str _,.ay=>Q (.bl true) A
 | _,_=>False
def Zon:ei K (DL K) jz:=fun x y u w A H Q' Q hu hw g h k=>by
 unfold jz at h
 split at h
 .cases hu;cases hw;exact k _ _ _ _ (.refl H) g (.bl _) h
 .cases hu;cases hw;exact k _ _ _ _ (.refl H) g (.bl _) h
 .cases hu;cases hw;exact k _ _ _ _ (.refl H) g (.bl _) h
 .have:=nI hu hw g h k;cases hu;exact this
 .have:=nI hu hw g h k;cases hu;exact this
 .have:=nI hu hw g h k;cases hu;exact this
 .have:=nI hu hw g h k;cases hu;exact this
 .have:=nI hu hw g h k;cases hu;cases hw;exact this
 .cases hu;cases hw;exact k _ _ _ _ (.refl H) g (.bl _) h
 .cases hu;cases hw;exact k _ _ _ _ (.refl H) g (.bl _) h
 .cases hu;cases hw;exact k _ _ _ _ (.refl H) g (.bl _) h
 .exact h.elim
def U.c5:U->Bool
 | .ay=>true
 | _=>false
def K9:fo:=fun u w A Q=>w=.ay/\Q (.bl u.c5) A
def Ew:fo:=fun u w A Q=>w=.ay/\Q (.bl (!u.c5)) A
def Zqd:ei K (fun x y H Q=>y=.ay/\Q (.bl (decide (x=.ay))) H) K9:=fun x y u w A H Q' Q hu hw g aD k=>by
 obtain⟨e,h⟩:=aD
 subst e;cases hw
 refine⟨rfl,?_⟩
 have:decide (x=V.ay)=u.c5:=by cases hu<;>simp[U.c5]
 rw[this]
 exact k _ _ _ _ (.refl H) g (.bl _) h
def Znj:ei K (fun x y H Q=>y=.ay/\Q (.bl (!decide (x=.ay))) H) Ew:=fun x y u w A H Q' Q hu hw g aD k=>by
 obtain⟨e,h⟩:=aD
 subst e;cases hw
 refine⟨rfl,?_⟩
 have:decide (x=V.ay)=u.c5:=by cases hu<;>simp[U.c5]
 rw[this]
 exact k _ _ _ _ (.refl H) g (.bl _) h
def U.flat:U->Bool
 | .ay=>true
 | .bl _=>true
 | .int _=>true
 | .str _=>true
 | _=>false
def U.toV:U->V
 | .bl b=>.bl b
 | .int i=>.int i
 | .str x=>.str x
 | _=>.ay
def RU.flat(h:RU K H u v)(f:u.flat=true):v=u.toV/\fL v=true:=by
 cases h<;>first|exact⟨rfl,rfl⟩|cases f
theorem aJ.mw:∀ {us:List U} {vs:List V},aJ K H us vs->us.all U.flat=true->vs=us.map U.toV/\vs.all fL=true
 | _,_,.nil,_=>⟨rfl,rfl⟩
 | _, _,.cons h r,f=>by
  rw[List.all_cons,YQ]at f
  obtain⟨e1,f1⟩:=h.flat f.1
  obtain⟨e2,f2⟩:=aJ.mw r f.2
  exact⟨by rw[Yr,e1,e2],by rw[List.all_cons,f1,f2];rfl⟩
def dG(u:U)(us:List U):Bool:=ny u.toV (us.map U.toV)
def nJ(neg:Bool):fo:=fun u w A Q=>match w with
 | .str j=>∃i,u=.str i/\Q (.bl (if neg then !u9 j i else u9 j i)) A
 | .tup us=>u.flat=true/\us.all U.flat=true/\Q (.bl (if neg then !dG u us else dG u us)) A
 | .bK us=>u.flat=true/\us.all U.flat=true/\Q (.bl (if neg then !dG u us else dG u us)) A
 | .ref a=>∃us,A a=some (.lst us)/\u.flat=true/\us.all U.flat=true/\Q (.bl (if neg then !dG u us else dG u us)) A
 | _=>False
abbrev K_:=nJ false
abbrev La:=nJ true
theorem Sa{xs:List V}(fx:fL x=true)(h:∃xs,Sq K H p xs/\fL x=true/\xs.all fL=true/\Q (.bl (ny x xs)) H):u_ K x (.ref p) H Q:=by
 cases x<;>exact h
theorem Sb{xs:List V}(fx:fL x=true)(h:∃xs,Sq K H p xs/\fL x=true/\xs.all fL=true/\Q (.bl (!ny x xs)) H):xp K x (.ref p) H Q:=by
 cases x<;>exact h
def Ex(hu:RU K H u x)(hs:Sq K H p vs)(r:aJ K H us vs)(g:HR K H A)(f:u.flat=true)(fs:us.all U.flat=true)(h:Q' (.bl (dG u us)) A)(k:kZ K H Q' Q):u_ K x (.ref p) H Q:=by
 obtain⟨e1,f1⟩:=hu.flat f;obtain⟨e2,f2⟩:=r.mw fs;refine Sa (xs:=vs) f1 ⟨vs,hs,f1,f2,k _ _ _ _ (.refl H) g (.bl _) ?_⟩;rw[e1,e2];exact h
def Ey(hu:RU K H u x)(hs:Sq K H p vs)(r:aJ K H us vs)(g:HR K H A)(f:u.flat=true)(fs:us.all U.flat=true)(h:Q' (.bl (!dG u us)) A)(k:kZ K H Q' Q):xp K x (.ref p) H Q:=by
 obtain⟨e1,f1⟩:=hu.flat f;obtain⟨e2,f2⟩:=r.mw fs;refine Sb (xs:=vs) f1 ⟨vs,hs,f1,f2,k _ _ _ _ (.refl H) g (.bl _) ?_⟩;rw[e1,e2];exact h
def ZpR:ei K (u_ K) K_:=fun x y u w A H Q' Q hu hw g h k=>by
 unfold K_ nJ at h
 split at h
 .obtain⟨i,rfl,h⟩:=h
  cases hw;cases hu;exact k _ _ _ _ (.refl H) g (.bl _) h
 .cases hw with
  | tup h1 r1=>exact Ex hu (.inr h1) r1 g h.1 h.2.1 h.2.2 k
 .cases hw with
  | bK h1 r1=>exact Ex hu (.inl h1.sq) r1 g h.1 h.2.1 h.2.2 k
 .cases hw
  obtain⟨us,e,h⟩:=h
  obtain⟨vs,h1,r1⟩:=g.list e
  exact Ex hu (.inl (aZ.of h1)) r1 g h.1 h.2.1 h.2.2 k
 .exact h.elim
def Zo9:ei K (xp K) La:=fun x y u w A H Q' Q hu hw g h k=>by
 unfold La nJ at h
 split at h
 .obtain⟨i,rfl,h⟩:=h
  cases hw;cases hu;exact k _ _ _ _ (.refl H) g (.bl _) h
 .cases hw with
  | tup h1 r1=>exact Ey hu (.inr h1) r1 g h.1 h.2.1 h.2.2 k
 .cases hw with
  | bK h1 r1=>exact Ey hu (.inl h1.sq) r1 g h.1 h.2.1 h.2.2 k
 .cases hw
  obtain⟨us,e,h⟩:=h
  obtain⟨vs,h1,r1⟩:=g.list e
  exact Ey hu (.inl (aZ.of h1)) r1 g h.1 h.2.1 h.2.2 k
 .exact h.elim
def aJ.at(r:aJ K H us vs)(h:bX us i=some u):∃v,bX vs i=some v/\RU K H u v:=by
 unfold bX at h ⊢;rw[<- r.length];cases e:iU us.length i with
 | none=>rw[e]at h;cases h
 | some j=>rw[e]at h;exact r.get' h
def jA:fo:=fun u w A Q=>match u,w with
 | .str z,.int i=>z.length<=sizeLine/\∃c,bX z.cps.toList i=some c/\Q (.str ⟨#[c]⟩) A
 | .tup us,.int i=>∃x,bX us i=some x/\Q x A
 | .bK us,.int i=>∃x,bX us i=some x/\Q x A
 | .ref a,.int i=>∃us x,A a=some (.lst us)/\bX us i=some x/\Q x A
 | _,_=>False
def Zav:ei K (Aj K) jA:=fun x y u w A H Q' Q hu hw g h k=>by
 unfold jA at h
 split at h
 .cases hu;cases hw
  obtain⟨hz,c,e,h⟩:=h
  exact⟨hz,c,e,k _ _ _ _ (.refl H) g (.str _) h⟩
 .cases hw
  obtain⟨x,e,h⟩:=h
  cases hu with
  | tup h1 r1 =>
   obtain⟨v,e2,rv⟩:=r1.at e
   exact⟨_,v,.inr h1,e2,k _ _ _ _ (.refl H) g rv h⟩
 .cases hw
  obtain⟨x,e,h⟩:=h
  cases hu with
  | bK h1 r1 =>
   obtain⟨v,e2,rv⟩:=r1.at e
   exact⟨_,v,.inl h1.sq,e2,k _ _ _ _ (.refl H) g rv h⟩
 .cases hw;cases hu
  obtain⟨us,x,e0,e,h⟩:=h
  obtain⟨vs,h1,r1⟩:=g.list e0
  obtain⟨v,e2,rv⟩:=r1.at e
  exact⟨_,v,.inl (aZ.of h1),e2,k _ _ _ _ (.refl H) g rv h⟩
 .exact h.elim
def ke(xs:List U)(lo hi:Option Int):List U:=(xs.drop (HT.aO xs.length 0 lo)).take (HT.aO xs.length xs.length hi-HT.aO xs.length 0 lo)
def aJ.cut(r:aJ K H us vs)(lo hi:Option Int):aJ K H (ke us lo hi) (j4 vs lo hi):=by
 unfold ke j4;rw[r.length];exact(r.drop _).take _
def sI:U->Option Int->Option Int->aw->bc->Prop:=fun u lo hi A Q=>match u with
 | .str z=>z.length<=sizeLine/\Q (.str (u7 z lo hi)) A
 | .tup us=>Q (.tup (ke us lo hi)) A
 | .bK us=>∀p,A p=none->Q (.ref p) (af A p (.lst (ke us lo hi)))
 | .ref a=>∃us,A a=some (.lst us)/\∀p,A p=none->Q (.ref p) (af A p (.lst (ke us lo hi)))
 | _=>False
def Zia:KW K (Ea K) sI:=fun x u lo hi A H Q' Q hu g h k=>by
 unfold sI at h
 split at h
 .cases hu;exact⟨h.1,k _ _ _ _ (.refl H) g (.str _) h.2⟩
 .cases hu with
  | tup h1 r1=>exact .inr ⟨_,h1,fun p H' s hp=>k _ _ _ _ s.kp (g.grow s) (.tup hp ((r1.cut lo hi).same s.kp)) h⟩
 .cases hu with
  | bK h1 r1=>exact .inl ⟨_,h1.sq,fun p hp=>k _ _ _ _ (a_.az hp).kp (g.fj hp (r1.cut lo hi)) (.ref p) (h p (g.none hp))⟩
 .cases hu
  obtain⟨us,e,h⟩:=h
  obtain⟨vs,h1,r1⟩:=g.list e
  exact .inl ⟨_,aZ.of h1,fun p hp=>k _ _ _ _ (a_.az hp).kp (g.fj hp (r1.cut lo hi)) (.ref p) (h p (g.none hp))⟩
 .exact h.elim
def vm:List U->aw->bc->Prop:=fun us A Q=>match us with
 | [.str z]=>z.length<=sizeLine/\Q (.int z.length) A
 | [.tup us]=>Q (.int us.length) A
 | [.bK us]=>Q (.int us.length) A
 | [.ref a]=>∃us,A a=some (.lst us)/\Q (.int us.length) A
 | _=>False
def aJ.inv1(h:aJ K H [u] vs):∃v,vs=[v]/\RU K H u v:=by
 cases h with
 | cons h r=>cases r;exact⟨_,rfl,h⟩
def aJ.inv2(h:aJ K H [u,w] vs):∃v x,vs=[v,x]/\RU K H u v/\RU K H w x:=by
 cases h with
 | cons h r=>obtain⟨x,rfl,r'⟩:=r.inv1;exact⟨_,x,rfl,h,r'⟩
def ZmB:hG K (DF K) vm:=fun xs us A H Q' Q r g h k=>by
 unfold vm at h
 split at h
 .obtain⟨v,rfl,r'⟩:=r.inv1;cases r';exact⟨h.1,k _ _ _ _ (.refl H) g (.int _) h.2⟩
 .obtain⟨v,rfl,r'⟩:=r.inv1
  cases r' with
  | tup h1 r1=>exact⟨_,.inr h1,k _ _ _ _ (.refl H) g (.int _) (by rw[<- r1.length];exact h)⟩
 .obtain⟨v,rfl,r'⟩:=r.inv1
  cases r' with
  | bK h1 r1=>exact⟨_,.inl h1.sq,k _ _ _ _ (.refl H) g (.int _) (by rw[<- r1.length];exact h)⟩
 .obtain⟨v,rfl,r'⟩:=r.inv1
  cases r'
  obtain⟨us,e,h⟩:=h
  obtain⟨vs,h1,r1⟩:=g.list e
  exact⟨_,.inl (aZ.of h1),k _ _ _ _ (.refl H) g (.int _) (by rw[<- r1.length];exact h)⟩
 .exact h.elim
def xN:List U->aw->bc->Prop:=fun us A Q=>match us with
 | [.int i,.int j]=>Q (.int (min i j)) A
 | [.ref a]=>∃ns:List Int,A a=some (.lst (ns.map U.int))/\1<=ns.length/\∀m,m∈ns->(∀x∈ns,m<=x)->Q (.int m) A
 | _=>False
def ZqH:hG K (D_ K) xN:=fun xs us A H Q' Q r g h k=>by
 unfold xN at h
 split at h
 .obtain⟨v,x,rfl,r1,r2⟩:=r.inv2;cases r1;cases r2;exact k _ _ _ _ (.refl H) g (.int _) h
 .obtain⟨v,rfl,r'⟩:=r.inv1;cases r'
  obtain⟨ns,e,hn,h⟩:=h
  obtain⟨vs,h1,r1⟩:=g.list e
  exact⟨ns,aZ.of (by rw[h1,r1.ints]),hn,fun m hm hx=>k _ _ _ _ (.refl H) g (.int _) (h m hm hx)⟩
 .exact h.elim
def Ez:List U->aw->bc->Prop:=fun us A Q=>match us with
 | [.ref a]=>∃ns:List Int,A a=some (.lst (ns.map U.int))/\Q (.int ns.sum) A
 | _=>False
def Zpl:hG K (DM K) Ez:=fun xs us A H Q' Q r g h k=>by
 unfold Ez at h
 split at h
 .obtain⟨v,rfl,r'⟩:=r.inv1;cases r'
  obtain⟨ns,e,h⟩:=h
  obtain⟨vs,h1,r1⟩:=g.list e
  exact⟨ns,aZ.of (by rw[h1,r1.ints]),k _ _ _ _ (.refl H) g (.int _) h⟩
 .exact h.elim
def AM:U->aw->Prop:=fun u A=>match u with
 | .ref a=>∃us,A a=some (.lst us)
 | _=>False
def ZfV:Au K "list" AM:=fun x u A H r g h=>by
 unfold AM at h
 split at h
 .cases r
  obtain⟨us,e⟩:=h
  obtain⟨vs,h1,r1⟩:=g.list e
  exact .inl ⟨rfl,vs,aZ.of h1⟩
 .exact h.elim
def AN:U->List U->aw->bc->Prop:=fun u us A Q=>match u,us with
 | .ref a,[w]=>∃xs,A a=some (.lst xs)/\xs.length<sizeLine/\Q .ay (af A a (.lst (xs++[w])))
 | _,_=>False
def Zjr:oW K J_ AN:=fun x u xs us A H Q' Q r rs g h k=>by
 unfold AN at h
 split at h
 .cases r
  obtain⟨v,rfl,rv⟩:=rs.inv1
  obtain⟨zs,e,hz,h⟩:=h
  obtain⟨vs,h1,r1⟩:=g.list e
  exact⟨_,vs,_,rfl,rfl,h1,by rw[<- r1.length];exact hz,k _ _ _ _ (Kp.lst h1) (g.j_ h1 (r1.app (.one rv))) .ay h⟩
 .exact h.elim
def EA:U->List U->aw->bc->Prop:=fun u us A Q=>match u,us with
 | .ref a,[]=>∃xs y,A a=some (.lst (xs++[y]))/\Q y (af A a (.lst xs))
 | _,_=>False
def ZoH:oW K J' EA:=fun x u xs us A H Q' Q r rs g h k=>by
 unfold EA at h
 split at h
 .cases r;cases rs
  obtain⟨zs,y,e,h⟩:=h
  obtain⟨vs,h1,r1⟩:=g.list e
  have hl:=r1.length
  rw[Yq,List.length_singleton]at hl
  obtain⟨v,hv,rv⟩:=r1.get' (i:=zs.length) (u:=y) (by simp)
  refine⟨_,vs,v,rfl,rfl,h1,by rw[<- hl];exact hv,k _ _ _ _ (Kp.lst h1) (g.j_ h1 ?_) (rv.same (Kp.lst h1)) h⟩
  have:=r1.dropLast
  rw[List.dropLast_concat]at this
  exact this
 .exact h.elim
def EB:U->List U->aw->bc->Prop:=fun u us A Q=>match u,us with
 | .ref a,[.tup ws]=>∃xs,A a=some (.lst xs)/\xs.length+ws.length<=sizeLine/\Q .ay (af A a (.lst (xs++ws)))
 | _,_=>False
def Sd:oW K (Ed K) EB:=fun x u xs us A H Q' Q r rs g h k=>by
 unfold EB at h
 split at h
 .cases r
  obtain⟨v,rfl,rv⟩:=rs.inv1
  obtain⟨zs,e,hz,h⟩:=h
  obtain⟨vs,h1,r1⟩:=g.list e
  cases rv with
  | tup h2 r2=>exact⟨_,_,vs,_,rfl,rfl,h1,h2,by rw[<- r1.length,<- r2.length];exact hz,k _ _ _ _ (Kp.lst h1) (g.j_ h1 (r1.app r2)) .ay h⟩
 .exact h.elim
def EC:U->List U->aw->bc->Prop:=fun u us A Q=>match u,us with
 | .ref a,[.ref b]=>∃xs ws,A a=some (.lst xs)/\A b=some (.lst ws)/\xs.length+ws.length<=sizeLine/\Q .ay (af A a (.lst (xs++ws)))
 | _,_=>False
def Se:oW K Dl EC:=fun x u xs us A H Q' Q r rs g h k=>by
 unfold EC at h
 split at h
 .cases r
  obtain⟨v,rfl,rv⟩:=rs.inv1
  cases rv
  obtain⟨zs,ws,e,e2,hz,h⟩:=h
  obtain⟨vs,h1,r1⟩:=g.list e
  obtain⟨ys,h2,r2⟩:=g.list e2
  exact⟨_,_,vs,_,rfl,rfl,h1,h2,by rw[<- r1.length,<- r2.length];exact hz,k _ _ _ _ (Kp.lst h1) (g.j_ h1 (r1.app r2)) .ay h⟩
 .exact h.elim
def Lb(o i:AE):AG:=fun u ρ A Q=>o ρ A fun x A1=>i ρ A1 fun y A2=>∃a us m j,x=.ref a/\y=.int m/\A2 a=some (.lst us)/\iU us.length m=some j/\Q ρ (af A2 a (.lst (us.set j u)))
def ZdW(ho:aV K to ao)(hi:aV K ti ai):oY K (CV to ti J3) (Lb ao ai):=fun u v ρ A σ H Q' Q r hs g w k =>
 ho ρ A σ H _ _ hs g w fun x A1 v1 H1 k1 g1 r1 q1=>hi ρ A1 σ H1 _ _ (hs.same k1) g1 q1 fun y A2 v2 H2 k2 g2 r2 aD=>by
  obtain⟨a,us,m,j,e1,e2,eA,ej,q⟩:=aD
  subst e1 e2
  cases r1;cases r2
  obtain⟨vs,h1,r1⟩:=g2.list eA
  refine⟨_,vs,_,j,rfl,rfl,h1,by rw[<- r1.length];exact ej,k _ _ _ _ (k1.trans (k2.trans (Kp.lst h1))) (g2.j_ h1 (r1.set (r.same (k1.trans k2)) j)) (hs.same (k1.trans (k2.trans (Kp.lst h1)))) q⟩
end
theorem Sf(x:U)(xs:List U):ke (x::xs) (some 1) none=xs:=by
 unfold ke;have:HT.aO (x::xs).length 0 (some 1)=1:=by
  have:=HT.d5 (x::xs).length 0 1;rw[show((1:Nat):Int)=1 from rfl]at this;rw[this,List.length_cons];lia
 rw[this,HT.lT,List.drop_succ_cons,zL,List.length_cons,Cr,YV]
section
variable{u:U}{ρ:aQ}{A:aw}{Q:bc}{a b:AE}{c d:AT}{B:Bool->aw->Prop}{l:AA}{L:List U->aw->Prop}{D:jy}
def Zsy:(gh 0 (some u::ρ) A Q)=(Q u A):=rfl
def Zr4:(ml 0 u (a0::ρ) A g)=(g (some u::ρ) A):=rfl
def ZqB:(xF (some u::ρ) 0 k)=(k u):=rfl
def Zsc:(gh (i+1) (a0::ρ) A Q)=(gh i ρ A Q):=rfl
def ZtW:(ml (i+1) u (a0::ρ) A g)=(ml i u ρ A fun dM A2=>g (a0::dM) A2):=rfl
def Zqv:(xF (a0::ρ) (i+1) k)=(xF ρ i k):=rfl
def q_c:(aC u ρ A Q)=(Q u A):=rfl
def Zww:(ka r a b ρ A Q)=(a ρ A fun x A1=>b ρ A1 fun y A2=>r x y A2 Q):=rfl
def Zwm:(aB a ρ A B)=(a ρ A fun x A1=>∃c,x=.bl c/\B c A1):=rfl
def ZwF{F:Bool->Prop}:(∃c,U.bl k=.bl c/\F c)=(F k):=by simp
def Zue{F:Int->Prop}:(∃c,U.int i=.int c/\F c)=(F i):=by simp
def ZuC:(Ef c d ρ A B)=(c ρ A fun k A1=>if k=true then d ρ A1 B else B false A1):=rfl
def Zwf:(KN c d ρ A B)=(c ρ A fun k A1=>if k=true then B true A1 else d ρ A1 B):=rfl
def Zte:(KO c ρ A B)=(c ρ A fun k A1=>B (!k) A1):=rfl
def Zsl:(KP a b ρ A Q)=(a ρ A fun x A1=>∃k,x=.bl k/\if k=true then b ρ A1 Q else Q (.bl false) A1):=rfl
def ZuH:(KQ a b ρ A Q)=(a ρ A fun x A1=>∃k,x=.bl k/\if k=true then Q (.bl true) A1 else b ρ A1 Q):=rfl
def ZrR:(qq ρ A B)=(B true A):=rfl
def Ztl:(nD ρ A L)=(L [] A):=rfl
def ZsF:(iZ a l ρ A L)=(a ρ A fun x A1=>l ρ A1 fun xs A2=>L (x::xs) A2):=rfl
def Znl:(Eg us ρ A L)=(L us A):=rfl
def Zuc:(vh l ρ A Q)=(l ρ A fun xs A1=>xs.length<=sizeLine/\Q (.tup xs) A1):=rfl
def ZtE:(xH l ρ A Q)=(l ρ A fun xs A1=>xs.length<=sizeLine/\∀p,A1 p=none->Q (.ref p) (af A1 p (.lst xs))):=rfl
def Zwi:(KR r l ρ A Q)=(l ρ A fun us A1=>r us A1 Q):=rfl
def Zrg:(Eh sp l ρ A Q)=(l ρ A fun us A1=>sp us A1 Q):=rfl
def Zkn:(KS ρ A O)=(O none A):=rfl
def Zql:(KU a ρ A O)=(a ρ A fun x A1=>∃i,x=.int i/\O (some i) A1):=rfl
def Zwo{lo hi:xG}:(KY r a lo hi ρ A Q)=(a ρ A fun x A1=>lo ρ A1 fun i A2=>hi ρ A2 fun j A3=>r x i j A3 Q):=rfl
def Zuf:(KZ y r a ρ A Q)=(a ρ A fun x A1=>y x A1/\r x [] A1 Q):=rfl
def Zwt:(Ei y r a l ρ A Q)=(a ρ A fun x A1=>y x A1/\l ρ A1 fun us A2=>r x us A2 Q):=rfl
def Zrn:(Ej D ρ A)=(D.nx ρ A):=rfl
def Zt9:(K0 t t2 D ρ A)=(t { D with nx:=t2 D } ρ A):=rfl
def Zq2:(Ek a D ρ A)=(a ρ A fun _ A1=>D.nx ρ A1):=rfl
def ZuR:(Av a D ρ A)=(a ρ A D.rt):=rfl
def ZuZ:(El c t t2 D ρ A)=(c ρ A fun k A1=>if k=true then t D ρ A1 else t2 D ρ A1):=rfl
def Zu9:(K2 a g D ρ A)=(a ρ A fun x A1=>g x ρ A1 D.nx):=rfl
def Zt6{F:U->U->Prop}:(∃a b,[v,w]=[a,b]/\F a b)=(F v w):=propext ⟨fun aD=>by obtain⟨a,b,e,h⟩:=aD;injection e with e1 e2;injection e2 with e2 _;subst e1 e2;exact h,fun h=>⟨_,_,rfl,h⟩⟩
def Zuj:(K3 wi g t D ρ A)=(wi ρ A fun J A1=>sD J g t D ρ A1):=rfl
def ZtH:(Eo y a ρ A R)=(a ρ A fun x A1=>y x A1 R):=rfl
def ZmN:(AD y l ρ A R)=(l ρ A fun us A1=>y us A1 R):=rfl
def Zus:(Ep (.ref p) A R)=((∃us,A p=some (.lst us))/\R (sE p) A):=rfl
def ZtF:(Ep (.bK us) A R)=(R (dF us) A):=rfl
def ZwA:(K6 (.tup us) A R)=(R (dF us) A):=rfl
def Zut:(AB [.int j] A R)=(-(2^62)<=j/\j<2^62/\R (dF (mm 0 j.toNat)) A):=rfl
def Ztp:(AH [.ref p] A R)=((∃us,A p=some (.lst us))/\R (AF p) A):=rfl
def Zuk:(AH [.bK us] A R)=(R (dF (gJ us)) A):=rfl
def Zuz:(Et [.tup us] A R)=(R (dF (gJ us)) A):=rfl
def Zpz{bx:List (Str×Nat)}:(Eu nt bx wi g tt te ρ A Q)=(wi ρ A fun J A1=>∀l,A1 l=none->nH J g tt te l Q (aCompStart nt bx ρ) (af A1 l (.lst []))):=rfl
def ZqV:(En n t (.tup us) ρ A N)=(us.length=n/\t us ρ A N):=propext ⟨fun aD=>by obtain⟨vs,e,h⟩:=aD;cases e;exact h,fun h=>⟨_,rfl,h⟩⟩
def Zoe:(Ax t ts (u::us) ρ A N)=(t u ρ A fun dM A2=>ts us dM A2 N):=propext ⟨fun aD=>by obtain⟨v,r,e,h⟩:=aD;cases e;exact h,fun h=>⟨_,_,rfl,h⟩⟩
def ZrX:(Em [] ρ A N)=(N ρ A):=propext ⟨fun h=>h.2,fun h=>⟨rfl,h⟩⟩
def ZqW:(sG (.int i) (.int j) A Q)=(Q (.int (i+j)) A):=rfl
def ZrM:(sG (.str x) (.str y) A Q)=(x.length+y.length<=sizeLine/\Q (.str (x++y)) A):=rfl
def Zp6:(sG (.tup us) (.tup ws) A Q)=(us.length+ws.length<=sizeLine/\Q (.tup (us++ws)) A):=rfl
def ZqK:(sG (.ref p) (.ref q) A Q)=(∃xs ys,A p=some (.lst xs)/\A q=some (.lst ys)/\xs.length+ys.length<=sizeLine/\∀p,A p=none->Q (.ref p) (af A p (.lst (xs++ys)))):=rfl
def Zwy:(xI f (.int i) (.int j) A Q)=(Q (f i j) A):=rfl
def ZuB:(sH C f (.int i) (.int j) A Q)=(C i j/\Q (f i j) A):=rfl
def Zta:(AK (.int i) (.int j) A Q)=(IntMulOk i j/\Q (.int (i*j)) A):=rfl
def Ztz:(AK (.ref p) (.int m) A Q)=(∃xs,A p=some (.lst xs)/\-(2^63)<=m/\m<2^63/\xs.length*m.toNat<=sizeLine/\∀p,A p=none->Q (.ref p) (af A p (.lst (List.replicate m.toNat xs).flatten))):=rfl
def ZsZ:(AL (.int i) (.int j) A Q)=(Q (.bl (decide (i<j))) A):=rfl
def ZtM:(AL (.str x) (.str y) A Q)=(Q (.bl (decide (x.cps.toList<y.cps.toList))) A):=rfl
def Zt5:(kc (.int i) (.int j) A Q)=(Q (.bl (decide (i=j))) A):=rfl
def Ztc:(kc (.str x) (.str y) A Q)=(Q (.bl (decide (x=y))) A):=rfl
def Zs8:(kc (.bl k) (.bl m) A Q)=(Q (.bl (decide (k=m))) A):=rfl
def Zun:(kc (.tup us) (.tup ws) A Q)=(eY false (.tup us) (.tup ws) A Q):=rfl
def Zux:(kc (.ref p) (.ref q) A Q)=(eY false (.ref p) (.ref q) A Q):=rfl
def ZpE:(kc (.tup us) .ay A Q)=(eY false (.tup us) .ay A Q):=rfl
def Zsm:(kc .ay (.tup us) A Q)=(eY false .ay (.tup us) A Q):=rfl
def Zrh:(kc .ay .ay A Q)=(Q (.bl true) A):=rfl
def ZpH:(kc .ay (.str x) A Q)=(Q (.bl false) A):=rfl
def ZpF:(kc (.str x) .ay A Q)=(Q (.bl false) A):=rfl
def Zvd:(jz (.int i) (.int j) A Q)=(Q (.bl (!decide (i=j))) A):=rfl
def ZtS:(jz (.str x) (.str y) A Q)=(Q (.bl (!decide (x=y))) A):=rfl
def Ztk:(jz (.bl k) (.bl m) A Q)=(Q (.bl (!decide (k=m))) A):=rfl
def ZtY:(jz (.tup us) (.tup ws) A Q)=(eY true (.tup us) (.tup ws) A Q):=rfl
def ZuQ:(jz (.ref p) (.ref q) A Q)=(eY true (.ref p) (.ref q) A Q):=rfl
def Zqs:(jz (.tup us) .ay A Q)=(eY true (.tup us) .ay A Q):=rfl
def Zq5:(jz .ay (.tup us) A Q)=(eY true .ay (.tup us) A Q):=rfl
def Zpj:(jz .ay .ay A Q)=(Q (.bl false) A):=rfl
def Zp2:(jz .ay (.str x) A Q)=(Q (.bl true) A):=rfl
def Zsw:(jz (.str x) .ay A Q)=(Q (.bl true) A):=rfl
def ZuF:(K9 u .ay A Q)=(Q (.bl u.c5) A):=propext ⟨fun h=>h.2,fun h=>⟨rfl,h⟩⟩
def ZqF:(Ew u .ay A Q)=(Q (.bl (!u.c5)) A):=propext ⟨fun h=>h.2,fun h=>⟨rfl,h⟩⟩
def Zra:(nJ false u (.tup us) A Q)=(u.flat=true/\us.all U.flat=true/\Q (.bl (dG u us)) A):=rfl
def Zoq:(nJ true u (.tup us) A Q)=(u.flat=true/\us.all U.flat=true/\Q (.bl (!dG u us)) A):=rfl
def Zqe:(nJ false u (.ref p) A Q)=(∃us,A p=some (.lst us)/\u.flat=true/\us.all U.flat=true/\Q (.bl (dG u us)) A):=rfl
def Zov:(nJ true u (.ref p) A Q)=(∃us,A p=some (.lst us)/\u.flat=true/\us.all U.flat=true/\Q (.bl (!dG u us)) A):=rfl
def ZqP:(nJ false (.str x) (.str y) A Q)=(Q (.bl (u9 y x)) A):=propext ⟨fun aD=>by obtain⟨i,e,h⟩:=aD;cases e;exact h,fun h=>⟨_,rfl,h⟩⟩
def Zoy:(nJ true (.str x) (.str y) A Q)=(Q (.bl (!u9 y x)) A):=propext ⟨fun aD=>by obtain⟨i,e,h⟩:=aD;cases e;exact h,fun h=>⟨_,rfl,h⟩⟩
def ZsY:(jA (.str z) (.int i) A Q)=(z.length<=sizeLine/\∃c,bX z.cps.toList i=some c/\Q (.str ⟨#[c]⟩) A):=rfl
def Zt0:(jA (.tup (u::us)) (.int 0) A Q)=(Q u A):=propext ⟨fun aD=>by obtain⟨x,e,h⟩:=aD;rw[show bX (u::us) 0=some u from ZQ (j:=0) rfl]at e;cases e;exact h,fun h=>⟨_,ZQ (j:=0) rfl,h⟩⟩
def Zs2:(jA (.tup (u::w::us)) (.int 1) A Q)=(Q w A):=propext ⟨fun aD=>by obtain⟨x,e,h⟩:=aD;rw[show bX (u::w::us) 1=some w from ZQ (j:=1) rfl]at e;cases e;exact h,fun h=>⟨_,ZQ (j:=1) rfl,h⟩⟩
def Zuy:(jA (.tup (u::w::x::us)) (.int 2) A Q)=(Q x A):=propext ⟨fun aD=>by obtain⟨z,e,h⟩:=aD;rw[show bX (u::w::x::us) 2=some x from ZQ (j:=2) rfl]at e;cases e;exact h,fun h=>⟨_,ZQ (j:=2) rfl,h⟩⟩
def ZtJ:(jA (.tup us) (.int i) A Q)=(∃x,bX us i=some x/\Q x A):=rfl
def Ztg:(jA (.bK us) (.int i) A Q)=(∃x,bX us i=some x/\Q x A):=rfl
def Zub:(jA (.ref p) (.int i) A Q)=(∃us x,A p=some (.lst us)/\bX us i=some x/\Q x A):=rfl
def ZuG{lo hi:Option Int}:(sI (.str z) lo hi A Q)=(z.length<=sizeLine/\Q (.str (u7 z lo hi)) A):=rfl
def Zsv:(sI (.tup (u::us)) (some 1) none A Q)=(Q (.tup us) A):=by show Q (.tup (ke (u::us) (some 1) none)) A=_;rw[Sf]
def Zuw{lo hi:Option Int}:(sI (.tup us) lo hi A Q)=(Q (.tup (ke us lo hi)) A):=rfl
def Zuh{lo hi:Option Int}:(sI (.bK us) lo hi A Q)=(∀p,A p=none->Q (.ref p) (af A p (.lst (ke us lo hi)))):=rfl
def ZuK{lo hi:Option Int}:(sI (.ref p) lo hi A Q)=(∃us,A p=some (.lst us)/\∀p,A p=none->Q (.ref p) (af A p (.lst (ke us lo hi)))):=rfl
def Zpk:(vm [.str z] A Q)=(z.length<=sizeLine/\Q (.int z.length) A):=rfl
def ZqT:(vm [.tup us] A Q)=(Q (.int us.length) A):=rfl
def ZsE:(vm [.bK us] A Q)=(Q (.int us.length) A):=rfl
def ZpV:(vm [.ref p] A Q)=(∃us,A p=some (.lst us)/\Q (.int us.length) A):=rfl
def ZqA:(xN [.int i,.int j] A Q)=(Q (.int (min i j)) A):=rfl
def Zpo:(xN [.ref p] A Q)=(∃ns:List Int,A p=some (.lst (ns.map U.int))/\1<=ns.length/\∀m,m∈ns->(∀x∈ns,m<=x)->Q (.int m) A):=rfl
def Zui:(Ez [.ref p] A Q)=(∃ns:List Int,A p=some (.lst (ns.map U.int))/\Q (.int ns.sum) A):=rfl
def ZtX:(AM (.ref p) A)=(∃us,A p=some (.lst us)):=rfl
def Zs7:(AN (.ref p) [u] A Q)=(∃xs,A p=some (.lst xs)/\xs.length<sizeLine/\Q .ay (af A p (.lst (xs++[u])))):=rfl
def ZtI:(EA (.ref p) [] A Q)=(∃xs y,A p=some (.lst (xs++[y]))/\Q y (af A p (.lst xs))):=rfl
def Zr2:(EB (.ref p) [.tup us] A Q)=(∃xs,A p=some (.lst xs)/\xs.length+us.length<=sizeLine/\Q .ay (af A p (.lst (xs++us)))):=rfl
def Zto:(EC (.ref p) [.ref q] A Q)=(∃xs ws,A p=some (.lst xs)/\A q=some (.lst ws)/\xs.length+ws.length<=sizeLine/\Q .ay (af A p (.lst (xs++ws)))):=rfl
def ZpM:(Lb o i u ρ A N)=(o ρ A fun x A1=>i ρ A1 fun y A2=>∃a us m j,x=.ref a/\y=.int m/\A2 a=some (.lst us)/\iU us.length m=some j/\N ρ (af A2 a (.lst (us.set j u)))):=rfl
end
def Ext(A A':aw):Prop:=∀a o,A a=some o->A' a=some o
def Ext.refl(A:aw):Ext A A:=fun _ _ h=>h
def Ext.trans(h:Ext A B)(k:Ext B C):Ext A C:=fun a o e=>k a o (h a o e)
def Ext.new(h:A l=none):Ext A (af A l o):=fun b u e=>by
 rw[Zi (fun z=>by rw[z,h]at e;cases e)];exact e
def HR.ext{K:au}(e:Ext A A')(h:HR K H A'):HR K H A:=fun a o q=>h a o (e a o q)
def Fg(Q:bc):bc:=fun u A=>∃A',Ext A' A/\Q u A'
def aStart(N:List Str)(us:List U):aQ:=us.map some++List.replicate (N.length-us.length) none
section
variable{P:Program}{w:World}{K:au}{mg:Str->Option Value}{base:Heap}
theorem aU.qv:∀n,aU K H (List.replicate n none) (List.replicate n none)
 | 0=>.nil
 | n+1=>.skip (aU.qv n)
def aU.start(N:List Str)(r:aJ K H us vs):aU K H (aStart N us) (L2.start N vs):=by
 unfold aStart L2.start;rw[r.length];generalize N.length-vs.length=n;induction us generalizing vs with
 | nil=>cases r;exact aU.qv n
 | cons u us ih =>
  cases r with
  | cons h r=>exact .cons h (ih r)
def iW.bG{st:Stmt}(F:iW K x qual st f fd)(hs:ZI st=sc)(hb:kW st=body)(S:gU N ps (ZI st))(cT:gU N ps sc->∀ (bf:Value) (A:Around) (outer:List Env) (s:Shared) (H:Hp) (E:XK),bW k (A.deeper (envOfC qual sc s.heap.objs.size f bf)) ->
   ∃t,d0 (ff aP P w K mg base N qual sc f bf A outer s H E).nj body t/\df K t as)(iJ:∀us A Q,bg us A Q->us.length=ps.length/\as { nx:=fun _ A'=>Fg Q .ay A',rt:=Fg Q } (aStart N us) A):cz P w K mg base aP (k+1) f fd ps (aW K bg):=by
 refine F.DJ hs hb S (fun vs H Q E ⟨us,A,Q',r,g,h,_⟩=>?_) fun S bf A outer s H vs Q E hr ⟨us,A',Q',r,g,h,k⟩=>?_
 .rw[<- r.length];exact(iJ us A Q' h).1
 .obtain⟨t,ht,ha⟩:=cT S bf A outer s H E hr;exact⟨t,ht,ha _ _ _ _ _ _ (aU.start N r) g (iJ us A' Q' h).2 ⟨fun ρ A σ H' k' g' s' ⟨A3,e,q'⟩=>k _ _ _ _ k' (g'.ext e) .ay q',fun u A v H' k' g' r' ⟨A3,e,q'⟩=>k _ _ _ _ k' (g'.ext e) r' q',fun _ _ _ _ _ _ _ q=>q.elim,fun _ _ _ _ _ _ _ q=>q.elim⟩⟩
def AQ:bP:=fun us A Q=>∃ns:List Int,us=[.bK (ns.map U.int)]/\ns.length<=63/\∀A',Q (.bl true) A'
def Sg{ns:List Int}(hl:ns.length<=63)(hO:Ab H)(hS:aZ K H a (ns.map V.int)):aW K AQ [.ref a] H (fun v _=>v=.bl true) E:=by
 have hR:sA K H a (ns.map V.int):=by
  rcases hS with(h|h)|h
  .rcases hO a with e|⟨o,xs,e⟩<;>rw[e]at h<;>cases h
  .exact .inl h
  .exact .inr h
 exact⟨[.bK (ns.map U.int)],fun _=>none,fun u _=>u=.bl true,.one (.bK hR aJ.jx),(fun a o e=>by cases e),⟨ns,rfl,hl,fun _=>rfl⟩,fun u A v H' _ _ r e=>by subst e;cases r;rfl⟩
end
def xO:U->aw->(Bool->aw->Prop)->Prop:=fun x A1 Q=>match x with
 | .ref p=>∃us,A1 p=some (.lst us)/\Q (!us.isEmpty) A1
 | .tup us=>Q (!us.isEmpty) A1
 | .bl b=>Q b A1
 | .int i=>Q (i != 0) A1
 | .ay=>Q false A1
 | _=>False
def Lc(a:AE):AT:=fun ρ A Q=>a ρ A fun x A1=>xO x A1 Q
def aJ.empty{K:au}(r:aJ K H us vs):vs.isEmpty=us.isEmpty:=by cases r<;>rfl
def ZiS{K:au}(ha:aV K t a):g_ K (fun σ H Q=>t σ H fun x H'=>∃k,C5 K x H' k/\Q k H') (Lc a):=fun ρ A σ H Q' Q hs g w k =>
 ha ρ A σ H _ _ hs g w fun x A1 v H1 k1 g1 r1 q1=>by
  cases r1 with
  | ref p =>
   obtain⟨us,e,q1⟩:=q1
   obtain⟨vs,h1,r1⟩:=g1.list e
   exact⟨_,.inl ⟨vs,aZ.of h1,rfl⟩,k _ _ _ k1 g1 (by rw[r1.empty];exact q1)⟩
  | tup h r=>exact⟨_,.inr (.inl ⟨_,h,rfl⟩),k _ _ _ k1 g1 (by rw[r.empty];exact q1)⟩
  | bl b=>exact⟨b,rfl,k _ _ _ k1 g1 q1⟩
  | int i=>exact⟨_,rfl,k _ _ _ k1 g1 q1⟩
  | ay=>exact⟨_,rfl,k _ _ _ k1 g1 q1⟩
  | _=>exact q1.elim
def Zu3:(Lc a ρ A B)=(a ρ A fun x A1=>xO x A1 B):=rfl
def Zpq:(xO (.ref p) A B)=(∃us,A p=some (.lst us)/\B (!us.isEmpty) A):=rfl
def Zrr:(xO (.tup us) A B)=(B (!us.isEmpty) A):=rfl
def Zp4:(xO (.bl k) A B)=(B k A):=rfl
section
variable{J:dk}{g:AG}{b:AS}{D:jy}{ρ:aQ}{A:aw}
theorem AR(items:List U)(Pv:Nat->aQ->aw->Prop)(h0:Pv 0 ρ A)(hJ:∀k ρ A,k<=items.length->Pv k ρ A->J k A items[k]?)(hs:∀k u ρ A,items[k]? = some u->Pv k ρ A->g u ρ A fun dM A2=>b { D with nx:=Pv (k+1),ct:=Pv (k+1),bk:=D.nx } dM A2)(hd:∀ρ A,Pv items.length ρ A->D.nx ρ A):sD J g b D ρ A:=by
 refine⟨fun k m ρ A=>m=items.length-k/\k<=items.length/\Pv k ρ A,⟨_,rfl,Y9 _,h0⟩,?_⟩;rintro k m ρ A ⟨rfl,hk,p⟩;have j:=hJ k ρ A hk p;by_cases bq:k<items.length
 .rw[Yh bq]at j;exact .inr ⟨_,j,Pv (k+1),fun dg A' p'=>⟨items.length-(k+1),by lia,rfl,bq,p'⟩,hs k _ ρ A (Yh bq) p⟩
 .have e:k=items.length:=by lia
  subst e;rw[Y3 (Yk _)]at j;exact .inl ⟨j,hd ρ A p⟩
def Ld(Pv:Nat->aQ->aw->Prop)(h0:Pv 0 ρ A)(hs:∀k u ρ A,us[k]? = some u->Pv k ρ A->g u ρ A fun dM A2=>b { D with nx:=Pv (k+1),ct:=Pv (k+1),bk:=D.nx } dM A2)(hd:∀ρ A,Pv us.length ρ A->D.nx ρ A):sD (dF us) g b D ρ A :=
 AR us Pv h0 (fun _ _ _ _ _=>rfl) hs hd
def nK(us:List U)(Pv:Nat->aQ->aw->Prop)(h0:Pv 0 ρ A)(hl:∀k ρ A,k<=us.length->Pv k ρ A->A a=some (.lst us))(hs:∀k u ρ A,us[k]? = some u->Pv k ρ A->g u ρ A fun dM A2=>b { D with nx:=Pv (k+1),ct:=Pv (k+1),bk:=D.nx } dM A2)(hd:∀ρ A,Pv us.length ρ A->D.nx ρ A):sD (sE a) g b D ρ A :=
 AR us Pv h0 (fun k ρ A hk p=>⟨us,hl k ρ A hk p,rfl⟩) hs hd
def sJ{lo:Int}(Pv:Nat->aQ->aw->Prop)(h0:Pv 0 ρ A)(hs:∀(k:Nat) ρ A,k<n->Pv k ρ A->g (.int (lo+k)) ρ A fun dM A2=>b { D with nx:=Pv (k+1),ct:=Pv (k+1),bk:=D.nx } dM A2)(hd:∀ρ A,Pv n ρ A->D.nx ρ A):sD (dF (mm lo n)) g b D ρ A :=
 AR (mm lo n) Pv h0 (fun k ρ A hk p=>rfl) (fun k u ρ A hu p=>by
  rw[Er]at hu
  by_cases h:k<n
  .rw[if_pos h]at hu;cases hu;exact hs k ρ A h p
  .rw[if_neg h]at hu;cases hu) (by rw[et];exact hd)
end
def dN{A:aw}(h:A a=some o)(h':A b=none):a≠b:=fun e=>by rw[e,h']at h;cases h
section
variable{J:dk}{g:AG}{tt:AT}{te:AE}{l:Addr}{Q:bc}{τ:aQ}{A:aw}
theorem Lf(items:List U)(p:Nat->Bool)(f:Nat->U)(T:aQ->Prop)(h0:T τ)(hl:A l=none)(hn:items.length<=100000)(hJ:∀ k A2,k<=items.length->Ext A A2->J k A2 items[k]?)(hs : ∀ k u τ A2,items[k]? = some u->T τ->Ext A A2->∀ (Cy:aQ->U->aw->Prop) (Cn:aQ->aw->Prop),(p k=true->∀ aR,T aR->Cy aR (f k) A2)->(p k=false->∀ aR,T aR->Cn aR A2) ->
   g u τ A2 fun aR A3=>tt aR A3 fun ok A4=>if ok=true then te aR A4 (Cy aR)else Cn aR A4)(hd:Q (.ref l) (af A l (.lst (((List.range items.length).filter p).map f)))):nH J g tt te l Q τ (af A l (.lst [])):=by
 refine⟨fun i m τ A2=>m=items.length-i/\i<=items.length/\T τ/\A2=af A l (.lst (((List.range i).filter p).map f)),⟨_,rfl,Y9 _,h0,rfl⟩,?_⟩;rintro i m τ A2 ⟨rfl,hi,ht,rfl⟩;have j:=hJ i _ hi (Ext.new (o:=.lst (((List.range i).filter p).map f)) hl);by_cases bq:i<items.length
 .have hu:items[i]? = some items[i]:=Yh bq;rw[hu]at j;refine .inr ⟨_,j,hs i _ τ _ hu ht (Ext.new hl) _ _ (fun hp aR kf=>⟨_,Zb,?_,_,?_,rfl,bq,kf,?_⟩) (fun hp aR kf=>⟨_,?_,rfl,bq,kf,?_⟩)⟩
  .have:(((List.range i).filter p).map f).length<=i:=by rw[Yc];exact YB (List.length_filter_le ..) (by simp)
   have:(100000:Nat)<sizeLine:=by decide
   lia
  .lia
  .rw[ZF,List.range_succ,zG,Yt];simp[hp]
  .lia
  .rw[List.range_succ,zG,Yt];simp[hp]
 .have e:i=items.length:=by lia
  subst e;rw[Y3 (Yk _)]at j;exact .inl ⟨j,hd⟩
def Sh(items ys:List U)(hlen:ys.length=items.length)(hl:A l=none)(hn:items.length<=100000)(hJ:∀k A2,k<=items.length->Ext A A2->J k A2 items[k]?)(hs:∀(k:Nat) u y A2,items[k]? = some u->ys[k]? = some y->Ext A A2->∀Cy:U->aw->Prop,Cy y A2->te (some u::fr) A2 Cy)(hd:Q (.ref l) (af A l (.lst ys))):nH J (ml 0) qq te l Q (x0::fr) (af A l (.lst [])):=by
 refine Lf items (fun _=>true) (fun k=>(ys[k]?).getD .ay) (fun τ=>∃x,τ=x::fr) ⟨_,rfl⟩ hl hn hJ ?_ ?_
 .rintro k u τ A2 hu ⟨x,rfl⟩ he Cy Cn hy iT;show if true=true then te (some u::fr) A2 (Cy (some u::fr))else Cn (some u::fr) A2;rw[if_pos rfl];have hk:k<ys.length:=by rw[hlen];exact(Yg.mp hu).1
  have Lg:ys[k]? = some ys[k]:=Yh hk;refine hs k u _ A2 hu Lg he _ ?_;have:=hy rfl (some u::fr) ⟨_,rfl⟩;rw[Lg]at this;exact this
 .have e:((List.range items.length).filter fun _=>true).map (fun k=>(ys[k]?).getD .ay)=ys:=by
   rw[zF.mpr (fun _ _=>rfl),<- hlen];apply IX
   .simp
   .intro i h1 h2;simp[Yh h2]
  rw[e];exact hd
def Lh(items:List U)(p:Nat->Bool)(f:Nat->U)(hl:A l=none)(hn:items.length<=100000)(hJ:∀k A2,k<=items.length->Ext A A2->J k A2 items[k]?)(hs:∀(k:Nat) u A2,items[k]? = some u->Ext A A2->∀(Cy:U->aw->Prop)(Cn:aw->Prop),(p k=true->Cy (f k) A2)->(p k=false->Cn A2)->tt (some u::fr) A2 fun ok A4=>if ok=true then te (some u::fr) A4 Cy else Cn A4)(hd:Q (.ref l) (af A l (.lst (((List.range items.length).filter p).map f)))):nH J (ml 0) tt te l Q (x0::fr) (af A l (.lst [])):=by
 refine Lf items p f (fun τ=>∃x,τ=x::fr) ⟨_,rfl⟩ hl hn hJ ?_ hd;rintro k u τ A2 hu ⟨x,rfl⟩ he Cy Cn hy iT;exact hs k u A2 hu he _ _ (fun h=>hy h _ ⟨_,rfl⟩) fun h=>iT h _ ⟨_,rfl⟩
end
section
variable{X:Cx}
inductive xP (K:au) (H:Hp):V->Value->Prop
 | of {x:V} {t:Value}:j0 K H x t->xP K H x t
 | tup {a:Addr} {xs:List V}:bo K H a xs->xP K H (.ref a) (.type "tuple")
def ED(K:au):List V->Hp->VK->Prop:=fun xs H Q=>match xs with
 | [x,.ty n]=>∃t b,xP K H x t/\PySem.W.kitOne K t (.type n)=some b/\Q (.bl b) H
 | [x,.ref c]=>∃t b,xP K H x t/\PySem.W.kitOne K t (.ref c)=some b/\Q (.bl b) H
 | _=>False
def Si:Z4 X (.builtin "isinstance") (ED X.K):=by
 intro pins s σ H xs us Q I r h;have go:∀(x:V)(u t:Value)(c:Value)(b:Bool),aX x u->xP X.K H x t->PySem.W.kitOne X.K t c=some b->Q (.bl b) H->wpAny (model X.prog X.w) X.A (call (.builtin "isinstance") [u,c]) (EP X pins σ Q) X.xe s:=by
  intro x u t c b rx ty e q;cases ty with
  | of ty=>exact JJ I rx ty e fun tk=>⟨.bl b,H,I.tok _,rfl,q⟩
  | tup hq =>
   cases rx;obtain⟨its,rv,⟨o,h1,h2,h3⟩,hz⟩:=I.tuple hq;exact Y5 II I.br ⟨o,h1,h2⟩ e (fun z=>nomatch z) fun tk=>⟨.bl b,H,I.tok _,rfl,q⟩
 unfold ED at h;split at h
 .obtain⟨t,b,ty,e,q⟩:=h;cases r with
  | cons r1 r2 =>
   cases r2 with
   | cons r2 r3 =>
    cases r3;cases r2;exact go _ _ _ _ _ r1 ty e q
 .obtain⟨t,b,ty,e,q⟩:=h;cases r with
  | cons r1 r2 =>
   cases r2 with
   | cons r2 r3 =>
    cases r3;cases r2;exact go _ _ _ _ _ r1 ty e q
 .exact h.elim
end
section
variable{K:au}
def Li(u:U)(n:String):Bool:=match u with
 | .ay=>n == "NoneType"
 | .bl _=>n == "bool" || n == "int"
 | .int _=>n == "int"
 | .str _=>n == "str"
 | .tup _=>n == "tuple"
 | _=>false
def EE:List U->aw->bc->Prop:=fun us A Q=>match us with
 | [u,.ty n]=>(n="int"\/n="bool"\/n="str"\/n="tuple")/\(match u with|.bK _=>False|.ref _=>False|.ty _=>False|_=>True)/\Q (.bl (Li u n)) A
 | _=>False
def ZrH:hG K (ED K) EE:=fun xs us A H Q' Q r g h k=>by
 unfold EE at h
 split at h
 .rename_i u n
  obtain⟨hn,hu,h⟩:=h
  obtain⟨v,x,rfl,r1,r2⟩:=r.inv2
  cases r2
  cases r1 with
  | ay=>rcases hn with rfl|rfl|rfl|rfl<;>exact⟨_,_,.of .ay,rfl,k _ _ _ _ (.refl H) g (.bl _) h⟩
  | bl b=>rcases hn with rfl|rfl|rfl|rfl<;>exact⟨_,_,.of (.bl b),rfl,k _ _ _ _ (.refl H) g (.bl _) h⟩
  | int b=>rcases hn with rfl|rfl|rfl|rfl<;>exact⟨_,_,.of (.int b),rfl,k _ _ _ _ (.refl H) g (.bl _) h⟩
  | str b=>rcases hn with rfl|rfl|rfl|rfl<;>exact⟨_,_,.of (.str b),rfl,k _ _ _ _ (.refl H) g (.bl _) h⟩
  | tup h1 r1=>rcases hn with rfl|rfl|rfl|rfl<;>exact⟨_,_,.tup h1,rfl,k _ _ _ _ (.refl H) g (.bl _) h⟩
  | ty _=>exact hu.elim
  | ref _=>exact hu.elim
  | bK _ _=>exact hu.elim
 .exact h.elim
def ZuM:(EE [u,.ty n] A Q)=((n="int"\/n="bool"\/n="str"\/n="tuple")/\(match u with|.bK _=>False|.ref _=>False|.ty _=>False|_=>True)/\Q (.bl (Li u n)) A):=rfl
def EF:U->List U->aw->bc->Prop:=fun u us A Q=>match us with
 | [.str z]=>∃(ss:List Str)(j:Nat),(u=.tup (ss.map U.str)\/∃a,u=.ref a/\A a=some (.lst (ss.map U.str)))/\ss[j]? = some z/\(∀m,m<j->ss[m]?≠some z)/\Q (.int j) A
 | _=>False
def Zop:oW K (KI fun x ss H=>∃a,x=.ref a/\H a=some (.lst (ss.map V.str))) (fun u us A Q=>(∃a,u=.ref a)/\EF u us A Q):=fun x u xs us A H Q' Q r rs g aD k=>by
 obtain⟨⟨a,ea⟩,h⟩:=aD
 unfold EF at h
 split at h
 .obtain⟨ss,j,hu,e1,e2,h⟩:=h
  obtain⟨v,rfl,rv⟩:=rs.inv1
  cases rv
  rcases hu with rfl|⟨b,rfl,hb⟩
  .cases ea
  .cases r
   obtain⟨vs,h1,r1⟩:=g.list hb
   exact⟨ss,_,j,⟨b,rfl,by rw[h1,r1.strs]⟩,rfl,e1,e2,k _ _ _ _ (.refl H) g (.int _) h⟩
 .exact h.elim
end
def qw{x:U}:[x].length<=sizeLine:=by show 1<=sizeLine;decide
def bI{x y:U}:[x,y].length<=sizeLine:=by show 2<=sizeLine;decide
def Sj{x y z:U}:[x,y,z].length<=sizeLine:=by show 3<=sizeLine;decide
def EG(h:n<=100000):n<=sizeLine:=YB h (by decide)
def ZT(h:n<=100000):n<sizeLine:=Nat.lt_of_le_of_lt h (by decide)
def fg(h:Q u A):Fg Q u A:=⟨A,Ext.refl A,h⟩
def sL(e:Ext A A')(h:Q u A):Fg Q u A':=⟨A,e,h⟩
def kg{X Y:Prop}(h1:b=true->X)(h2:b=false->Y):if b=true then X else Y:=by
 cases b
 .exact jw (by decide) (h2 rfl)
 .exact gI rfl (h1 rfl)
def ZH{X Y:Prop}(hb:b=true)(h:X):if b=true then X else Y:=gI hb h
def Zm{X Y:Prop}(hb:b=false)(h:Y):if b=true then X else Y:=jw (by rw[hb];decide) h
def ZqG:((fun(u:U)(us:List U)(A:aw)(Q:bc)=>(∃a,u=.ref a)/\EF u us A Q) (.ref p) [.str z] A Q)=(∃(ss:List Str)(j:Nat),A p=some (.lst (ss.map U.str))/\ss[j]? = some z/\(∀m,m<j->ss[m]?≠some z)/\Q (.int j) A):=by
 refine propext ⟨fun⟨_,ss,j,h,h1,h2,h3⟩=>?_,fun⟨ss,j,h,h1,h2,h3⟩=>⟨⟨p,rfl⟩,ss,j,.inr ⟨p,rfl,h⟩,h1,h2,h3⟩⟩;rcases h with h|⟨a,e,h⟩
 .cases h
 .cases e;exact⟨ss,j,h,h1,h2,h3⟩
def Ext.put(e:Ext A A2):Ext (af A a o) (af A2 a o):=fun b u h=>by
 by_cases hb:b=a
 .subst hb;rw[Zb]at h ⊢;exact h
 .rw[Zi hb]at h ⊢;exact e b u h
def Sk(h:a≠l):af (af A a x) l y=af (af A l y) a x:=by
 funext b;unfold af;by_cases h1:b=l
 .rw[if_pos h1,if_neg (fun e=>h (e.symm.trans h1)),if_pos h1]
 .rw[if_neg h1];by_cases h2:b=a
  .rw[if_pos h2,if_pos h2]
  .rw[if_neg h2,if_neg h2,if_neg h1]
def Lj{ns:List Int}{i:Int}(h0:0<=i)(h:i<ns.length):∃z,bX (ns.map U.int) i=some (.int z)/\ns[i.toNat]? = some z:=by
 obtain⟨v,h1,h2⟩:=Kw (xs:=ns.map U.int) (i:=i) h0 (by rw[Yc];exact h);rw[Yj]at h2;obtain⟨z,hz,rfl⟩:=YM.mp h2;exact⟨z,h1,hz⟩
def Z0{α β:Type}{f:α->β}{xs:List α}{k:Nat}{u:β}(h:(xs.map f)[k]? = some u):∃x,xs[k]? = some x/\u=f x:=by
 rw[Yj]at h;obtain⟨x,hx,rfl⟩:=YM.mp h;exact⟨x,hx,rfl⟩
def o5{K:au}{st:Stmt}(F:iW K x qual st f fd)(S:gU N ps (ZI st))(h:∀us A Q,¬bg us A Q):cz P w K mg base aP k f fd ps (aW K bg) :=
 ⟨fun vs H Q E ⟨us,A,Q',_,_,q,_⟩=>(h us A Q' q).elim,fun A outer s H args us vs Q E _ _ _ _ ⟨ws,A',Q',_,_,q,_⟩=>(h ws A' Q' q).elim⟩
theorem ki(i j:Nat):(((i:Nat):Int)==((j:Nat):Int))=(i==j):=by
 by_cases h:i=j
 .subst h;simp
 .rw[Yx.mpr h,Yx.mpr (by lia)]
def Lk(K:au):V->Hp->(It->Hp->Prop)->Prop:=fun x H R=>Kt K x H R\/Ku K x H R
section
variable{X:Cx}{tg a:Expr}{te:TE}{ta:TA}{p pos tp:Pos}{elts:List Expr}{k0:Nat}
def Z5(hl:PE X a te):PI X tg a (xr (Lk X.K) te):=by
 intro pins s σ H R I h;refine aK (hl pins s σ H _ I h) fun v s1 aH=>?_;obtain⟨x,H1,I1,r1,q1⟩:=aH;have fp:∀b∈[s1.heap.objs.size],gG X pins H1 b:=fun b hb=>by
  obtain rfl:b=s1.heap.objs.size:=by simpa using hb
  exact I1.fZ (Yk _) (I1.aE.fresh (Yk _))
 have J1:∀o,Inv X pins σ H1 { s1 with heap:=s1.heap.push o }:=fun o=>I1.kept (t':=s1.toks) fun b u e=>Yd _ e;cases x with
 | ref l =>
  cases r1;rcases q1 with⟨⟨xs,hq⟩,q⟩|⟨⟨xs,hq⟩,q⟩
  .obtain⟨its,rv,pl,hz⟩:=I1.list hq;exact uL pl.isList ⟨s1.heap.objs.size,[s1.heap.objs.size],_,_,H1,rfl,J1 _,PD l _,⟨_,Yl _ rfl,rfl,rfl⟩,fp,q⟩
  .obtain⟨its,rv,pl,hz⟩:=I1.tuple hq;exact Cs (show s1.heap.IsTuple l its.toArray from pl) ⟨s1.heap.objs.size,[s1.heap.objs.size],_,_,H1,rfl,J1 _,PF l _,⟨_,Yl _ rfl,rfl,rfl⟩,fp,q⟩
 | _=>rcases q1 with q|q<;>exact q.elim
def Ll(K:au):List V->Hp->(It->Hp->Prop)->Prop:=fun vs H R=>D8 K vs H R\/Eb K vs H R
def Sl(hg:Gl X "enumerate")(hm:X.mg "enumerate"=none)(ha:PA X [a] ta)(hs:starEach [a] X.env=[(false,eval a X.env)]:=by rfl):
  PI X (.Tuple elts k0 tp) (.Call (.Name "enumerate" p) [a] [] pos) (Aq (Ll X.K) ta):=by
 intro pins s σ H R I h;refine Call_ (oB I hg hm RA (wm (aK (ha pos pins s σ H _ I h) fun us s1 ⟨vs,H1,I1,r1,q1⟩=>?_) hs rfl));have fp:∀b∈[s1.heap.objs.size+1,s1.heap.objs.size],gG X pins H1 b:=fun b hb=>by
  have nM:s1.heap.objs.size<=b:=by
   simp only[Yp,YN,fH]at hb;rcases hb with e|e<;>subst e<;>first|exact IW _ _|exact Yk _
  exact I1.fZ nM (I1.aE.fresh nM)
 rcases q1 with q1|q1
 .unfold D8 at q1;split at q1
  .obtain⟨⟨xs,hx⟩,q⟩:=q1;cases r1 with
   | cons r rr =>
    cases rr;cases r;obtain⟨its,rv,pl,_⟩:=I1.list hx;exact call_enumerate_list pl.isList fun h' a1 a2 a3 hk=>zH a1 ⟨s1.heap.objs.size+1,_,_,_,H1,rfl,I1.kept (t':=s1.toks) hk,Rz (Nat.succ_ne_self _),⟨⟨_,a1⟩,a2⟩,fp,q⟩
  .exact q1.elim
 .unfold Eb at q1;split at q1
  .obtain⟨⟨xs,hx⟩,q⟩:=q1;cases r1 with
   | cons r rr =>
    cases rr;cases r;obtain⟨its,rv,pl,_⟩:=I1.tuple hx;exact RM pl fun h' a1 a2 hk=>zH a1 ⟨s1.heap.objs.size+1,_,_,_,H1,rfl,I1.kept (t':=s1.toks) hk,RT (Nat.succ_ne_self _),⟨⟨_,a1⟩,a2⟩,fp,q⟩
  .exact q1.elim
end
section
variable{K:au}
def xQ:U->aw->(dk->aw->Prop)->Prop:=fun u A R=>match u with
 | .ref a=>(∃us,A a=some (.lst us))/\R (sE a) A
 | .bK us=>R (dF us) A
 | .tup us=>R (dF us) A
 | _=>False
def ZbD:sF K (Lk K) xQ:=fun x v A H R' R r g w k=>by
 cases r with
 | ref a=>exact .inl (K5 (.ref a) _ A H R' R (.ref a) g w k)
 | bK h1 r1=>exact .inl (K5 _ _ A H R' R (.bK h1 r1) g w k)
 | tup h1 r1=>exact .inr (R5 _ _ A H R' R (.tup h1 r1) g w k)
 | _=>exact w.elim
def xR:List U->aw->(dk->aw->Prop)->Prop:=fun us A R=>match us with
 | [.ref a]=>(∃us,A a=some (.lst us))/\R (AF a) A
 | [.bK us]=>R (dF (gJ us)) A
 | [.tup us]=>R (dF (gJ us)) A
 | _=>False
def Zje:vk K (Ll K) xR:=fun x v A H R' R r g w k=>by
 unfold xR at w
 split at w
 .exact .inl (K8 _ _ A H R' R r g w k)
 .exact .inl (K8 _ _ A H R' R r g w k)
 .exact .inr (R_ _ _ A H R' R r g w k)
 .exact w.elim
variable{A:aw}{R:dk->aw->Prop}{p:Addr}{us:List U}
def Ztb:(xQ (.ref p) A R)=((∃us,A p=some (.lst us))/\R (sE p) A):=rfl
def Ztm:(xQ (.bK us) A R)=(R (dF us) A):=rfl
def ZtC:(xQ (.tup us) A R)=(R (dF us) A):=rfl
def ZsB:(xR [.ref p] A R)=((∃us,A p=some (.lst us))/\R (AF p) A):=rfl
def Zrm:(xR [.bK us] A R)=(R (dF (gJ us)) A):=rfl
def Zqh:(xR [.tup us] A R)=(R (dF (gJ us)) A):=rfl
end
section
variable{X:Cx}
def Lm(K:au):V->List V->Hp->VK->Prop:=fun x vs H Q=>Dl x vs H Q\/Ed K x vs H Q
def Ln:xh X "list.extend" (Lm X.K):=fun pins s σ H x vs v us Q I rx rv h=>by
 rcases h with h|h
 .exact QU pins s σ H x vs v us Q I rx rv h
 .exact RX pins s σ H x vs v us Q I rx rv h
variable{K:au}
def AU:U->List U->aw->bc->Prop:=fun u us A Q=>match u,us with
 | .ref a,[.tup ws]=>∃xs,A a=some (.lst xs)/\xs.length+ws.length<=sizeLine/\Q .ay (af A a (.lst (xs++ws)))
 | .ref a,[.ref b]=>∃xs ws,A a=some (.lst xs)/\A b=some (.lst ws)/\xs.length+ws.length<=sizeLine/\Q .ay (af A a (.lst (xs++ws)))
 | _,_=>False
def ZkQ:oW K (Lm K) AU:=fun x u xs us A H Q' Q r rs g h k=>by
 unfold AU at h
 split at h
 .exact .inr (Sd _ _ _ _ A H Q' Q r rs g h k)
 .exact .inl (Se _ _ _ _ A H Q' Q r rs g h k)
 .exact h.elim
def Zsp:(AU (.ref p) [.tup us] A Q)=(∃xs,A p=some (.lst xs)/\xs.length+us.length<=sizeLine/\Q .ay (af A p (.lst (xs++us)))):=rfl
def ZrB:(AU (.ref p) [.ref q] A Q)=(∃xs ws,A p=some (.lst xs)/\A q=some (.lst ws)/\xs.length+ws.length<=sizeLine/\Q .ay (af A p (.lst (xs++ws)))):=rfl
end
def eu{α:Type}(xs:List α)(lo hi:Option Int):List α:=(xs.drop (HT.aO xs.length 0 lo)).take (HT.aO xs.length xs.length hi-HT.aO xs.length 0 lo)
def o6(f:α->U)(xs:List α)(lo hi:Option Int):ke (xs.map f) lo hi=(eu xs lo hi).map f:=by
 unfold ke eu;rw[Yc,wD,List.map_drop]
end L2
set_option maxHeartbeats 4000000
namespace SortA
open PySem PySem.W PyProof.Rows
def PB(n:Nat)(p:Array Nat):Prop:=1<=n/\p.size=n/\∀x∈p.toList,x<n
section
variable{n:Nat}{lt:Nat->Nat->Bool}
def Le(lt:Nat->Nat->Bool)(p:Array Nat)(i j:Nat):Prop:=lt (p.getD j 0) (p.getD i 0)=false
def Dn(lt:Nat->Nat->Bool)(p:Array Nat)(m:Nat):Prop:=∀i j,i<j->j<m->Le lt p j i
end
end SortA
namespace N2
open PySem PyProof.Rows
end N2
namespace N2
open PySem PyProof.Rows PySem.F
end N2
namespace L2
open PySem PySem.Spec PyProof.Rows N2
theorem Lo:∀ {xs:List V} {us:List Value} {i:Nat} {u:Value},ZU xs us->us[i]? = some u->∃x,xs[i]? = some x/\aX x u
 | _,_,_,_,.nil,e=>by simp at e
 | _,_,0,_,.cons h _,e=>by simp at e;subst e;exact⟨_,rfl,h⟩
 | _,_,i+1,_,.cons _ r,e=>by simp at e;simpa using Lo r e
theorem gH.at{K:au}:∀ {ds:List PyData} {vs:List V} {i:Nat} {v:V},gH K H ds vs->vs[i]? = some v->∃d,ds[i]? = some d/\Rep K H d v
 | _,_,_,_,.nil,e=>by simp at e
 | _,_,0,_,.cons h _,e=>by simp at e;subst e;exact⟨_,rfl,h⟩
 | _,_,i+1,_,.cons _ r,e=>by simp at e;simpa using gH.at r e
theorem gH.len{K:au}:∀ {ds:List PyData} {vs:List V},gH K H ds vs->ds.length=vs.length
 | _,_,.nil=>rfl
 | _,_,.cons _ r=>by rw[List.length_cons,List.length_cons,r.len]
def Kp.ext{K:au}(h:H l=some (.ext φ)):Kp K H (upd H l o'):=⟨fun a xs q=>by
 rcases q with(q|⟨o,q⟩)|q
 .exact .inl (.inl (by rw[Zn (kP q h (by intro z;cases z))];exact q))
 .exact .inl (.inr ⟨o,by rw[Zn (kP q h (by intro z;cases z))];exact q⟩)
 .exact .inr q,fun a xs q=>by
 rcases q with⟨o,q⟩|q
 .exact .inl ⟨o,by rw[Zn (kP q h (by intro z;cases z))];exact q⟩
 .exact .inr q,fun a o u q=>by rw[Zn (kP q h (by intro z;cases z))];exact q⟩
def HR.dO{K:au}(h:HR K H A)(kp:Kp K H (upd H a ob))(new:RO K (upd H a ob) a o):HR K (upd H a ob) (af A a o):=fun b u q=>by
 by_cases hb:b=a
 .subst hb
  rw[Zb]at q
  cases q
  exact new
 .rw[Zi hb]at q
  exact(h b u q).keep kp (Zn hb)
def big(I:Inv X pins σ H s):sysModules<s.heap.objs.size :=
 Nat.lt_trans (by decide) (show mainGlobals<s.heap.objs.size from(I.mod.glob.keeps I.bk).lt)
open PySem PySem.Spec PySem.W PyProof.Rows
open PySem PySem.Spec PyProof.Rows
section
variable{K:au}{H H':Hp}{A:aw}
def cb.cons_inv(h:cb K H (x::fs) gs):∃v xS,gs=(x.1,v)::xS/\RU K H x.2 v/\cb K H fs xS:=by
 obtain⟨h1,h2⟩:=h;cases gs with
 | nil=>simp at h1
 | cons y gs =>
  obtain⟨n,v⟩:=y;simp only[Yr,zI]at h1;cases h2 with
  | cons p q=>exact⟨v,gs,by rw[h1.1],p,h1.2,q⟩
theorem cb.look:∀ {fs:List (Str×U)} {gs:List (Str×V)},cb K H fs gs->fs.lookup f=some u->∃v,gs.lookup f=some v/\RU K H u v
 | [],_,_,e=>by simp at e
 | (n, w)::fs,gs,h,e=>by
  obtain⟨v,xS,rfl,r,t⟩:=h.cons_inv
  by_cases c:f==n
  .rw[List.lookup_cons,c]at e;cases e
   exact⟨v,by rw[List.lookup_cons,c],r⟩
  .have c':(f==n)=false:=by simpa using c
   rw[List.lookup_cons,c']at e
   obtain⟨v',h1,h2⟩:=cb.look t e
   exact⟨v',by rw[List.lookup_cons,c'];exact h1,h2⟩
theorem cb.miss:∀ {fs:List (Str×U)} {gs:List (Str×V)},cb K H fs gs->fs.lookup f=none->gs.lookup f=none
 | [],_,⟨h1,_⟩,_=>by
  cases ‹List (Str×V)› with
  | nil=>rfl
  | cons y gs=>simp at h1
 | (n, w)::fs,gs,h,e=>by
  obtain⟨v,xS,rfl,r,t⟩:=h.cons_inv
  by_cases c:f==n
  .rw[List.lookup_cons,c]at e;cases e
  .have c':(f==n)=false:=by simpa using c
   rw[List.lookup_cons,c']at e ⊢
   exact cb.miss t e
def cb.len(h:cb K H fs gs):fs.length=gs.length:=by
 have:=congrArg List.length h.1;simpa using this
def cb.same(e:Kp K H H')(h:cb K H fs gs):cb K H' fs gs:=⟨h.1,h.2.same e⟩
def a7(f:Str)(u:U):List (Str×U)->List (Str×U)
 | []=>[(f,u)]
 | (g,x)::r=>if g=f then(g,u)::r else(g,x)::a7 f u r
theorem cb.put(hu:RU K H u v):∀ {fs:List (Str×U)} {gs:List (Str×V)},cb K H fs gs->cb K H (a7 f u fs) (de f v gs)
 | [],gs,h=>by
  cases gs with
  | nil=>exact⟨rfl,.one hu⟩
  | cons y gs=>have:=h.1;simp at this
 | (n, w)::fs,gs,h=>by
  obtain⟨x,xS,rfl,r,t⟩:=h.cons_inv
  by_cases c:n=f
  .simp only[a7,de,if_pos c]
   exact⟨by simp[t.1],.cons hu t.2⟩
  .simp only[a7,de,if_neg c]
   have:=cb.put (f:=f) hu t
   exact⟨by simp[this.1],.cons r this.2⟩
def HR.ins(g:HR K H A)(e:A a=some (.ins C dx fs)):∃gs,H a=some (.ins C dx gs)/\cb K H fs gs:=g a _ e
def HR.EH(g:HR K H A)(e:H a=some (.ins C dx gs0))(r:cb K H fs gs):HR K (upd H a (.ins C dx gs)) (af A a (.ins C dx fs)) :=
 g.dO (Kp.ins e) ⟨gs,Zs,r.same (Kp.ins e)⟩
def Lp(K:au)(aa:AE)(f:Str):AE:=fun ρ A Q=>aa ρ A fun x A1=>∃a C dx fs u,x=.ref a/\A1 a=some (.ins C dx fs)/\eX K C/\f7 K C f/\fs.lookup f=some u/\Q u A1
def ZbK(h:aV K ta aa):aV K (JH K ta f) (Lp K aa f):=fun ρ A σ H Q' Q hs g w k =>
 h ρ A σ H _ _ hs g w fun x A1 v H1 k1 g1 r1 aD=>by
  obtain⟨a,C,dx,fs,u,e1,e2,c,n,l,q⟩:=aD
  subst e1
  cases r1
  obtain⟨gs,h1,h2⟩:=g1.ins e2
  obtain⟨v,h3,h4⟩:=h2.look l
  exact⟨a,C,dx,gs,v,rfl,h1,c,n,h3,k _ _ _ _ k1 g1 h4 q⟩
def Lq(K:au)(aa av:AE)(f:Str):AS:=fun D ρ A=>av ρ A fun y A1=>aa ρ A1 fun x A2=>∃a C dx fs,x=.ref a/\A2 a=some (.ins C dx fs)/\eX K C/\f7 K C f/\fs.length<1000/\D.nx ρ (af A2 a (.ins C dx (a7 f y fs)))
def ZaQ(ha:aV K ta aa)(hv:aV K tv av):df K (JI K ta tv f) (Lq K aa av f):=fun ρ A σ H D' D hs g w k =>
 hv ρ A σ H _ _ hs g w fun y A1 v1 H1 k1 g1 r1 q1=>ha ρ A1 σ H1 _ _ (hs.same k1) g1 q1 fun x A2 v2 H2 k2 g2 r2 aD=>by
  obtain⟨a,C,dx,fs,e1,e2,c,n,l,q⟩:=aD
  subst e1
  cases r2
  obtain⟨gs,h1,h2⟩:=g2.ins e2
  have kp:Kp K H2 (upd H2 a (.ins C dx (de f v1 gs))):=Kp.ins h1
  exact⟨a,C,dx,gs,rfl,h1,c,n,by rw[<- h2.len];exact l,k.nx _ _ _ _ (k1.trans (k2.trans kp)) (g2.EH h1 (h2.put (r1.same k2))) (hs.same (k1.trans (k2.trans kp))) q⟩
def Lr(C:Addr)(bg:bP)(l:AA):AE:=fun ρ A Q=>l ρ A fun us A1=>∀x dx,A1 x=none->bg (.ref x::us) (af A1 x (.ins C dx [])) (fun u A2=>u=.ay/\Q (.ref x) A2)
def ZoN(hl:fk K t l):aV K (JK C (aW K bg) [] E t) (Lr C bg l):=fun ρ A σ H Q' Q hs g w k =>
 hl ρ A σ H _ _ hs g w fun us A1 vs H1 k1 g1 r1 q1 x dx hx xT aT=>by
  have s1:a_ H1 (upd H1 dx (.own x)):=a_.az xT
  have sd:upd H1 dx (.own x) x=none:=by rw[Zn (Ne.symm aT)];exact hx
  have s2:a_ (upd H1 dx (.own x)) (upd (upd H1 dx (.own x)) x (.ins C dx [])):=a_.az sd
  have g2:HR K (upd (upd H1 dx (.own x)) x (.ins C dx [])) (af A1 x (.ins C dx [])):=(g1.grow s1).dO s2.kp ⟨[],Zs,rfl,.nil⟩
  refine⟨.ref x::us,_,_,.cons (.ref x) (by rw[YW];exact r1.same (s1.kp.trans s2.kp)),g2,q1 x dx (g1.none hx),fun u A3 v3 H3 k3 g3 r3 aH=>?_⟩
  obtain⟨e,q3⟩:=aH
  subst e
  cases r3
  exact⟨rfl,k _ _ _ _ (k1.trans ((s1.kp.trans s2.kp).trans k3)) g3 (.ref x) q3⟩
end
section
variable{X:Cx}
theorem AV:∀ {ts:List Str} {us:List Value},ZU (ts.map V.str) us->∃l:List (Str×Tok),us=strValues l/\l.map (·.1)=ts
 | [],_,.nil=>⟨[],rfl,rfl⟩
 | z :: ts,_,.cons r h=>by
  obtain⟨t,rfl⟩:=r
  obtain⟨l,rfl,e⟩:=AV h
  exact⟨(z,t)::l,rfl,by rw[Yr,e]⟩
def Ls(K:au):V->List V->Hp->VK->Prop:=fun x vs H Q=>∃z p ts,x=.str z/\vs=[.ref p]/\aZ K H p (ts.map V.str)/\JoinOk z ts=true/\Q (.str (Txt.join z ts)) H
def Sm:z9 X "str.join" (Ls X.K):=by
 intro pins s σ H x vs v us Q I rx rv h;obtain⟨z,p,ts,rfl,rfl,hl,aE,q⟩:=h;obtain⟨t,rfl⟩:=rx;obtain⟨u,rfl,ru⟩:=rv.one;cases ru;obtain⟨its,rs,pl,hz⟩:=I.list hl;obtain⟨l,rfl,e⟩:=AV rs;exact SC.join pl.isList e aE fun t' k=>⟨.str _,H,I.tok k,⟨_,rfl⟩,q⟩
end
section
variable{K:au}{H H':Hp}{A:aw}
def EI:U->aw->Prop:=fun u _=>match u with
 | .str _=>True
 | _=>False
def ZkU:Au K "str" EI:=fun x u A H r g h=>by
 unfold EI at h
 split at h
 .cases r;exact(rfl:"str"="str")
 .exact h.elim
def EJ:U->List U->aw->bc->Prop:=fun u us A Q=>match u,us with
 | .str z,[.ref p]=>∃ts,A p=some (.lst (ts.map U.str))/\JoinOk z ts=true/\Q (.str (Txt.join z ts)) A
 | _,_=>False
def Zk8:oW K (Ls K) EJ:=fun x u xs us A H Q' Q r rs g h k=>by
 unfold EJ at h
 split at h
 .cases r
  obtain⟨v,rfl,rv⟩:=rs.inv1
  cases rv
  obtain⟨ts,e,ok,h⟩:=h
  obtain⟨vs,h1,r1⟩:=g.list e
  have:=r1.strs
  subst this
  exact⟨_,_,ts,rfl,rfl,aZ.of h1,ok,k _ _ _ _ (.refl H) g (.str _) h⟩
 .exact h.elim
def DE(pr:Params)(K:au)(e:DictEntry)(x:Str×U):Prop:=(∃t,e.key=.str x.1 t)/\e.hash=PyData.keyHash pr x.1/\∃v,aX v e.val/\∀H,RU K H x.2 v
end
section
variable{K:au}{a:Addr}{kus:List (Str×U)}
variable{u:U}{ρ:aQ}{A:aw}{Q:bc}{aa av:AE}{l:AA}{D:jy}{f m:Str}{C:Addr}{bg:bP}{ar:fo}
def Zq9:EJ (.str z) [.ref p] A Q=∃ts,A p=some (.lst (ts.map U.str))/\JoinOk z ts=true/\Q (.str (Txt.join z ts)) A:=rfl
def ZoP:EI (.str z) A=True:=rfl
def Ztq:Lp K aa f ρ A Q=aa ρ A fun x A1=>∃a C dx fs u,x=.ref a/\A1 a=some (.ins C dx fs)/\eX K C/\f7 K C f/\fs.lookup f=some u/\Q u A1:=rfl
def Zqq:Lq K aa av f D ρ A=av ρ A fun y A1=>aa ρ A1 fun x A2=>∃a C dx fs,x=.ref a/\A2 a=some (.ins C dx fs)/\eX K C/\f7 K C f/\fs.length<1000/\D.nx ρ (af A2 a (.ins C dx (a7 f y fs))):=rfl
def Zr6:Lr C bg l ρ A Q=l ρ A fun us A1=>∀x dx,A1 x=none->bg (.ref x::us) (af A1 x (.ins C dx [])) (fun u A2=>u=.ay/\Q (.ref x) A2):=rfl
end
def nN(c:AT)(t e:AS):AS:=El c t e
def Zce{K:au}(hc:g_ K tc c)(h1:df K t1 a1)(h2:df K t2 a2):df K (CS tc t1 t2) (nN c a1 a2):=Zmi hc h1 h2
def nO(k:Bool)(h1:∀B:Bool->aw->Prop,B k A->c ρ A B)(h2:if k=true then t D ρ A else e D ρ A):nN c t e D ρ A:=h1 _ h2
def nP(h1:∀B:Bool->aw->Prop,B true A->c ρ A B)(h2:t D ρ A):nN c t e D ρ A:=h1 _ (gI rfl h2)
def k8(h1:∀B:Bool->aw->Prop,B false A->c ρ A B)(h2:e D ρ A):nN c t e D ρ A:=h1 _ (jw Yw h2)
def Lu(m:Str)(dZ:List (Addr×Sp))(E:XK)(ta:TE)(t:TA):TE:=fun σ H Q=>ta σ H fun x H1=>∃a dx fs C sp,x=.ref a/\H1 a=some (.ins C dx fs)/\(C,sp)∈dZ/\fs.lookup m=none/\t σ H1 fun vs H2=>sp (x::vs) H2 Q E
def k9(P:Program)(w:World)(K:au)(mg:Str->Option Value)(base:Heap)(CX:lQ)(k:Nat)(m:Str)(dZ:List (Addr×Sp)):Prop:=∀C sp,(C,sp)∈dZ->∃f fd ps,eX K C/\z7 K C m f/\cz P w K mg base CX k f fd ps sp/\kT K fd ps []
def k9.mono{K:au}(h:k9 P w K mg base CX j m dZ)(l:j<=k):k9 P w K mg base CX k m dZ:=fun C sp k_=>by
 obtain⟨f,fd,ps,h1,h2,h3,h4⟩:=h C sp k_
 exact⟨f,fd,ps,h1,h2,h3.mono l,h4⟩
section
variable{X:Cx}{CX:lQ}{k:Nat}{m:Str}{dZ:List (Addr×Sp)}{E:XK}{pos apos:Pos}{e o:Expr}{es:List Expr}{ta:TE}{t:TA}
def qy(he:PE X o ta)(hT:k9 X.prog X.w X.K X.mg X.base CX k m dZ)(hr:bW k X.A)(hx:rS CX X E)(ht : eval (.Call (.Attribute o m apos) [] [] pos) X.env=(do
   let ov <- eval o X.env
   standAt apos.atName
   let(f,first) <- holding [ov] (getMethod ov m pl)
   callWith pos f first (backTo pos (starEach [] X.env)) (backToKw pos (keywordEach [] X.env))):=by rfl):
  PE X (.Call (.Attribute o m apos) [] [] pos) (Lu m dZ E ta f9):=by
 intro pins s σ H Q I h;refine methodCall_KW (pl:=pl) (aK (he pins s σ H _ I h) fun u s1 ⟨x,H1,I1,rx,a,dx,fs,C,sp,ex,ea,k_,l,q⟩=>?_) ht;subst ex;obtain rfl:u=Value.ref a:=rx;obtain⟨f,fd,ps,c,hm,F,hb⟩:=hT C sp k_;exact Qj I1 ea c hm l (callWith_K0 (first:=[.ref a]) I1.br hm.kp (Dd (us:=[.ref a]) (vs:=[.ref a]) (dvs:=[]) (ds:=[]) F hr hb .nil hx I1 (.cons rfl .nil) q))
end
section
variable{K:au}
def Lv(m:Str)(dZ:List (Addr×bP))(aa:AE)(l:AA):AE:=fun ρ A Q=>aa ρ A fun x A1=>∃a dx fs C bg,x=.ref a/\A1 a=some (.ins C dx fs)/\(C,bg)∈dZ/\fs.lookup m=none/\l ρ A1 fun us A2=>bg (x::us) A2 Q
def Zk2(ha:aV K ta aa)(hl:fk K t l):aV K (Lu m (dZ.map fun p=>(p.1,aW K p.2)) E ta t) (Lv m dZ aa l):=fun ρ A σ H Q' Q hs g w k =>
 ha ρ A σ H _ _ hs g w fun x A1 v1 H1 k1 g1 r1 aD=>by
  obtain⟨a,dx,fs,C,bg,e1,e2,k_,e3,q⟩:=aD
  subst e1
  cases r1
  obtain⟨gs,h1,h2⟩:=g1.ins e2
  refine⟨a,dx,gs,C,aW K bg,rfl,h1,YL.mpr ⟨(C,bg),k_,rfl⟩,h2.miss e3,hl ρ A1 σ H1 _ _ (hs.same k1) g1 q fun us A2 vs H2 k2 g2 r2 q2=>⟨.ref a::us,A2,Q',.cons (.ref a) r2,g2,q2,fun z A3 v3 H3 k3 h3 r3 q3=>k _ _ _ _ (k1.trans (k2.trans k3)) h3 r3 q3⟩⟩
def Zm6:Lv m dZ aa l ρ A Q=aa ρ A fun x A1=>∃a dx fs C bg,x=.ref a/\A1 a=some (.ins C dx fs)/\(C,bg)∈dZ/\fs.lookup m=none/\l ρ A1 fun us A2=>bg (x::us) A2 Q:=rfl
end
def vn(K:au)(C c:Addr)(b:Bool):Prop:=eX K C/\PySem.W.findIn K (.ref C) "__class__"=some (some (.builtin "object.__class__"))/\specialIn K (.builtin "object.__class__") "__get__"=some (some (.builtin "getset_descriptor.__get__")) /\
 takesIn K (.builtin "object.__class__")=some true/\mroIn K C (.type "object")=some true/\PySem.W.kitOne K (.ref C) (.ref c)=some b
def Lw(K:au):List V->Hp->VK->Prop:=fun xs H Q=>∃a C dx fs c b,xs=[.ref a,.ref c]/\H a=some (.ins C dx fs)/\vn K C c b/\Q (.bl b) H
def xU:Z4 X (.builtin "isinstance") (Lw X.K):=by
 intro pins s σ H xs us Q I r h;obtain⟨a,C,dx,fs,c,b,rfl,hH,⟨h1,h2,h3,h4,h5,h6⟩,q⟩:=h;obtain⟨u,v,rfl,ru,rv⟩:=r.two;cases rv;exact JJ I ru (.ins hH h1 h2 h3 h4 h5) h6 fun tk=>⟨.bl b,H,I.tok tk,rfl,q⟩
section
variable{K:au}
def Lx(K:au):List U->aw->bc->Prop:=fun us A Q=>∃a C dx fs c b,us=[.ref a,.ref c]/\A a=some (.ins C dx fs)/\vn K C c b/\Q (.bl b) A
def ZqQ:hG K (Lw K) (Lx K):=fun xs us A H Q' Q r g h k=>by
 obtain⟨a,C,dx,fs,c,b,rfl,e,hi,q⟩:=h
 cases r with
 | cons r1 r=>cases r with
  | cons r2 r =>
   cases r;cases r1;cases r2
   obtain⟨gs,h1,_⟩:=g.ins e
   exact⟨a,C,dx,gs,c,b,rfl,h1,hi,k _ _ _ _ (.refl H) g (.bl b) q⟩
def ZtU:Lx K us A Q=∃a C dx fs c b,us=[.ref a,.ref c]/\A a=some (.ins C dx fs)/\vn K C c b/\Q (.bl b) A:=rfl
end
abbrev TJ:=Str->St->Hp->(Str->Hp->Prop)->Prop
def PJ(X:Cx)(es:List Expr)(t:TJ):Prop :=
 ∀(pins:List (Addr×Obj))(s:Shared)(σ:St)(H:Hp)(out:Str)(Q:Str->Hp->Prop),Inv X pins σ H s->t out σ H Q->wpAny (model X.prog X.w) X.A (joinParts out (evalEach es X.env)) (EP X pins σ fun v H'=>∃z,v=.str z/\Q z H') X.xe s
def EK:TJ:=fun out _ H Q=>out.length<=sizeLine/\Q out H
def vo(te:TE)(t:TJ):TJ:=fun out σ H Q=>te σ H fun v H1=>∃y,v=.str y/\(out++y).length<=sizeLine/\t (out++y) σ H1 Q
def EL(te:TE):TE:=fun σ H Q=>te σ H fun v H1=>∃y,v=.str y/\y.length<=sizeLine/\Q (.str y) H1
def EM(t:TJ):TE:=fun σ H Q=>t Str.empty σ H fun z H'=>Q (.str z) H'
section
variable{X:Cx}{e v1 v2:Expr}{es:List Expr}{te:TE}{t:TJ}{pos:Pos}
def EN:PJ X [] EK:=fun pins s σ H out Q I ⟨hz,q⟩=>joinParts_nil (⟨.str out,H,I.tok _,⟨_,rfl⟩,out,rfl,q⟩) hz
def qz(he:PE X e te)(ht:PJ X es t):PJ X (e::es) (vo te t):=by
 intro pins s σ H out Q I h;refine joinParts_cons (aK (he pins s σ H _ I h) fun u s1 aH=>?_);obtain⟨v,H1,I1,rv,y,ev,hz,q⟩:=aH;subst ev;obtain⟨tk,rfl⟩:=rv;exact⟨hz,ht pins s1 σ H1 (out++y) Q I1 q⟩
def EO(he:PE X e te):PE X (.FormattedValue e (-1) none pos) (EL te):=by
 intro pins s σ H Q I h;refine FormattedValue_plain (aK (he pins s σ H _ I h) fun u s1 aH=>?_);obtain⟨v,H1,I1,rv,y,ev,hz,q⟩:=aH;subst ev;obtain⟨tk,rfl⟩:=rv;exact formatField_str (fun t' k=>⟨.str y,H1,I1.tok k,⟨_,rfl⟩,q⟩) hz
def ER(h:PJ X (v1::v2::es) t):PE X (.JoinedStr (v1::v2::es) pos) (EM t):=by
 intro pins s σ H Q I hq;refine JoinedStr_many (aK (h pins s σ H Str.empty _ I hq) fun u s1 aH=>?_);obtain⟨v,H1,I1,rv,z,ev,q⟩:=aH;subst ev;exact⟨.str z,H1,I1,rv,q⟩
end
section
variable{K:au}
abbrev AJ:=Str->aQ->aw->(Str->aw->Prop)->Prop
variable{out:Str}{ρ:aQ}{A:aw}{Q:bc}{R:Str->aw->Prop}{ae:AE}{t:AJ}
end
structure ES (K:au) (C:Addr):Prop where
 makes:PySem.W.makesIn K C=true
 init:PySem.W.findIn K (.ref C) "__init__"=some (some (.builtin "object.__init__"))
 kp:PySem.W.keepIn K (.ref C)=true
def Ly(C:Addr):TE:=fun _ H Q=>∀x dx,H x=none->H dx=none->dx≠x->Q (.ref x) (upd (upd H dx (.own x)) x (.ins C dx []))
section
variable{X:Cx}{C:Addr}{x:Str}{p pos:Pos}
def Sn(M:ES X.K C)(I:Inv X pins σ H s)(h:∀x dx,H x=none->H dx=none->dx≠x->Q (.ref x) (upd (upd H dx (.own x)) x (.ins C dx []))):
  wpAny (model X.prog X.w) X.A (call (.ref C) []) (EP X pins σ Q) X.xe s:=by
 have hq:=h (s.heap.objs.size+1) s.heap.objs.size (I.aE.fresh (fV _)) (I.aE.fresh (Yk _)) (Yo (Y7 _));have I2:=Inv.made (C:=C) I;have Y:=makes_of (M:=model X.prog X.w) I.br M.makes;have e2:((s.heap.push emptyDict).push (instObj C s.heap.objs.size)).get? (s.heap.objs.size+1)=some (instObj C s.heap.objs.size):=by
  have:=Yl (s.heap.push emptyDict) (o:=instObj C s.heap.objs.size) rfl;rwa [YK]at this
 refine kO (Qh I.br M.makes M.init (fun self=>Looks.of_pure (PySem.W.oi_bind self)) ?_);have t1:PySem.W.Looks (model X.prog X.w) ((s.heap.push emptyDict).push (instObj C s.heap.objs.size)) (typeOf (.ref (s.heap.objs.size+1))) (.ref C):=(Looks.ld e2).andThen .now;have t2:PySem.W.Looks (model X.prog X.w) ((s.heap.push emptyDict).push (instObj C s.heap.objs.size)) (isInstance (.ref (s.heap.objs.size+1)) (.type "object")) true:=t1.andThen (Y.top.keeps fun b o e=>Yd _ (Yd _ e));refine codeAny_call_builtin PySem.W.oi_plain PySem.W.entry_oi (@PySem.W.check_slot (model X.prog X.w) _ _ _ "object.__init__" "object" "__init__" (.ref (s.heap.objs.size+1)) [] [] _ PySem.W.oi_kind PySem.W.oi_split t2 (PySem.W.oi_args (.ref (s.heap.objs.size+1))) ?_);rw[oi_run];exact Ye (And.intro rfl ⟨.ref (s.heap.objs.size+1),_,I2,rfl,hq⟩)
def So(M:ES X.K C)(hg:Gl X x)(hm:X.mg x=some (.ref C))(cK:(x==("__debug__":Str))=false:=by decide):PE X (.Call (.Name x p) [] [] pos) (Ly C):=by
 intro pins s σ H Q I h;exact lF (lM I hg hm (callWith_K0 I.br M.kp (Sn M I h)) cK)
end
section
variable{K:au}{C:Addr}
def Lz(C:Addr):AE:=fun _ A Q=>∀x dx,A x=none->Q (.ref x) (af A x (.ins C dx []))
def Zrf:aV K (Ly C) (Lz C):=fun ρ A σ H Q' Q hs g q k x dx hx xT aT=>by
 have s1:a_ H (upd H dx (.own x)):=a_.az xT
 have sd:upd H dx (.own x) x=none:=by rw[Zn (Ne.symm aT)];exact hx
 have s2:a_ (upd H dx (.own x)) (upd (upd H dx (.own x)) x (.ins C dx [])):=a_.az sd
 have g2:HR K (upd (upd H dx (.own x)) x (.ins C dx [])) (af A x (.ins C dx [])):=(g.grow s1).dO s2.kp ⟨[],Zs,rfl,.nil⟩
 exact k _ _ _ _ (s1.kp.trans s2.kp) g2 (.ref x) (q x dx (g.none hx))
def Ztt:Lz C ρ A Q=∀x dx,A x=none->Q (.ref x) (af A x (.ins C dx [])):=rfl
end
def AW(K:au)(C:Addr)(cs:List Addr)(b:Bool):Prop:=eX K C/\PySem.W.findIn K (.ref C) "__class__"=some (some (.builtin "object.__class__"))/\specialIn K (.builtin "object.__class__") "__get__"=some (some (.builtin "getset_descriptor.__get__")) /\
 takesIn K (.builtin "object.__class__")=some true/\mroIn K C (.type "object")=some true/\kitAny K (.ref C) (cs.map Value.ref)=some b
def LA(K:au):List V->Hp->VK->Prop:=fun xs H Q=>∃a C dx fs p cs b,xs=[.ref a,.ref p]/\H a=some (.ins C dx fs)/\bo K H p (cs.map V.ref)/\AW K C cs b/\Q (.bl b) H
theorem ET:∀ {cs:List Addr} {us:List Value},ZU (cs.map V.ref) us->us=cs.map Value.ref
 | [],_,.nil=>rfl
 | c :: cs,_,.cons r h=>by
  cases(show _=Value.ref c from r)
  rw[ET h];rfl
def LB:Z4 X (.builtin "isinstance") (LA X.K):=by
 intro pins s σ H xs us Q I r h;obtain⟨a,C,dx,fs,p,cs,b,rfl,hH,ht,⟨h1,h2,h3,h4,h5,h6⟩,q⟩:=h;obtain⟨u,v,rfl,ru,rv⟩:=r.two;cases ru;cases rv;obtain⟨its,r',pl,_⟩:=I.tuple ht;have e:=ET r';subst e;obtain⟨mA,O,_⟩:=wX I.aE hH;obtain⟨od,J,_⟩:=O.look;have hp:∃dd n sl,s.heap.get? p=some ⟨.type "tuple",dd,.seq (cs.map Value.ref).toArray n,sl⟩:=by
  obtain⟨⟨oc,Sr,da,sl⟩,ho,hc,n,hd⟩:=(show IsTup s.heap p (cs.map Value.ref).toArray from by first|exact pl|exact pl.isTup|(obtain⟨o,n,e,c,_,d,_⟩:=pl;exact⟨o,e,c,n,d⟩));cases hc;cases hd;exact⟨_,n,_,ho⟩
 obtain⟨dd,n,sl,hp⟩:=hp;exact kia_tup (kitx_own (h1.get _) h1.hd h2 h3 h4 h5) I.br J hp h6 (fun z=>nomatch z) fun tk=>⟨.bl b,H,I.tok tk,rfl,q⟩
section
variable{K:au}
theorem aJ.refs:∀ {cs:List Addr} {vs:List V},aJ K H (cs.map U.ref) vs->vs=cs.map V.ref
 | [],_,.nil=>rfl
 | c::cs,_,.cons h r=>by cases h;rw[Yr,aJ.refs r]
def LC(K:au):List U->aw->bc->Prop:=fun us A Q=>∃a C dx fs cs b,us=[.ref a,.tup (cs.map U.ref)]/\A a=some (.ins C dx fs)/\AW K C cs b/\Q (.bl b) A
def Zm2:hG K (LA K) (LC K):=fun xs us A H Q' Q r g h k=>by
 obtain⟨a,C,dx,fs,cs,b,rfl,e,hi,q⟩:=h
 cases r with
 | cons r1 r=>cases r with
  | cons r2 r =>
   cases r;cases r1
   cases r2 with
   | tup ht hs =>
    have:=hs.refs
    subst this
    obtain⟨gs,h1,_⟩:=g.ins e
    exact⟨a,C,dx,gs,_,cs,b,rfl,h1,ht,hi,k _ _ _ _ (.refl H) g (.bl b) q⟩
def ZpK:LC K us A Q=∃a C dx fs cs b,us=[.ref a,.tup (cs.map U.ref)]/\A a=some (.ins C dx fs)/\AW K C cs b/\Q (.bl b) A:=rfl
end
def Str.o7{x y:Str}(h:x.cps.toList=y.cps.toList):x=y:=Str.ext' (Cz.mp h)
def EU:Str:="abcdefghijklmnopqrstuvwxyz"
def i0:List Str:=["nothing","bead","or","by","row","bag","choice","ring","of","left","right"]
def d6(x:Str):Bool:=x.cps.toList.all (fun c=>decide (c∈EU.cps.toList))&&(decide (1<=x.length)&&decide (x.length<=8))&&!i0.contains x
theorem AY(h:d6 x=true):(∀c∈x.cps.toList,97<=c/\c<=122)/\1<=x.length/\x.length<=8/\x∉i0:=by
 unfold d6 at h;simp only[YQ,wA,wz,Bool.not_eq_true',List.contains_eq_mem,zC]at h;refine⟨fun c hc=>?_,h.1.2.1,h.1.2.2,h.2⟩;have:=h.1.1 c hc;have key:∀c∈EU.cps.toList,97<=c/\c<=122:=by decide +kernel
 exact key c this
theorem vp(h:d6 x=true):PyData.strOk x=true:=by
 unfold PyData.strOk;rw[<- Array.all_toList,wA];intro c hc;have:=(AY h).1 c hc;simp only[wz];lia
def Ss:Nat->Str
 | 0=>"["
 | 1=>"{"
 | 2=>"<"
 | _=>"(("
def cls:Nat->Str
 | 0=>"]"
 | 1=>"}"
 | 2=>">"
 | _=>"))"
mutual
def Wr.wd:Wr->Bool
 | .nothing=>true
 | .bead c=>d6 c
 | .side _ f=>f.wd
 | .pair f g=>f.wd&&g.wd
 | .many k ps=>LD ps
def LD:List Wr->Bool
 | []=>true
 | w::ws=>w.wd&&LD ws
end
mutual
def Wr.toks:Wr->List Str
 | .nothing=>["nothing"]
 | .bead c=>[c]
 | .side b f=>Ec b::f.toks
 | .pair f g=>"("::(f.toks++(g.toks++[(")":Str)]))
 | .many k ps=>Ss k::(LF ps++[cls k])
def LF:List Wr->List Str
 | []=>[]
 | w::ws=>w.toks++LF ws
end
inductive Rl where
 | nothing|bead (c:Str)|named (c:Str)|or (x y:Rl)|bh (x y:Rl)|hold (k:Nat) (x:Rl)
def Rl.toU:Rl->U
 | .nothing=>.tup [.str "nothing"]
 | .bead c=>.tup [.str "bead",.str c]
 | .named c=>.tup [.str "name",.str c]
 | .or x y=>.tup [.str "or",x.toU,y.toU]
 | .bh x y=>.tup [.str "by",x.toU,y.toU]
 | .hold k x=>.tup [.str (Z8 k),x.toU]
def Rl.lvl:Rl->Nat
 | .or _ _=>0
 | .bh _ _=>1
 | _=>2
def xV(n l:Nat)(ts:List Str):List Str:=if l<n then("(":Str)::(ts++[(")":Str)])else ts
def Rl.tk:Rl->List Str
 | .nothing=>["nothing"]
 | .bead c=>["bead",c]
 | .named c=>[c]
 | .or x y=>xV 0 x.lvl x.tk++(("or":Str)::xV 1 y.lvl y.tk)
 | .bh x y=>xV 1 x.lvl x.tk++(("by":Str)::xV 2 y.lvl y.tk)
 | .hold k x=>Z8 k::"of"::xV 2 x.lvl x.tk
def Rl.dep:Rl->Nat
 | .nothing=>1
 | .bead _=>1
 | .named _=>1
 | .or x y=>1+max x.dep y.dep
 | .bh x y=>1+max x.dep y.dep
 | .hold _ x=>1+x.dep
def bZ(cs:Nat->Addr)(A:aw):Addr->Rl->Prop
 | a,.nothing=>∃dx,A a=some (.ins (cs 0) dx [])
 | a,.bead c=>∃dx,A a=some (.ins (cs 1) dx [("colour",.str c)])
 | a,.named c=>∃dx,A a=some (.ins (cs 2) dx [("name",.str c)])
 | a,.or x y=>∃dx p q,A a=some (.ins (cs 3) dx [("one",.ref p),("other",.ref q)])/\bZ cs A p x/\bZ cs A q y
 | a,.bh x y=>∃dx p q,A a=some (.ins (cs 4) dx [("one",.ref p),("other",.ref q)])/\bZ cs A p x/\bZ cs A q y
 | a,.hold k x=>∃dx p,A a=some (.ins (cs (5+min k 3)) dx [("part",.ref p)])/\bZ cs A p x
theorem bZ.ext(e:Ext A A'):∀ {a:Addr} {r:Rl},bZ cs A a r->bZ cs A' a r
 | _,.nothing,⟨dx,h⟩=>⟨dx,e _ _ h⟩
 | _,.bead _,⟨dx,h⟩=>⟨dx,e _ _ h⟩
 | _,.named _,⟨dx,h⟩=>⟨dx,e _ _ h⟩
 | _,.or x y,⟨dx,p,q,h,h1,h2⟩=>⟨dx,p,q,e _ _ h,h1.ext e,h2.ext e⟩
 | _,.bh x y,⟨dx,p,q,h,h1,h2⟩=>⟨dx,p,q,e _ _ h,h1.ext e,h2.ext e⟩
 | _,.hold k x,⟨dx,p,h,h1⟩=>⟨dx,p,e _ _ h,h1.ext e⟩
def Rl.wd:Rl->Bool
 | .nothing=>true
 | .bead c=>d6 c
 | .named c=>d6 c
 | .or x y=>x.wd&&y.wd
 | .bh x y=>x.wd&&y.wd
 | .hold _ x=>x.wd
def Rl.size:Rl->Nat
 | .nothing=>1
 | .bead _=>1
 | .named _=>1
 | .or x y=>x.size+y.size+1
 | .bh x y=>x.size+y.size+1
 | .hold _ x=>x.size+1
def Rl.eC(r:Rl):1<=r.size:=by cases r<;>simp[Rl.size]
def Rl.ci:Rl->Nat
 | .nothing=>0
 | .bead _=>1
 | .named _=>2
 | .or _ _=>3
 | .bh _ _=>4
 | .hold k _=>5+min k 3
theorem Rl.bR(r:Rl):r.ci<9:=by cases r<;>simp only[Rl.ci]<;>lia
def bZ.cls(h:bZ cs A a r)(hm:m∉(["colour","name","one","other","part"]:List Str)):∃dx fs,A a=some (.ins (cs r.ci) dx fs)/\fs.lookup m=none:=by
 simp only[Yp,YN,fH,not_or]at hm;obtain⟨h1,h2,h3,h4,h5⟩:=hm;cases r with
 | nothing=>obtain⟨dx,h⟩:=h;exact⟨dx,_,h,rfl⟩
 | bead c=>obtain⟨dx,h⟩:=h;exact⟨dx,_,h,by simp[List.lookup,Yx.mpr h1]⟩
 | named c=>obtain⟨dx,h⟩:=h;exact⟨dx,_,h,by simp[List.lookup,Yx.mpr h2]⟩
 | or x y=>obtain⟨dx,p,q,h,_⟩:=h;exact⟨dx,_,h,by simp[List.lookup,Yx.mpr h3,Yx.mpr h4]⟩
 | bh x y=>obtain⟨dx,p,q,h,_⟩:=h;exact⟨dx,_,h,by simp[List.lookup,Yx.mpr h3,Yx.mpr h4]⟩
 | hold k x=>obtain⟨dx,p,h,_⟩:=h;exact⟨dx,_,h,by simp[List.lookup,Yx.mpr h5]⟩
def jB(l:List Addr)(i:Nat):Addr:=l.getD i 0
structure kh (K:au) (l:List Addr) (rt:Addr):Prop where
 sp:PySem.W.specialIn K (.builtin "object.__class__") "__get__"=some (some (.builtin "getset_descriptor.__get__"))
 tk:PySem.W.takesIn K (.builtin "object.__class__")=some true
 fi:l.map (fun c=>PySem.W.findIn K (.ref c) "__class__")=l.map fun _=>some (some (.builtin "object.__class__"))
 mr:l.map (fun c=>mroIn K c (.type "object"))=l.map fun _=>some true
 ki:l.map (fun c=>l.map fun d=>PySem.W.kitOne K (.ref c) (.ref d))=(List.range l.length).map fun i=>(List.range l.length).map fun j=>some (i==j)
 kr:l.map (fun c=>PySem.W.kitOne K (.ref c) (.ref rt))=l.map fun _=>some true
def AZ{α β:Type}{f g:α->β}{l:List α}(h:l.map f=l.map g){x:α}(hx:x∈l):f x=g x:=List.map_inj_left.mp h x hx
def sM(h:i<l.length):jB l i∈l:=by
 unfold jB;rw[Y0,Yh h];exact rq h
variable{K:au}{l:List Addr}{rt:Addr}
def kh.LG(h:kh K l rt)(hi:i<l.length)(hj:j<l.length):PySem.W.kitOne K (.ref (jB l i)) (.ref (jB l j))=some (i==j):=by
 have e:=congrArg (fun z=>(z.getD i []).getD j none) h.ki;simpa[jB,Y0,hi,hj]using e
def kh.LH(h:kh K l rt)(hL:∀c∈l,eX K c)(hi:i<9)(hj:j<9)(hn:l.length=9:=by rfl):vn K (jB l i) (jB l j) (i==j):=by
 rw[<- hn]at hi hj;exact⟨hL _ (sM hi),AZ h.fi (sM hi),h.sp,h.tk,AZ h.mr (sM hi),h.LG hi hj⟩
theorem Rl.LI{r:Rl}(h:r.ci=3):∃x y,r=.or x y:=by cases r<;>simp only[Rl.ci]at h<;>first|exact⟨_,_,rfl⟩|lia
theorem Rl.LJ{r:Rl}(h:r.ci=4):∃x y,r=.bh x y:=by cases r<;>simp only[Rl.ci]at h<;>first|exact⟨_,_,rfl⟩|lia
theorem Rl.Su{r:Rl}(h:r.ci=1):∃c,r=.bead c:=by cases r<;>simp only[Rl.ci]at h<;>first|exact⟨_,rfl⟩|lia
theorem Rl.EV{r:Rl}(h:r.ci=2):∃c,r=.named c:=by cases r<;>simp only[Rl.ci]at h<;>first|exact⟨_,rfl⟩|lia
theorem Rl.A9{r:Rl}(hj:j<=3)(h:r.ci=5+j):∃k x,r=.hold k x/\min k 3=j:=by cases r<;>simp only[Rl.ci]at h<;>first|exact⟨_,_,rfl,by lia⟩|lia
theorem Sv(k:Nat):Z8 (min k 3)=Z8 k:=by
 match k with
 | 0=>rfl
 | 1=>rfl
 | 2=>rfl
 | k+3=>rw[Nat.min_eq_right (by lia)];rfl
theorem Rl.bC(r:Rl):1<=r.dep:=by cases r<;>simp only[Rl.dep]<;>lia
inductive Kd where
 | whole|side (b:Bool)|pair|many (k:Nat)
def Kd.name:Kd->Str
 | .whole=>"whole"
 | .side b=>Ec b
 | .pair=>"pair"
 | .many k=>Z8 k
def Kd.made:Kd->List Wr->Wr
 | .whole,[x]=>x
 | .side b,[x]=>.side b x
 | .pair,[x,y]=>.pair x y
 | .many k,ps=>.many k ps
 | _,_=>.nothing
structure Fr where
 kd:Kd
 dn:List Wr
 td:List Wr
def LK(x:Wr):List Fr->Wr
 | []=>x
 | f::fs=>LK (f.kd.made (f.dn++x::f.td)) fs
def fin:List Fr->Wr
 | []=>.nothing
 | f::fs=>LK (f.kd.made (f.dn++f.td)) fs
variable{C dx p wa:Addr}{B:aw}{ts:List Str}{n:Nat}
def LL(h:∀us A Q,EW us A Q->bg us A Q):∀vs H Q E,aW K EW vs H Q E->aW K bg vs H Q E:=fun vs H Q E ⟨us,A,Q',r,g,a,k⟩=>⟨us,A,Q',r,g,h _ _ _ a,k⟩
theorem LM(k:Nat):dG (.str (Z8 k)) [.str "row",.str "bag",.str "choice",.str "ring"]=true:=by
 match k with
 | 0=>decide +kernel
 | 1=>decide +kernel
 | 2=>decide +kernel
 | k+3=>exact(by decide +kernel:dG (.str (Z8 3)) [.str "row",.str "bag",.str "choice",.str "ring"]=true)
open PySem
open PySem PySem.W
def EX{α:Type}{P:List α->Prop}(h:P []):∀us:List α,us.length=0->P us:=fun us e=>by
 cases us with
 | nil=>exact h
 | cons a us=>simp at e
def EY{α:Type}{P:List α->Prop}(h:∀a,P [a]):∀us:List α,us.length=1->P us:=fun us e=>by
 cases us with
 | nil=>simp at e
 | cons a us=>exact EX (P:=fun us=>P (a::us)) (h a) us (by simpa using e)
def EZ{α:Type}{P:List α->Prop}(h:∀a b,P [a,b]):∀us:List α,us.length=2->P us:=fun us e=>by
 cases us with
 | nil=>simp at e
 | cons a us=>exact EY (P:=fun us=>P (a::us)) (h a) us (by simpa using e)
def E1{α:Type}{P:List α->Prop}(h:∀a b c,P [a,b,c]):∀us:List α,us.length=3->P us:=fun us e=>by
 cases us with
 | nil=>simp at e
 | cons a us=>exact EZ (P:=fun us=>P (a::us)) (h a) us (by simpa using e)
def E2{α:Type}{P:List α->Prop}(h:∀a b c d,P [a,b,c,d]):∀us:List α,us.length=4->P us:=fun us e=>by
 cases us with
 | nil=>simp at e
 | cons a us=>exact E1 (P:=fun us=>P (a::us)) (h a) us (by simpa using e)
theorem xW(k:Nat)(hz:z∈(["nothing","bead","name","or","by"]:List Str)):Z8 k≠z:=by
 have key:∀t∈(["row","bag","choice","ring"]:List Str),∀z∈(["nothing","bead","name","or","by"]:List Str),t≠z:=by decide +kernel
 refine key _ ?_ _ hz;match k with
 | 0=>decide +kernel
 | 1=>decide +kernel
 | 2=>decide +kernel
 | k+3=>exact(by decide +kernel:Z8 3∈(["row","bag","choice","ring"]:List Str))
def E3(cs:Nat->Addr)(n:Nat):bP:=fun us A Q=>∃r:Rl,us=[r.toU]/\r.dep<=n/\∀B b,Ext A B->bZ cs B b r->Q (.ref b) B
theorem Sw:∀us A Q,¬E3 cs 0 us A Q:=fun us A Q aD=>by obtain⟨r,_,h,_⟩:=aD;have:=r.bC;lia
theorem Sx{j:Nat}(hj:j<=3):bX [U.str "row",U.str "bag",U.str "choice",U.str "ring"] (j:Int)=some (.str (Z8 j)):=by
 rcases j with _|_|_|_|j<;>first|rfl|lia
def LN(r:Rl):U:=.tup [r.toU,.int r.size,.int r.dep]
def LO{α:Type}{ws:List α}(h:1<ws.length):∃hZ x y,ws=hZ++[x]++[y]:=by
 rcases zE ws with rfl|⟨a,b,rfl⟩
 .exact absurd h (by simp)
 .rcases zE a with rfl|⟨c,d,rfl⟩
  .exact absurd h (by simp)
  .exact⟨c,d,b,by simp⟩
def Sy{α:Type}{ws:List α}(h:0<ws.length):∃hZ x,ws=hZ++[x]:=by
 rcases zE ws with rfl|⟨a,b,rfl⟩
 .exact absurd h (by simp)
 .exact⟨a,b,by simp⟩
theorem Sz(h0:0<=k)(h3:k<4):∃j:Nat,bX [U.str "row",U.str "bag",U.str "choice",U.str "ring"] k=some (.str (Z8 j)):=by
 obtain⟨j,rfl⟩:∃j:Nat,k=j:=⟨k.toNat,by lia⟩;exact⟨j,Sx (by lia)⟩
def SA(ws:List Rl):Prop:=∀r∈ws,r.wd=true
def LP:bP:=fun us A Q=>∃(a:Addr)(z:Int)(ws:List Rl),us=[.ref a,.int z]/\A a=some (.lst (ws.map LN))/\SA ws/\ws.length<=90/\∀(hZ:List Rl)(r:Rl),hZ <+: ws->r.wd=true->(ws=[]->r.size=1/\r.dep=1)->Q .ay (af A a (.lst ((hZ++[r]).map LN)))
def KV.look(r:KV aq vs)(k:Str):iI (aq.lookup k) (valueAt vs k):=by
 unfold KV at r;induction r with
 | nil=>exact True.intro
 | @cons p q ps qs h t ih =>
  obtain⟨h1,h2⟩:=h;obtain⟨p1,p2⟩:=p;obtain⟨q1,q2⟩:=q;simp only at h1 h2;subst h1;unfold valueAt;rw[List.lookup_cons,List.find?_cons];by_cases e:p1=k
  .subst e;simp only[IY,decide_true];exact h2
  .have e':(k==p1)=false:=Yx.mpr fun z=>e z.symm;rw[e',Yu e];exact ih
def KV.put(r:KV aq vs)(nd:(vs.map (·.1)).Nodup)(k:Str)(ry:aX y u):KV (de k y aq) (stored vs k u):=by
 unfold KV at r;induction r with
 | nil=>exact .cons ⟨rfl,ry⟩ .nil
 | @cons p q ps qs h t ih =>
  obtain⟨p1,p2⟩:=p;obtain⟨q1,q2⟩:=q;obtain⟨h1,h2⟩:=h;simp only at h1 h2;subst h1;rw[Yr,jV]at nd;have ih:=ih nd.2;unfold de;by_cases e:p1=k
  .subst e;rw[if_pos rfl];have s:stored ((p1,q2)::qs) p1 u=(p1,u)::qs:=by
    unfold stored;rw[if_pos (by simp),Yr,if_pos rfl,map_store_of_not_mem qs p1 u nd.1]
   rw[s];exact .cons ⟨rfl,ry⟩ t
  .rw[if_neg e];have s:stored ((p1,q2)::qs) k u=(p1,q2)::stored qs k u:=by
    unfold stored;rw[List.any_cons,Yu e,Bool.false_or,Yr,if_neg e];split<;>rfl
   rw[s];exact .cons ⟨rfl,h2⟩ ih
theorem E4(k:Str)(y:V):∀aq:List (Str×V),(de k y aq).length<=aq.length+1
 | []=>Yk _
 | (g, x)::r=>by
  unfold de
  split
  .simp
  .have:=E4 k y r
   simp only[List.length_cons];lia
def o8(P:Program)(w:World)(d:Addr)(ep:Nat)(aq:List (Str×V))(h:Heap):Prop:=((d==sysModules)=false/\aq.length<=sizeLine)/\∃vs,KV aq vs/\h.DictAt (strKind P w) d vs ep
def DQ(P:Program)(w:World)(d:Addr)(ep:Nat)(aq:List (Str×V)):HO:=.ext (o8 P w d ep aq)
def o8.ok(e:o8 P w d ep aq h):dD P w H h d (DQ P w d ep aq):=by
 obtain⟨h0,vs,r,o,es,h1,h2⟩:=e;refine⟨⟨h0,vs,r,o,es,h1,h2⟩,⟨o,h1⟩,fun g1 g2 q kp=>?_⟩;obtain⟨h0,vs,r,o,es,h1,h2⟩:=q;exact⟨h0,vs,r,o,es,kp o h1,h2⟩
def dS(P:Program)(w:World)(ep:Nat)(kus:List (Str×U)):AO:=.cZ fun K H a=>∃aq,H a=some (DQ P w a ep aq)/\cb K H kus aq
section
variable{P:Program}{w:World}{K:au}{H:Hp}{A:aw}{a:Addr}{ep:Nat}{kus:List (Str×U)}
def xX(h1:H a=some (DQ P w a ep aq))(h2:cb K H kus aq):RO K H a (dS P w ep kus) :=
 ⟨⟨_,h1⟩,⟨aq,h1,h2⟩,fun H1 H2 ⟨ys,q1,q2⟩ kp e=>⟨ys,by rw[e];exact q1,q2.same kp⟩⟩
def fO(g:HR K H A)(e:A a=some (dS P w ep kus)):∃aq,H a=some (DQ P w a ep aq)/\cb K H kus aq:=(g a _ e).2.1
end
def LQ(P:Program)(w:World):TE:=fun _ H Q=>∀p,H p=none->Q (.ref p) (upd H p (DQ P w p 0 []))
def LR(P:Program)(w:World):AE:=fun _ A Q=>∀p,A p=none->Q (.ref p) (af A p (dS P w 0 []))
def Zky:aV K (LQ P w) (LR P w):=fun ρ A σ H Q' Q hs g h k p hp =>
 k _ _ _ _ (a_.az hp).kp (g.dO (a_.az hp).kp (xX Zs ⟨rfl,.nil⟩)) (.ref p) (h p (g.none hp))
section
variable{X:Cx}
def LS(h:Heap)(hb:sysModules<h.objs.size):o8 P w h.objs.size 0 [] (h.push { cls:=.type "dict",data:=.dict #[] }) :=
 ⟨⟨Yx.mpr (Ne.symm (Yo hb)),Y9 _⟩,[],.nil,_,#[],Yl _ rfl,⟨rfl,rfl,rfl⟩,rfl,by intro e he;simp at he,.nil,List.nodup_nil⟩
def sN:PE X (.Dict [] [] pos) (LQ X.prog X.w):=fun pins s σ H Q I h =>
 wpAny_Dict_empty ⟨.ref s.heap.objs.size,_,I.laid (a:=s.heap.objs.size) (t':=s.toks) (fun _ _ q=>Yd _ q) (Yk _) (o8.ok (LS s.heap (big I))),rfl,h _ (I.aE.fresh (Yk _))⟩
def dP(I:Inv X pins σ H s)(h:H d=some (DQ X.prog X.w d ep aq)):
  (d==sysModules)=false/\aq.length<=sizeLine/\∃vs,KV aq vs/\s.heap.DictAt (strKind X.prog X.w) d vs ep :=
 let⟨⟨⟨h0,hz⟩,r⟩,_⟩:=I.aE d _ h
 ⟨h0,hz,r⟩
def E5(P:Program)(w:World):V->V->Hp->VK->Prop:=fun x y H Q=>∃z a ep aq,x=.str z/\y=.ref a/\H a=some (DQ P w a ep aq)/\Q (.bl (aq.lookup z).isSome) H
def E6(P:Program)(w:World):V->V->Hp->VK->Prop:=fun x y H Q=>∃z a ep aq,x=.str z/\y=.ref a/\H a=some (DQ P w a ep aq)/\Q (.bl (!(aq.lookup z).isSome)) H
def E7(P:Program)(w:World):V->V->Hp->VK->Prop:=fun x y H Q=>∃z a ep aq v,x=.ref a/\y=.str z/\H a=some (DQ P w a ep aq)/\aq.lookup z=some v/\Q v H
def LU(r:iI o u):o.isSome=u.isSome:=by
 cases o<;>cases u<;>first|rfl|exact(show False from r).elim
def A_:a8 X (compareOp .In) (E5 X.prog X.w):=by
 intro pins s σ H x y v u Q I rx ry h;obtain⟨z,a,ep,aq,rfl,rfl,e,q⟩:=h;obtain⟨t,rfl⟩:=rx;cases ry;obtain⟨h0,hz,vs,r,dd⟩:=dP I e;refine wpAny_in_of (strKind_is X.prog X.w z t) h0 dd.dictOf.mapOf ⟨.bl _,H,I.tok _,?_,q⟩;rw[LU (r.look z)];rfl
def E8:a8 X (compareOp .NotIn) (E6 X.prog X.w):=by
 intro pins s σ H x y v u Q I rx ry h;obtain⟨z,a,ep,aq,rfl,rfl,e,q⟩:=h;obtain⟨t,rfl⟩:=rx;cases ry;obtain⟨h0,hz,vs,r,dd⟩:=dP I e;refine wpAny_notIn_of (strKind_is X.prog X.w z t) h0 dd.dictOf.mapOf ⟨.bl _,H,I.tok _,?_,q⟩;rw[LU (r.look z)];rfl
def sO:j5 X (E7 X.prog X.w):=by
 intro value slice pins s σ H x y v u Q I rx ry h hs;obtain⟨z,a,ep,aq,v',rfl,rfl,e,el,q⟩:=h;obtain⟨t,rfl⟩:=ry;cases rx;obtain⟨h0,hz,vs,r,dd⟩:=dP I e;have:=r.look z;rw[el]at this;obtain⟨w',hw,w9⟩:∃w',valueAt vs z=some w'/\aX v' w':=by
  cases hv:valueAt vs z with
  | none=>rw[hv]at this;exact(show False from this).elim
  | some w'=>rw[hv]at this;exact⟨w',rfl,this⟩
 exact tail_any dd.dictOf.typeIs slot_dict_getitem.lookup (wpAny_getItem_of (strKind_is X.prog X.w z t) dd.dictOf.mapOf hw ⟨v',H,I.tok _,w9,q⟩) hs
def LV(P:Program)(w:World):V->V->V->Hp->(Hp->Prop)->Prop:=fun o i v H Q=>∃d z ep aq,o=.ref d/\i=.str z/\H d=some (DQ P w d ep aq)/\aq.length<sizeLine/\∀aF,Q (upd H d (DQ P w d aF (de z v aq)))
theorem sP:CT X (LV X.prog X.w):=by
 intro pins s σ H o i v ov iv u Q I ro ri rv h;obtain⟨d,z,ep,aq,rfl,rfl,e,hl,q⟩:=h;cases ro;obtain⟨t,rfl⟩:=ri;obtain⟨h0,hz,vs,r,dd⟩:=dP I e;have fq:vs.length<=sizeLine:=by rw[<- Paired.length r];exact hz
 refine wpAny_setItem_pairs (hsz:=fq) (strKind_is X.prog X.w z t) dd.dictOf fun h' jC hs=>?_;obtain⟨aF,jC⟩:=jC.dictAt;have e1:∃o,h'.get? d=some o:=let⟨o,_,e,_⟩:=jC;⟨o,e⟩;refine⟨_,I.write (x:=d) (e:=d) (by rw[e];trivial) (.inl rfl) (fun c u hc z=>(hs.2 c hc).trans z) e1 (o8.ok ⟨⟨h0,by have:=E4 z v aq;lia⟩,_,r.put dd.nodup z rv,jC⟩),q aF⟩
def LW(P:Program)(w:World):List V->Hp->VK->Prop:=fun vs H Q=>∃d ep aq,vs=[.ref d]/\H d=some (DQ P w d ep aq)/\Q (.int aq.length) H
theorem E9:Z4 X (.builtin "len") (LW X.prog X.w):=by
 intro pins s σ H vs us Q I r h;obtain⟨d,ep,aq,rfl,e,q⟩:=h;obtain⟨u,rfl,ru⟩:=r.one;cases ru;obtain⟨h0,hz,vs,r,dd⟩:=dP I e;have hl:=Paired.length r;refine call_len_dict h0 dd.dictOf (by rw[<- hl];rw[Y2]at hz;lia) ⟨.int _,H,I.tok _,⟨_,rfl⟩,?_⟩;rw[<- hl];exact q
end
section
variable{P:Program}{w:World}{K:au}
def LX(P:Program)(w:World):fo:=fun x y A Q=>∃z a ep kus,x=.str z/\y=.ref a/\A a=some (dS P w ep kus)/\Q (.bl (kus.lookup z).isSome) A
def LY(P:Program)(w:World):fo:=fun x y A Q=>∃z a ep kus,x=.str z/\y=.ref a/\A a=some (dS P w ep kus)/\Q (.bl (!(kus.lookup z).isSome)) A
def LZ(P:Program)(w:World):fo:=fun x y A Q=>∃z a ep kus u,x=.ref a/\y=.str z/\A a=some (dS P w ep kus)/\kus.lookup z=some u/\Q u A
def cb.xY(r:cb K H kus aq)(z:Str):(aq.lookup z).isSome=(kus.lookup z).isSome:=by
 cases e:kus.lookup z with
 | none=>rw[r.miss e];rfl
 | some u=>obtain⟨v,h,_⟩:=r.look e;rw[h];rfl
def ZoL:ei K (E5 P w) (LX P w):=fun x y u v A H Q' Q hu hw g h k=>by
 obtain⟨z,a,ep,kus,rfl,rfl,e,q⟩:=h
 cases hu;cases hw
 obtain⟨aq,h1,r⟩:=fO g e
 exact⟨z,a,ep,aq,rfl,rfl,h1,k _ _ _ _ (.refl H) g (.bl _) (by rw[r.xY];exact q)⟩
def ZkZ:ei K (E6 P w) (LY P w):=fun x y u v A H Q' Q hu hw g h k=>by
 obtain⟨z,a,ep,kus,rfl,rfl,e,q⟩:=h
 cases hu;cases hw
 obtain⟨aq,h1,r⟩:=fO g e
 exact⟨z,a,ep,aq,rfl,rfl,h1,k _ _ _ _ (.refl H) g (.bl _) (by rw[r.xY];exact q)⟩
def Zfe:ei K (E7 P w) (LZ P w):=fun x y u v A H Q' Q hu hw g h k=>by
 obtain⟨z,a,ep,kus,u',rfl,rfl,e,el,q⟩:=h
 cases hu;cases hw
 obtain⟨aq,h1,r⟩:=fO g e
 obtain⟨v',h2,r2⟩:=r.look el
 exact⟨z,a,ep,aq,v',rfl,rfl,h1,h2,k _ _ _ _ (.refl H) g r2 q⟩
def L4(P:Program)(w:World)(o i:AE):AG:=fun u ρ A Q=>o ρ A fun x A1=>i ρ A1 fun y A2=>∃a z ep kus,x=.ref a/\y=.str z/\A2 a=some (dS P w ep kus)/\kus.length<sizeLine/\∀aF,Q ρ (af A2 a (dS P w aF (a7 z u kus)))
def ZkN(ho:aV K to ao)(hi:aV K ti ai):oY K (CV to ti (LV P w)) (L4 P w ao ai):=fun u v ρ A σ H Q' Q r hs g wh k =>
 ho ρ A σ H _ _ hs g wh fun x A1 v1 H1 k1 g1 r1 q1=>hi ρ A1 σ H1 _ _ (hs.same k1) g1 q1 fun y A2 v2 H2 k2 g2 r2 aD=>by
  obtain⟨a,z,ep,kus,e1,e2,eA,hz,q⟩:=aD
  subst e1 e2
  cases r1;cases r2
  obtain⟨aq,h1,rr⟩:=fO g2 eA
  have rv:=r.same (k1.trans k2)
  refine⟨a,z,ep,aq,rfl,rfl,h1,by rw[<- rr.len];exact hz,fun aF=>?_⟩
  have kp:Kp K H2 (upd H2 a (DQ P w a aF (de z v aq))):=Kp.ext h1
  exact k _ _ _ _ (k1.trans (k2.trans kp)) (g2.dO kp (xX Zs ((rr.put rv).same kp))) (hs.same (k1.trans (k2.trans kp))) (q aF)
def L5(P:Program)(w:World):List U->aw->bc->Prop:=fun us A Q=>∃p ep kus,us=[.ref p]/\A p=some (dS P w ep kus)/\Q (.int kus.length) A
def Zk1:hG K (LW P w) (L5 P w):=fun vs us A H Q' Q r g h k=>by
 obtain⟨p,ep,kus,rfl,e,q⟩:=h
 obtain⟨v,rfl,r'⟩:=r.inv1
 cases r'
 obtain⟨aq,h1,rr⟩:=fO g e
 exact⟨p,ep,aq,rfl,h1,k _ _ _ _ (.refl H) g (.int _) (by rw[<- rr.len];exact q)⟩
variable{A:aw}{ρ:aQ}{Q:bc}{N:aQ->aw->Prop}{o i:AE}{u:U}{p:Addr}{z:Str}
def Znh:(LR P w ρ A Q)=(∀p,A p=none->Q (.ref p) (af A p (dS P w 0 []))):=rfl
def ZnJ:(L4 P w o i u ρ A N)=(o ρ A fun x A1=>i ρ A1 fun y A2=>∃a z ep kus,x=.ref a/\y=.str z/\A2 a=some (dS P w ep kus)/\kus.length<sizeLine/\∀aF,N ρ (af A2 a (dS P w aF (a7 z u kus)))):=rfl
def ZnL:(L5 P w [.ref p] A Q)=(∃ep kus,A p=some (dS P w ep kus)/\Q (.int kus.length) A):=propext ⟨fun aD=>by obtain⟨_,ep,kus,e,h⟩:=aD;cases e;exact⟨ep,kus,h⟩,fun⟨ep,kus,h⟩=>⟨p,ep,kus,rfl,h⟩⟩
def Zpu:LX P w (.str z) (.ref p) A Q=∃ep kus,A p=some (dS P w ep kus)/\Q (.bl (kus.lookup z).isSome) A:=propext ⟨fun aD=>by obtain⟨_,_,ep,kus,e,e',h⟩:=aD;cases e;cases e';exact⟨ep,kus,h⟩,fun⟨ep,kus,h⟩=>⟨_,_,ep,kus,rfl,rfl,h⟩⟩
def ZoI:LY P w (.str z) (.ref p) A Q=∃ep kus,A p=some (dS P w ep kus)/\Q (.bl (!(kus.lookup z).isSome)) A:=propext ⟨fun aD=>by obtain⟨_,_,ep,kus,e,e',h⟩:=aD;cases e;cases e';exact⟨ep,kus,h⟩,fun⟨ep,kus,h⟩=>⟨_,_,ep,kus,rfl,rfl,h⟩⟩
def Zqm:LZ P w (.ref p) (.str z) A Q=∃ep kus u,A p=some (dS P w ep kus)/\kus.lookup z=some u/\Q u A:=propext ⟨fun aD=>by obtain⟨_,_,ep,kus,u,e,e',h⟩:=aD;cases e;cases e';exact⟨ep,kus,u,h⟩,fun⟨ep,kus,u,h⟩=>⟨_,_,ep,kus,u,rfl,rfl,h⟩⟩
end
def SD:∀ {es:List DictEntry} {vs us:List (Str×Value)},Pairs (strKind P w) es vs->Pairs (strKind P w) es us->vs=us:=by
 intro es vs us h;induction h generalizing us with
 | nil=>intro k;cases k;rfl
 | @cons e kv es vs h1 h2 h3 ih =>
  intro k;cases k with
  | @cons _ ku _ us k1 k2 k3 =>
   rw[ih k3];obtain⟨a,b⟩:=kv;obtain⟨c,d⟩:=ku;have e1:a=c:=(strKind P w).inj _ _ _ h1 k1;have e2:b=d:=h2.symm.trans k2;rw[e1,e2]
def SE:∀ {aq kus:List (Str×V)},KV aq vs->KV kus vs->aq=kus:=by
 intro aq kus h;unfold KV at h;induction h generalizing kus with
 | nil=>intro k;cases k;rfl
 | @cons p q ps qs h1 h2 ih =>
  intro k;cases k with
  | @cons p' _ dQ _ k1 k2 =>
   rw[ih k2];obtain⟨a,b⟩:=p;obtain⟨c,d⟩:=p';have e1:a=c:=h1.1.trans k1.1.symm;have e2:b=d:=h1.2.inj k1.2;rw[e1,e2]
section
variable{X:Cx}
def E_(I:Inv X pins σ H s)(h:H d=some (DQ X.prog X.w d ep aq))(h':H d=some (DQ X.prog X.w d aF kus)):aq=kus:=by
 obtain⟨_,_,vs,r,o,es,e1,_,e2,_,p,_⟩:=dP I h;obtain⟨_,_,us,r',o',es',L6,_,L7,_,p',_⟩:=dP I h';rw[e1]at L6;cases L6;rw[e2]at L7;injection L7 with e3 _;subst e3;rw[SD p p']at r;exact SE r r'
def xZ(r:KV aq vs){i:Nat}{p:Str×V}(h:aq[i]? = some p):∃u,vs[i]? = some (p.1,u)/\aX p.2 u:=by
 unfold KV at r;induction r generalizing i with
 | nil=>simp at h
 | @cons q q' ps qs h1 h2 ih =>
  cases i with
  | zero =>
   simp only[List.getElem?_cons_zero,Option.some.injEq]at h ⊢;subst h;obtain⟨a,b⟩:=q';obtain⟨e,r⟩:=h1;simp only at e r;subst e;exact⟨b,rfl,r⟩
  | succ i=>simpa using ih (by simpa using h)
variable{o e:Expr}{es:List Expr}{apos aM:Pos}{to:TE}{t:TA}
def L8(P:Program)(w:World)(to:TE)(t:TA):TE:=fun σ H Q=>to σ H fun x H1=>∃a ep aq,x=.ref a/\H1 a=some (DQ P w a ep aq)/\t σ H1 fun vs H2=>∃z d aF cA,(vs=[.str z]/\d=.ay\/vs=[.str z,d])/\H2 a=some (DQ P w a aF cA)/\Q ((cA.lookup z).getD d) H2
def L9{o:Option V}(r:iI o u)(rd:aX d d'):aX (o.getD d) (u.getD d'):=by
 cases o<;>cases u<;>first|exact rd|exact(show False from r).elim|exact r
def L_(ho:PE X o to)(ha:PA X (e::es) t)(h1:attributeBase o "get" X.env (eval o X.env)=eval o X.env:=by rfl)(h2:((backTo aM (starEach (e::es) X.env)).all (fun x=>!x.1)&&(backToKw aM (keywordEach [] X.env)).all (fun x=>x.1.isSome)&&decide ((e::es).length+([]:List Keyword).length+(if([]:List Keyword).isEmpty then 0 else 1)<30))=true:=by rfl)(h3:(apos.endLine==aM.line)=true:=by rfl)(h4:starEach (e::es) X.env=(false,eval e X.env)::starEach es X.env:=by rfl)(h5:(backTo aM (starEach es X.env)).any (·.1)=false:=by rfl):
  PE X (.Call (.Attribute o "get" apos) (e::es) [] aM) (L8 X.prog X.w to t):=by
 intro pins s σ H Q I h;refine wpAny_Call_method_late h1 h2 h3 rfl (aK (ho pins s σ H _ I h) fun v s1 aH=>?_);obtain⟨x,H1,I1,r1,a,ep,aq,ex,sQ,q1⟩:=aH;subst ex;cases r1;obtain⟨_,_,SG,_,dd⟩:=dP I1 sQ;refine⟨"dict","dict.get",F.plainAttrs_dict,F.slot_dict_get,F.type_dict_get,dd.dictOf.typeIs,dd.dictOf.mapOf.noDict,?_⟩;have hA:=ha aM pins s1 σ H1 _ I1 q1;rw[h4]at hA ⊢;refine p9 (by show(false||(backTo aM (starEach es X.env)).any (·.1))=false;rw[h5]<;>rfl) (Calls.evalArgs_plain (aK hA fun us s2 aH=>?_));obtain⟨vs,H2,I2,r2,z,d,aF,cA,ev,i4,q2⟩:=aH;obtain⟨h0,_,nQ,r,kU⟩:=dP I2 i4;rcases ev with⟨rfl,rfl⟩|rfl
 .obtain⟨u,rfl,ru⟩:=r2.one;obtain⟨tk,rfl⟩:=ru;exact call_meetsIn F.slot_dict_get kU.dictOf.typeIs F.entry_dict_get (F.args_dict_get_2 _ _) (meets_dict_get (strKind X.prog X.w) a (strKind_is X.prog X.w z tk) h0) ⟨_,kU.dictOf.mapOf,_,H2,I2.tok _,L9 (d:=.ay) (r.look z) rfl,q2⟩
 .obtain⟨u,u',rfl,ru,SH⟩:=r2.two;obtain⟨tk,rfl⟩:=ru;exact call_meetsIn F.slot_dict_get kU.dictOf.typeIs F.entry_dict_get (F.args_dict_get_3 _ _ _) (meets_dict_get_default (strKind X.prog X.w) a (strKind_is X.prog X.w z tk) h0 u') ⟨_,kU.dictOf.mapOf,_,H2,I2.tok _,L9 (r.look z) SH,q2⟩
end
theorem SJ:entryFor table "dict_itemiterator.__iter__"=some Builtin.«dict_keyiterator.__iter__»:=entryFor_alias (id':="dict_keyiterator.__iter__") (by kernel_rfl) rfl (by decide +kernel) (by kernel_rfl)
def L'(P:Program)(w:World)(d:Addr)(ep n:Nat):It :=
 ⟨fun i H=>i<n/\∃aq,H d=some (DQ P w d ep aq)/\aq.length=n,fun i H x H'=>H'=H/\∀aq,H d=some (DQ P w d ep aq)->∃p,aq[i]? = some p/\x=.str p.1,fun i H=>n<=i/\∃aq,H d=some (DQ P w d ep aq)/\aq.length=n⟩
def Ma(P:Program)(w:World)(d:Addr)(ep n:Nat):It :=
 ⟨fun i H=>i<n/\∃aq,H d=some (DQ P w d ep aq)/\aq.length=n,fun i H x H'=>H'=H/\∀aq,H d=some (DQ P w d ep aq)->∃p,aq[i]? = some p/\x=p.2,fun i H=>n<=i/\∃aq,H d=some (DQ P w d ep aq)/\aq.length=n⟩
def Mb(P:Program)(w:World)(d:Addr)(ep n:Nat):It :=
 ⟨fun i H=>i<n/\∃aq,H d=some (DQ P w d ep aq)/\aq.length=n,fun i H x H'=>∃T p,x=.ref T/\H T=none/\H'=upd H T (.tup [.str p.1,p.2])/\∀aq,H d=some (DQ P w d ep aq)->aq[i]? = some p,fun i H=>n<=i/\∃aq,H d=some (DQ P w d ep aq)/\aq.length=n⟩
section
variable{P:Program}{w:World}{K:au}{tg:Expr}
def SK(d it:Addr)(ep n:Nat):nu P w K tg (L' P w d ep n) [it] it (fun i h=>h.IsKeyIter it d i n ep):=by
 refine⟨by simp,fun i h st b hb=>?_,fun i h h' st k=>st.at fun o e=>k it (by simp) o e,?_,?_,fun _ _ _ _ _ st h=>wpAny_pyIter_keyiter st h⟩
 .obtain rfl:b=it:=by simpa using hb
  obtain⟨o,e1,_,d⟩:=st;exact⟨o,e1,fun v z=>by rw[d]at z;cases z⟩
 .intro X e1 e2 e3 hc i pins s σ H E I hf st ⟨hi,aq,hq,hn⟩;subst e1 e2 e3;obtain⟨h0,hz,vs,r,dd⟩:=dP I hq;have hl:vs.length=n:=by rw[<- Paired.length r];exact hn
  subst hn;obtain⟨p,hp⟩:∃p,aq[i]? = some p:=⟨_,Yh hi⟩;obtain⟨u,hu,ru⟩:=xZ r hp;obtain⟨f0,f1,_,f3,f4,f5⟩:=hf it (by simp);rw[<- hl]at st ⊢;refine wpAny_pyNext_dict_item st dd hu fun key h' hk dE sb=>?_;obtain⟨tk,rfl⟩:=Value.isStrOf_shape hk;have J1:Inv X pins σ H { s with heap:=h' }:=I.turned (t':=s.toks) (fun b o hb z=>(sb.2 b hb).trans z) f0 f1 f3 f4 f5;obtain⟨o,z1,z2,z3⟩:=id dE;refine⟨_,rfl,uT (s:={ s with heap:=h' }) z1 z2 z3 (by decide) ⟨.str p.1,H,J1,⟨_,rfl⟩,⟨rfl,fun ys hy=>?_⟩,dE,fun b hb=>(hf b hb).1⟩⟩;rw[E_ I hy hq];exact⟨p,hp,rfl⟩
 .intro X e1 e2 e3 hc i pins s σ H E I hf st ⟨hi,aq,hq,hn⟩;subst e1 e2 e3;obtain⟨h0,hz,vs,r,dd⟩:=dP I hq;have hl:vs.length=n:=by rw[<- Paired.length r];exact hn
  obtain⟨f0,f1,_,f3,f4,f5⟩:=hf it (by simp);rw[<- hl]at st;exact wpAny_pyNext_dict_end (I.ok.hd hc) st dd (YI.mpr (by rw[hl];exact hi)) fun h' eb=>⟨rfl,I.turned (t':=s.toks) (fun b o hb z=>eb b o hb z) f0 f1 f3 f4 f5⟩
def SM(d it:Addr)(ep n:Nat):nu P w K tg (Ma P w d ep n) [it] it (fun i h=>h.IsValIter it d i n ep):=by
 refine⟨by simp,fun i h st b hb=>?_,fun i h h' st k=>st.at fun o e=>k it (by simp) o e,?_,?_,fun _ _ _ _ _ st h=>wpAny_pyIter_valiter st h⟩
 .obtain rfl:b=it:=by simpa using hb
  obtain⟨o,e1,_,d⟩:=st;exact⟨o,e1,fun v z=>by rw[d]at z;cases z⟩
 .intro X e1 e2 e3 hc i pins s σ H E I hf st ⟨hi,aq,hq,hn⟩;subst e1 e2 e3;obtain⟨h0,hz,vs,r,dd⟩:=dP I hq;have hl:vs.length=n:=by rw[<- Paired.length r];exact hn
  subst hn;obtain⟨p,hp⟩:∃p,aq[i]? = some p:=⟨_,Yh hi⟩;obtain⟨u,hu,ru⟩:=xZ r hp;obtain⟨f0,f1,_,f3,f4,f5⟩:=hf it (by simp);rw[<- hl]at st ⊢;refine wpAny_pyNext_values_item st dd hu fun h' dE sb=>?_;have J1:Inv X pins σ H { s with heap:=h' }:=I.turned (t':=s.toks) (fun b o hb z=>(sb.2 b hb).trans z) f0 f1 f3 f4 f5;obtain⟨o,z1,z2,z3⟩:=id dE;refine⟨_,rfl,uT (s:={ s with heap:=h' }) z1 z2 z3 (by decide) ⟨p.2,H,J1,ru,⟨rfl,fun ys hy=>?_⟩,dE,fun b hb=>(hf b hb).1⟩⟩;rw[E_ I hy hq];exact⟨p,hp,rfl⟩
 .intro X e1 e2 e3 hc i pins s σ H E I hf st ⟨hi,aq,hq,hn⟩;subst e1 e2 e3;obtain⟨h0,hz,vs,r,dd⟩:=dP I hq;have hl:vs.length=n:=by rw[<- Paired.length r];exact hn
  obtain⟨f0,f1,_,f3,f4,f5⟩:=hf it (by simp);rw[<- hl]at st;exact wpAny_pyNext_values_end (I.ok.hd hc) st dd (YI.mpr (by rw[hl];exact hi)) fun h' eb=>⟨rfl,I.turned (t':=s.toks) (fun b o hb z=>eb b o hb z) f0 f1 f3 f4 f5⟩
def SN(d it:Addr)(ep n:Nat):nu P w K (.Tuple elts k0 pos) (Mb P w d ep n) [it] it (fun i h=>∃ok ov,IsItemIter h it d i n ep ok ov):=by
 refine⟨by simp,fun i h ⟨ok,ov,st⟩ b hb=>?_,fun i h h' ⟨ok,ov,st⟩ k=>⟨ok,ov,k it (by simp) _ st⟩,?_,?_,fun _ _ _ _ _ ⟨ok,ov,st⟩ h=>?_⟩
 .obtain rfl:b=it:=by simpa using hb
  exact⟨_,st,fun v z=>nomatch z⟩
 .rintro X e1 e2 e3 hc i pins s σ H E I hf ⟨ok,ov,st⟩ ⟨hi,aq,hq,hn⟩;subst e1 e2 e3;obtain⟨h0,hz,vs,r,dd⟩:=dP I hq;have hl:vs.length=n:=by rw[<- Paired.length r];exact hn
  subst hn;obtain⟨p,hp⟩:∃p,aq[i]? = some p:=⟨_,Yh hi⟩;obtain⟨u,hu,ru⟩:=xZ r hp;rw[<- hl]at st ⊢;refine wpAny_pyNext_items_item st dd hu fun key h' hk a1 a2 a3 SO=>?_;obtain⟨tk,rfl⟩:=Value.isStrOf_shape hk;refine⟨_,rfl,wpAny_letOwnedTupleGo_items a1 fun qp xA sb=>?_⟩;have nz:s.heap.objs.size≠it:=lI (Ym st);have xB:IsTup qp s.heap.objs.size [Value.str p.1 tk,u].toArray:=⟨_,sb.extBut _ _ nz a2,rfl,_,rfl⟩;have I':Inv X pins σ (upd H s.heap.objs.size (.tup [.str p.1,p.2])) { s with heap:=qp }:=I.gd (t':=s.toks) (ch:=[it]) hf (fun b o hb q=>by
   have hb:b≠it:=by simpa using hb
   exact sb.extBut _ _ hb (SO b o hb q)) (Yk _) ⟨by show 2<=sizeLine;decide,[Value.str p.1 tk,u],.cons ⟨_,rfl⟩ (.cons ru .nil),xB⟩
  have hn:H s.heap.objs.size=none:=I.aE.fresh (Yk _);refine⟨.ref s.heap.objs.size,_,I',rfl,⟨_,p,rfl,hn,rfl,fun zs j9=>by rw[E_ I j9 hq];exact hp⟩,⟨_,_,xA⟩,fun b hb=>?_⟩;have xC:=(hf b hb).1;have:b≠s.heap.objs.size:=by
   obtain rfl:b=it:=by simpa using hb
   exact Ne.symm nz
  rw[Zn this];exact xC
 .rintro X e1 e2 e3 hc i pins s σ H E I hf ⟨ok,ov,st⟩ ⟨hi,aq,hq,hn⟩;subst e1 e2 e3;obtain⟨h0,hz,vs,r,dd⟩:=dP I hq;have hl:vs.length=n:=by rw[<- Paired.length r];exact hn
  rw[<- hl]at st;exact wpAny_pyNext_items_end (I.ok.hd hc) st dd (YI.mpr (by rw[hl];exact hi)) fun h' eb=>⟨rfl,I.gf (t':=s.toks) (ch:=[it]) hf (fun b o hb q=>eb b o (by simpa using hb) q)⟩
 .refine wpAny_pyIter_slot (T:="dict_itemiterator") ⟨_,st,rfl⟩ F.slot_dict_itemiterator_iter (Y1 F.slot_dict_itemiterator_iter ⟨_,st,rfl⟩ SJ ?_ (F.args_dict_itemiterator_iter_1 _));show wpAny _ _ (ret (.ref it)) _ _ _;exact Ye ⟨_,rfl,"dict_itemiterator",_,⟨_,st,rfl⟩,F.slot_dict_itemiterator_next.lookup,h⟩
end
def Mc(P:Program)(w:World):V->Hp->(It->Hp->Prop)->Prop:=fun v H R=>∃d ep aq,v=.ref d/\H d=some (DQ P w d ep aq)/\R (L' P w d ep aq.length) H
def Md(P:Program)(w:World):V->Hp->(It->Hp->Prop)->Prop:=fun v H R=>∃d ep aq,v=.ref d/\H d=some (DQ P w d ep aq)/\R (Ma P w d ep aq.length) H
def Me(P:Program)(w:World):V->Hp->(It->Hp->Prop)->Prop:=fun v H R=>∃d ep aq,v=.ref d/\H d=some (DQ P w d ep aq)/\R (Mb P w d ep aq.length) H
section
variable{X:Cx}{tg a o:Expr}{te:TE}{apos aM:Pos}
def Mf(hl:PE X a te):PI X tg a (xr (Mc X.prog X.w) te):=by
 intro pins s σ H R I h;refine aK (hl pins s σ H _ I h) fun v s1 aH=>?_;obtain⟨x,H1,I1,r1,q1⟩:=aH;obtain⟨d,ep,aq,rfl,hq,q⟩:=q1;cases r1;obtain⟨h0,hz,vs,r,dd⟩:=dP I1 hq;have hl:aq.length=vs.length:=Paired.length r;refine wpAny_pyIter_dict h0 dd ?_;refine⟨s1.heap.objs.size,[s1.heap.objs.size],_,_,H1,rfl,I1.kept (t':=s1.toks) fun b o e=>Yd _ e,SK d _ ep aq.length,⟨_,Yl _ rfl,rfl,by rw[hl];rfl⟩,fun b hb=>?_,q⟩;obtain rfl:b=s1.heap.objs.size:=by simpa using hb
 exact I1.fZ (Yk _) I1.fresh
def vq{h:Heap}(dd:h.DictAt (strKind P w) d vs ep):(h.push ob).DictAt (strKind P w) d vs ep:=dd.push ob
def Mg(ho:PE X o te)(cW:attributeBase o "values" X.env (eval o X.env)=eval o X.env:=by rfl)(cX:(apos.endLine==aM.line)=true:=by rfl):PI X tg (.Call (.Attribute o "values" apos) [] [] aM) (xr (Md X.prog X.w) te):=by
 intro pins s σ H R I h;refine wpAny_Call_method0_late cW cX (aK (ho pins s σ H _ I h) fun v s1 aH=>?_);obtain⟨x,H1,I1,r1,q1⟩:=aH;obtain⟨d,ep,aq,rfl,hq,q⟩:=q1;cases r1;obtain⟨h0,hz,vs,r,dd⟩:=dP I1 hq;have hl:aq.length=vs.length:=Paired.length r;refine⟨"dict","dict.values",F.plainAttrs_dict,F.slot_dict_values,F.type_dict_values,dd.dictOf.typeIs,dd.dictOf.mapOf.noDict,p9 rfl (PySem.evalArgs_none (call_meetsIn F.slot_dict_values dd.dictOf.typeIs F.entry_dict_values (F.args_dict_values_1 _) (meets_dict_values (strKind X.prog X.w) d h0) ⟨⟨vs,dd.dictOf⟩,?_⟩))⟩;refine wpAny_pyIter_values (s:={ s1 with heap:=s1.heap.push _ }) (v:=s1.heap.objs.size) ⟨_,Yl _ rfl,rfl,rfl⟩ (vq dd) ?_;have hsz:(s1.heap.push { cls:=.type "dict_values",data:=.fields #[.ref d] }).objs.size=s1.heap.objs.size+1:=by simp[Heap.push]
 refine⟨_,[_],_,_,H1,rfl,I1.kept (t':=s1.toks) fun b o e=>Yd _ (Yd _ e),SM d _ ep aq.length,⟨_,Yl _ rfl,rfl,by rw[hl];rfl⟩,fun b hb=>?_,q⟩;obtain rfl:=Yn.mp hb;have hle:s1.heap.objs.size<=(s1.heap.push { cls:=.type "dict_values",data:=.fields #[.ref d] }).objs.size:=by rw[hsz];exact fV _
 exact I1.fZ hle (I1.aE.fresh hle)
def vt(ho:PE X o te)(cW:attributeBase o "items" X.env (eval o X.env)=eval o X.env:=by rfl)(cX:(apos.endLine==aM.line)=true:=by rfl):PI X (.Tuple elts k0 tp) (.Call (.Attribute o "items" apos) [] [] aM) (xr (Me X.prog X.w) te):=by
 intro pins s σ H R I h;refine wpAny_Call_method0_late cW cX (aK (ho pins s σ H _ I h) fun v s1 aH=>?_);obtain⟨x,H1,I1,r1,q1⟩:=aH;obtain⟨d,ep,aq,rfl,hq,q⟩:=q1;cases r1;obtain⟨h0,hz,vs,r,dd⟩:=dP I1 hq;have hl:aq.length=vs.length:=Paired.length r;refine⟨"dict","dict.items",F.plainAttrs_dict,F.slot_dict_items,F.type_dict_items,dd.dictOf.typeIs,dd.dictOf.mapOf.noDict,p9 rfl (PySem.evalArgs_none (call_meetsIn F.slot_dict_items dd.dictOf.typeIs F.entry_dict_items (F.args_dict_items_1 _) (meets_dict_items (strKind X.prog X.w) d h0) ⟨⟨vs,dd.dictOf⟩,?_⟩))⟩;refine wpAny_pyIter_items (s:={ s1 with heap:=s1.heap.push _ }) (v:=s1.heap.objs.size) ⟨_,Yl _ rfl,rfl,rfl⟩ (vq dd) ?_;have hsz:(s1.heap.push { cls:=.type "dict_items",data:=.fields #[.ref d] }).objs.size=s1.heap.objs.size+1:=by simp[Heap.push]
 refine⟨_,[_],_,_,H1,rfl,I1.kept (t':=s1.toks) fun b o e=>Yd _ (Yd _ e),SN d _ ep aq.length,⟨.none,.none,by rw[hl];exact Yl _ rfl⟩,fun b hb=>?_,q⟩;obtain rfl:=Yn.mp hb;have hle:s1.heap.objs.size<=(s1.heap.push { cls:=.type "dict_items",data:=.fields #[.ref d] }).objs.size:=by rw[hsz];exact fV _
 exact I1.fZ hle (I1.aE.fresh hle)
end
def fK(p:Str×U):U:=.str p.1
def fI(p:Str×U):U:=.tup [.str p.1,p.2]
def Fb(P:Program)(w:World)(f:Str×U->U)(a:Addr)(ep n:Nat):dk:=fun i A r=>∃kus,A a=some (dS P w ep kus)/\kus.length=n/\r=(kus.map f)[i]?
def Ba(P:Program)(w:World)(f:Str×U->U):U->aw->(dk->aw->Prop)->Prop:=fun u A R=>∃a ep kus,u=.ref a/\A a=some (dS P w ep kus)/\R (Fb P w f a ep kus.length) A
section
variable{P:Program}{w:World}{K:au}
def cb.get(r:cb K H kus aq){i:Nat}{p:Str×U}(h:kus[i]? = some p):∃v,aq[i]? = some (p.1,v)/\RU K H p.2 v:=by
 obtain⟨e,r⟩:=r;have h1:(kus.map (·.1))[i]? = some p.1:=by rw[Yj,h];rfl
 have h2:(kus.map (·.2))[i]? = some p.2:=by rw[Yj,h];rfl
 rw[e,Yj]at h1;obtain⟨q,hq,e1⟩:=YM.mp h1;obtain⟨v,hv,rv⟩:=r.get' h2;rw[Yj,hq]at hv;have e2:q.2=v:=YA hv;exact⟨v,by rw[hq,<- e1,<- e2],rv⟩
def ZhT:sF K (Mc P w) (Ba P w fK):=fun x v A H R' R r g wh k=>by
 obtain⟨a,ep,kus,rfl,e,wh⟩:=wh
 cases r
 obtain⟨aq,h1,rr⟩:=fO g e
 refine⟨a,ep,aq,rfl,h1,k _ _ _ _ (.refl H) g (fun i A2 H2 r k2 g2 ⟨mx,e2,hn,hr⟩=>?_) wh⟩
 obtain⟨c6,h2,qA⟩:=fO g2 e2
 have jZ:c6.length=aq.length:=by rw[<- qA.len,<- rr.len];exact hn
 subst hr
 cases hp:mx[i]? with
 | none =>
  rw[Yj,hp]
  exact⟨by rw[<- rr.len,<- hn];exact YI.mp hp,c6,h2,jZ⟩
 | some p =>
  rw[Yj,hp]
  obtain⟨v,hv,rv⟩:=qA.get hp
  have hi:=(Yg.mp hp).1
  refine⟨⟨by rw[<- rr.len,<- hn];exact hi,c6,h2,jZ⟩,?_⟩
  rintro x H' ⟨rfl,hx⟩
  obtain⟨q,hq,rfl⟩:=hx c6 h2
  rw[hv]at hq
  cases hq
  exact⟨.refl _,g2,.str _⟩
def Zsn:sF K (Md P w) (Ba P w (·.2)):=fun x v A H R' R r g wh k=>by
 obtain⟨a,ep,kus,rfl,e,wh⟩:=wh
 cases r
 obtain⟨aq,h1,rr⟩:=fO g e
 refine⟨a,ep,aq,rfl,h1,k _ _ _ _ (.refl H) g (fun i A2 H2 r k2 g2 ⟨mx,e2,hn,hr⟩=>?_) wh⟩
 obtain⟨c6,h2,qA⟩:=fO g2 e2
 have jZ:c6.length=aq.length:=by rw[<- qA.len,<- rr.len];exact hn
 subst hr
 cases hp:mx[i]? with
 | none =>
  rw[Yj,hp]
  exact⟨by rw[<- rr.len,<- hn];exact YI.mp hp,c6,h2,jZ⟩
 | some p =>
  rw[Yj,hp]
  obtain⟨v,hv,rv⟩:=qA.get hp
  have hi:=(Yg.mp hp).1
  refine⟨⟨by rw[<- rr.len,<- hn];exact hi,c6,h2,jZ⟩,?_⟩
  rintro x H' ⟨rfl,hx⟩
  obtain⟨q,hq,rfl⟩:=hx c6 h2
  rw[hv]at hq
  cases hq
  exact⟨.refl _,g2,rv⟩
def ZhL:sF K (Me P w) (Ba P w fI):=fun x v A H R' R r g wh k=>by
 obtain⟨a,ep,kus,rfl,e,wh⟩:=wh
 cases r
 obtain⟨aq,h1,rr⟩:=fO g e
 refine⟨a,ep,aq,rfl,h1,k _ _ _ _ (.refl H) g (fun i A2 H2 r k2 g2 ⟨mx,e2,hn,hr⟩=>?_) wh⟩
 obtain⟨c6,h2,qA⟩:=fO g2 e2
 have jZ:c6.length=aq.length:=by rw[<- qA.len,<- rr.len];exact hn
 subst hr
 cases hp:mx[i]? with
 | none =>
  rw[Yj,hp]
  exact⟨by rw[<- rr.len,<- hn];exact YI.mp hp,c6,h2,jZ⟩
 | some p =>
  rw[Yj,hp]
  obtain⟨v,hv,rv⟩:=qA.get hp
  have hi:=(Yg.mp hp).1
  refine⟨⟨by rw[<- rr.len,<- hn];exact hi,c6,h2,jZ⟩,?_⟩
  rintro x H' ⟨T,q,rfl,hT,rfl,hx⟩
  have hq:=hx c6 h2
  rw[hv]at hq
  cases hq
  have s:=a_.az (o:=.tup [.str p.1,v]) hT
  exact⟨s.kp,g2.grow s,.tup (bo.of Zs) (.cons (.str _) (.one (rv.same s.kp)))⟩
variable{A:aw}{R:dk->aw->Prop}{a:Addr}{f:Str×U->U}
def ZtR:Ba P w f (.ref a) A R=∃ep kus,A a=some (dS P w ep kus)/\R (Fb P w f a ep kus.length) A:=propext ⟨fun aD=>by obtain⟨_,ep,kus,e,h⟩:=aD;cases e;exact⟨ep,kus,h⟩,fun⟨ep,kus,h⟩=>⟨a,ep,kus,rfl,h⟩⟩
def vw(kus:List (Str×U))(Pv:Nat->aQ->aw->Prop)(h0:Pv 0 ρ A)(hl:∀k ρ A,k<=kus.length->Pv k ρ A->A a=some (dS P w ep kus))(hs:∀k p ρ A,kus[k]? = some p->Pv k ρ A->g (f p) ρ A fun dM A2=>b { D with nx:=Pv (k+1),ct:=Pv (k+1),bk:=D.nx } dM A2)(hd:∀ρ A,Pv kus.length ρ A->D.nx ρ A):sD (Fb P w f a ep kus.length) g b D ρ A :=
 AR (kus.map f) Pv h0 (fun k ρ A hk p=>⟨kus,hl k ρ A (by simpa using hk) p,rfl,rfl⟩) (fun k u ρ A hu p=>by
  rw[Yj]at hu
  obtain⟨q,hq,rfl⟩:=YM.mp hu
  exact hs k q ρ A hq p) (by rw[Yc];exact hd)
end
section
variable{prog:Program}{w:World}{A:Around}{E:Value->Shared->Prop}{s:Shared}
theorem SQ(hh:A.handled=none)(hd:(d==sysModules)=false)(Fc:S≠d)(dd:s.heap.DictAt (strKind prog w) d vs ep)(hn:vs.length<=sizeLine)(hS:s.heap.get? S=some { cls:=.type "list",data:=.seq #[] c })(hR:∀s' acc c',Moved [S,s.heap.objs.size] (fun a b=>b=a) s s'->s'.heap.get? S=some { cls:=.type "list",dict:=none,data:=.seq acc c',slots:=#[] }->ItemsOf (fun i v=>∃k x,vs[i]? = some (k,x)/\(strKind prog w).is k v=true) acc vs.length->R (.ok (.ret .none)) s'):
  wpAny (model prog w) A.in1 (Builtin.List.listExtendWith (.ref S) (.ref d) .none)
   (fun fin s'=>match fin with|.done f=>R (.ok f) s'|.again c'=>c'.quiet=true/\codeAny (model prog w) A c' R s') (fun e s'=>R (.error e) s') s:=by
 have lS:S<s.heap.objs.size:=Ym hS;have ld:d<s.heap.objs.size:=dd.lt_size;have W:=(Walks.dictKeys (prog:=prog) (w:=w) (A:=A.in1) (knd:=strKind prog w) hh s.heap.objs.size d (Yo ld) vs ep).toS;have nf:S∉[s.heap.objs.size,d]:=fun z=>by
  simp only[Yp,YN,fH]at z;exact z.elim (Yo lS) Fc
 have apart:Builtin.List.listSameRef (.ref S) (.ref d)=false:=by simp[Builtin.List.listSameRef,Fc]
 have ty:s.TypeIs (.ref d) "dict":=dd.dictOf.typeIs;unfold Builtin.List.listExtendWith;refine Yb (rD ty ?_);rw[if_neg (by rw[apart];decide)];refine Yb (wpAny_pyIter_dict hd dd (Yb (YU ?_)));unfold Builtin.List.listLengthHint;have Fd:Shared.TypeIs { s with heap:=s.heap.push { cls:=.type "dict_keyiterator",data:=.fields #[.ref d,.int 0 0,.int vs.length 0,.int ep 0] } } (.ref d) "dict":=(vq dd).dictOf.typeIs;refine Yb (wpAny_specialOf Fd F.slot_dict_len.lookup ?_);generalize Fe:("dict.__len__":String)=Mh;(fail_if_success (clear Fe Mh));wp_delta;rw[show splitId Mh=some ("dict","__len__")from by subst Fe;decide +kernel];subst Fe;refine Yb (wB (b:=true) Fd (by rw[isSubtype_type];kernel_rfl) ?_);rw[if_neg (by decide)];refine(show wpAny _ _ (if _=true then _ else _) _ _ _ from ?_);rw[if_pos (by decide +kernel)];refine Yb (rD Fd (Ye (show wpAny _ _ (if _=true then _ else _) _ _ _ from ?_)));rw[if_pos (by decide +kernel)];refine Yb (qf ?_);unfold Builtin.List.listTouch;have jD:=Yd { cls:=.type "dict_keyiterator",data:=.fields #[.ref d,.int 0 0,.int vs.length 0,.int ep 0] } hS;have nR:=YE (Obj.mapSeq (fun x:Array Value=>x.push .none)) jD rfl;have Ff:=YE (Obj.mapSeq (fun x:Array Value=>x.pop)) nR rfl;refine Yb (Yb (show wpAny _ _ (updateSeq S (fun x=>x.push .none)) _ _ _ from oh jD rfl (show wpAny _ _ (updateSeq S (fun x=>x.pop)) _ _ _ from oh nR rfl ?_)));generalize x_:({ cls:=.type "dict_keyiterator",data:=.fields #[.ref d,.int 0 0,.int vs.length 0,.int ep 0] }:Obj)=ob at *;have kp:∀b o,b≠S->(s.heap.push ob).get? b=some o->(((s.heap.push ob).update S (Obj.mapSeq fun x=>x.push .none)).update S (Obj.mapSeq fun x=>x.pop)).get? b=some o:=fun b o hb e =>
  (YF _ _ (Ne.symm hb)).trans ((YF _ _ (Ne.symm hb)).trans e)
 have SR:Heap.IsKeyIter (((s.heap.push ob).update S (Obj.mapSeq fun x=>x.push .none)).update S (Obj.mapSeq fun x=>x.pop)) s.heap.objs.size d 0 vs.length ep/\Heap.DictAt (strKind prog w) (((s.heap.push ob).update S (Obj.mapSeq fun x=>x.push .none)).update S (Obj.mapSeq fun x=>x.pop)) d vs ep:=by
  refine⟨⟨ob,kp _ _ (Ne.symm (Yo lS)) (Yl _ (by subst x_;rfl)),by subst x_;rfl,by subst x_;rfl⟩,?_⟩;exact(vq dd).at' fun o e=>kp _ _ (Ne.symm Fc) e
 refine(show wpAny _ _ (again _) _ _ _ from Ye ⟨oq IC _,Iy W hn _ nf _ vs.length 0 _ _ _ rfl (Y9 _) SR Ff (ItemsOf.nil _) fun s' acc c' mv here got=>hR s' acc c' ?_ here got⟩);have m0:Moved [S,s.heap.objs.size] (fun a b:Array GenState=>b=a) s { s with heap:=((s.heap.push ob).update S (Obj.mapSeq fun x=>x.push .none)).update S (Obj.mapSeq fun x=>x.pop) }:=by
  refine Moved.then_heap (wr:=[S,s.heap.objs.size]) (G:=fun a b=>b=a) (s:=s) (s':=s) (Moved.refl (G:=fun a b=>b=a) (fun _=>rfl)) (Yk _) fun b o hb e=>kp b o (fun h=>hb (by rw[h];exact m_)) (Yd _ e)
 exact Moved.trans (fun _ _ _ h1 h2=>h2.trans h1) m0 mv
theorem SS(hh:A.handled=none)(hd:(d == sysModules)=false)(dd:s.heap.DictAt (strKind prog w) d vs ep)(hn:vs.length<=sizeLine)(hQ : ∀ s' acc c',Moved [s.heap.objs.size,s.heap.objs.size + 1] (fun a b=>b=a) { s with heap:=s.heap.push { cls:=.type "list",data:=.seq #[] } } s'->s'.heap.get? s.heap.objs.size=some { cls:=.type "list",dict:=none,data:=.seq acc c',slots:=#[] } ->
   ItemsOf (fun i v=>∃k x,vs[i]? = some (k,x)/\(strKind prog w).is k v=true) acc vs.length->Q (.ref s.heap.objs.size) s'):
  wpAny (model prog w) A (call (.type "list") [.ref d]) Q E s:=by
 have ld:d<s.heap.objs.size:=dd.lt_size;refine callType_codes (Q₁:=fun obj aG=>obj=.ref s.heap.objs.size/\aG={ s with heap:=s.heap.push { cls:=.type "list",data:=.seq #[] } }) F.called_list (F.typeCall_list_1 _) F.entry_list_init
  (code_list_new _ ⟨rfl,rfl⟩) fun obj aG bF=>?_
 obtain⟨rfl,rfl⟩:=bF;have hS:(s.heap.push { cls:=.type "list",data:=.seq #[] }).get? s.heap.objs.size=some { cls:=.type "list",data:=.seq #[] }:=Yl _ rfl;refine⟨⟨_,hS,rfl⟩,F.args_list_init_2 _ _,?_⟩;show wpAny _ A.in1.in1 (do let old <- Builtin.List.listItems (.ref s.heap.objs.size);Builtin.List.listUpdate (.ref s.heap.objs.size) (fun _=>#[]);letGo old.toList.reverse;Builtin.List.listExtendWith (.ref s.heap.objs.size) (.ref d) .none) _ _ _;refine Yb ?_;unfold Builtin.List.listItems;refine Yb (uN hS rfl (Ye ?_));show wpAny _ A.in1.in1 (updateSeq s.heap.objs.size (fun _=>#[])>>=fun _=>letGo (#[]:Array Value).toList.reverse>>=fun _=>Builtin.List.listExtendWith (.ref s.heap.objs.size) (.ref d) .none) _ _ _;refine Yb (oh hS rfl ?_);have ya:=YE (Obj.mapSeq (fun _=>(#[]:Array Value))) hS rfl;have cZ:∀b o,b≠s.heap.objs.size->(s.heap.push { cls:=.type "list",data:=.seq #[] }).get? b=some o->((s.heap.push { cls:=.type "list",data:=.seq #[] }).update s.heap.objs.size (Obj.mapSeq (fun _=>(#[]:Array Value)))).get? b=some o :=
  fun b o hb e=>(YF _ _ (Ne.symm hb)).trans e
 have sz:((s.heap.push { cls:=.type "list",data:=.seq #[] }).update s.heap.objs.size (Obj.mapSeq (fun _=>(#[]:Array Value)))).objs.size=s.heap.objs.size+1:=by simp[Heap.update,Heap.push]
 refine Yb (rE ?_);refine SQ (A:=A.in1) (s:={ s with heap:=(s.heap.push { cls:=.type "list",data:=.seq #[] }).update s.heap.objs.size (Obj.mapSeq (fun _=>(#[]:Array Value))) }) (c:=_) hh hd (lI ld) ((vq dd).at' fun o e=>cZ _ _ (Yo ld) e) hn ya fun s' acc c' mv here got=>?_;have m0:Moved [s.heap.objs.size,s.heap.objs.size+1] (fun a b:Array GenState=>b=a) { s with heap:=s.heap.push { cls:=.type "list",data:=.seq #[] } } { s with heap:=(s.heap.push { cls:=.type "list",data:=.seq #[] }).update s.heap.objs.size (Obj.mapSeq (fun _=>(#[]:Array Value))) } :=
  Moved.then_heap (wr:=[s.heap.objs.size,s.heap.objs.size+1]) (G:=fun a b=>b=a) (s:={ s with heap:=s.heap.push { cls:=.type "list",data:=.seq #[] } }) (s':={ s with heap:=s.heap.push { cls:=.type "list",data:=.seq #[] } }) (Moved.refl (G:=fun a b=>b=a) (fun _=>rfl)) (Yk _) fun b o hb e=>cZ b o (fun h=>hb (by rw[h];exact m_)) e
 have SU:Moved [s.heap.objs.size,s.heap.objs.size+1] (fun a b:Array GenState=>b=a) { s with heap:=(s.heap.push { cls:=.type "list",data:=.seq #[] }).update s.heap.objs.size (Obj.mapSeq (fun _=>(#[]:Array Value))) } s':=by
  rw[<- sz];exact mv
 exact⟨rfl,hQ s' acc c' (Moved.trans (fun _ _ _ h1 h2=>h2.trans h1) m0 SU) here got⟩
end
theorem Mi:∀ {xs:List V} {us:List Value},xs.length=us.length->(∀(i:Nat) x u,xs[i]? = some x->us[i]? = some u->aX x u)->ZU xs us
 | [],[],_,_=>.nil
 | x::xs,u::us,hl,h=>.cons (h 0 x u rfl rfl) (Mi (by simpa using hl) fun i a b ha hb=>h (i+1) a b (by simpa using ha) (by simpa using hb))
section
variable{X:Cx}
def Mj(P:Program)(w:World):List V->Hp->VK->Prop:=fun vs H Q=>∃d ep aq,vs=[.ref d]/\H d=some (DQ P w d ep aq)/\∀l,H l=none->Q (.ref l) (upd H l (.lst (aq.map fun p=>.str p.1)))
def Ml(hc:X.calm=true):Z4 X (.type "list") (Mj X.prog X.w):=by
 intro pins s σ H xs us Q I r h;obtain⟨d,ep,aq,rfl,hq,q⟩:=h;obtain⟨u,rfl,ru⟩:=r.one;cases ru;obtain⟨h0,hz,vs,r,dd⟩:=dP I hq;have hl:aq.length=vs.length:=Paired.length r;refine SS (I.ok.hd hc) h0 dd (by rw[<- hl];exact hz) fun s' acc c' mv here got=>?_;have e':=RV mv;have sz:(s.heap.push { cls:=.type "list",data:=.seq #[] }).objs.size=s.heap.objs.size+1:=Array.size_push ..;have kp:∀b o,s.heap.get? b=some o->s'.heap.get? b=some o:=fun b o z=>mv.heap b o (by
  have:=Ym z;simp only[Yp,YN,fH,not_or];exact⟨Yo this,Yo (YR this)⟩) (Yd _ z)
 have rv:ZU (aq.map fun p=>V.str p.1) acc.toList:=by
  refine Mi (by rw[Yc,hl];exact got.1.symm) fun i x u hx hu=>?_;rw[Yj]at hx;obtain⟨p,hp,rfl⟩:=YM.mp hx;rw[rn]at hu;obtain⟨k,y,h1,h2⟩:=got.2 i u hu;obtain⟨u',h3,_⟩:=xZ r hp;rw[h1]at h3;cases h3;obtain⟨t,rfl⟩:=Value.isStrOf_shape h2;exact⟨t,rfl⟩
 have I3:Inv X pins σ (upd H s.heap.objs.size (.lst (aq.map fun p=>.str p.1))) { s with heap:=s'.heap,toks:=s'.toks } :=
  I.laid (t':=s'.toks) kp (Yk _) (show dD X.prog X.w _ s'.heap _ (.lst (aq.map fun p=>.str p.1))from⟨by rw[Yc];exact hz,acc.toList,c',rv,here⟩)
 rw[show s'={ s with heap:=s'.heap,toks:=s'.toks }from e'];exact⟨.ref s.heap.objs.size,_,I3,rfl,q _ I.fresh⟩
end
section
variable{P:Program}{w:World}{K:au}
def Mm(P:Program)(w:World):List U->aw->bc->Prop:=fun us A Q=>∃p ep kus,us=[.ref p]/\A p=some (dS P w ep kus)/\∀l,A l=none->Q (.ref l) (af A l (.lst (kus.map fK)))
def ZeF:hG K (Mj P w) (Mm P w):=fun vs us A H Q' Q r g h k=>by
 obtain⟨p,ep,kus,rfl,e,q⟩:=h
 obtain⟨v,rfl,r'⟩:=r.inv1
 cases r'
 obtain⟨aq,h1,rr⟩:=fO g e
 refine⟨p,ep,aq,rfl,h1,fun l hl=>k _ _ _ _ (a_.az hl).kp (g.fj hl ?_) (.ref l) (q l (g.none hl))⟩
 have:kus.map fK=(kus.map (·.1)).map U.str:=by rw[jk];rfl
 have h2:(aq.map fun p=>V.str p.1)=(aq.map (·.1)).map V.str:=by rw[jk];rfl
 rw[this,h2,rr.1]
 exact aJ.cY
def Zlk:Mm P w [.ref p] A Q=∃ep kus,A p=some (dS P w ep kus)/\∀l,A l=none->Q (.ref l) (af A l (.lst (kus.map fK))):=propext ⟨fun aD=>by obtain⟨_,ep,kus,e,h⟩:=aD;cases e;exact⟨ep,kus,h⟩,fun⟨ep,kus,h⟩=>⟨p,ep,kus,rfl,h⟩⟩
def Fh:List U->Option (Str×U)
 | [.str z]=>some (z,.ay)
 | [.str z,d]=>some (z,d)
 | _=>none
def Mn(P:Program)(w:World)(ao:AE)(l:AA):AE:=fun ρ A Q=>ao ρ A fun x A1=>∃a ep kus,x=.ref a/\A1 a=some (dS P w ep kus)/\l ρ A1 fun us A2=>∃z d aF cB,Fh us=some (z,d)/\A2 a=some (dS P w aF cB)/\Q ((cB.lookup z).getD d) A2
def ZkV{l:AA}(ho:aV K to ao)(hl:fk K t l):aV K (L8 P w to t) (Mn P w ao l):=fun ρ A σ H Q' Q hs g wh k =>
 ho ρ A σ H _ _ hs g wh fun x A1 v1 H1 k1 g1 r1 aD=>by
  obtain⟨a,ep,kus,e1,e2,q⟩:=aD
  subst e1
  cases r1
  obtain⟨aq,h1,rr⟩:=fO g1 e2
  refine⟨a,ep,aq,rfl,h1,hl ρ A1 σ H1 _ _ (hs.same k1) g1 q fun us A2 vs H2 k2 g2 r2 aH=>?_⟩
  obtain⟨z,d,aF,cB,e3,e4,q2⟩:=aH
  obtain⟨cA,h2,yb⟩:=fO g2 e4
  have fin:∀dv,RU K H2 d dv->Q ((cA.lookup z).getD dv) H2:=fun dv rd=>by
   refine k _ _ _ _ (k1.trans k2) g2 ?_ q2
   cases e:cB.lookup z with
   | none=>rw[yb.miss e];exact rd
   | some u=>obtain⟨v,hv,rv⟩:=yb.look e;rw[hv];exact rv
  unfold Fh at e3
  split at e3
  .cases e3
   obtain⟨v,rfl,rv⟩:=r2.inv1
   cases rv
   exact⟨z,.ay,aF,cA,.inl ⟨rfl,rfl⟩,h2,fin _ .ay⟩
  .cases e3
   cases r2 with
   | cons rv r2 =>
    cases rv
    obtain⟨v,rfl,rv⟩:=r2.inv1
    exact⟨z,v,aF,cA,.inr rfl,h2,fin _ rv⟩
  .cases e3
def ZnQ{l:AA}:Mn P w ao l ρ A Q=ao ρ A fun x A1=>∃a ep kus,x=.ref a/\A1 a=some (dS P w ep kus)/\l ρ A1 fun us A2=>∃z d aF cB,Fh us=some (z,d)/\A2 a=some (dS P w aF cB)/\Q ((cB.lookup z).getD d) A2:=rfl
end
def Bb(P:Program)(w:World)(nt:Nat)(bx:List (Str×Nat))(wi:TI)(g:TG)(tt:TT)(tk tv:TE):TE:=fun σ H Q=>wi σ H fun J H1=>∀l,H1 l=none->∃W:Nat->Nat->St->Hp->Prop,(∃m,W 0 m (mf nt bx σ) (upd H1 l (DQ P w l 0 []))) /\
 ∀i m τ H,W i m τ H->(J.stop i H/\Q (.ref l) H)\/(J.go i H/\∀x H',J.rM i H x H'->g x τ H' fun aR H2=>tt aR H2 fun ok H3 =>
  if ok=true then tk aR H3 fun k H4=>tv aR H4 fun v H5=>∃z ep aq,k=.str z/\H5 l=some (DQ P w l ep aq)/\aq.length<sizeLine/\∀aF,∃m',m'<m/\W (i+1) m' aR (upd H5 l (DQ P w l aF (de z v aq)))else ∃m',m'<m/\W (i+1) m' aR H3)
def SV(I:Nat->Shared->Prop)(turn : ∀ n s,I n s->wpAny (model prog w) A (pyNext it) (fun r aG=>match r with
   | none=>R (.ok .next) aG
   | some v => wpAny (model prog w) A (letOwnedTupleGo target it v) (fun _ gZ=>wpAny (model prog w) A (assign target env v) (fun _ gS =>
     wpAny (model prog w) A (forIn ifs true fun c r=>if r=true then do let ok <- isTrue c env (eval c env);pure (ForInStep.yield ok)else pure (ForInStep.yield r)) (fun ok iX =>
      if ok=true then wpAny (model prog w) A (eval kx env) (fun kv l8=>wpAny (model prog w) A (eval vx env) (fun vv l_ =>
       wpAny (model prog w) A (dictSet D kv vv) (fun _ yc=>∃m,m<n/\I m yc) (fun _ _=>False) l_) (fun _ _=>False) l8) (fun _ _=>False) iX
      else ∃m,m<n/\I m iX) (fun _ _=>False) gS) (fun _ _=>False) gZ) (fun _ _=>False) aG) (fun _ _=>False) s)(n:Nat)(h:I n s):
  codeAny (model prog w) A (.compLoop (.DictComp kx vx [⟨target,iter,ifs,0⟩] scope pos) 0 it (.ref D) env) R s:=by
 refine codeAny_loop rfl I (fun n s hI=>?_) n h;show wpAny _ A ((compTurn (.DictComp kx vx [⟨target,iter,ifs,0⟩] scope pos) 0 it (.ref D) env).onRaise (fun x=>do noteFrame x env;theTreesLotGoes x)) _ _ s;refine wpAny_noted ?_;rw[compTurn_dict];refine Yb (oo (Yb (YH (turn n s hI) (fun r aG bF=>?_) fun _ _ h'=>h'.elim)));cases r with
 | none=>exact Ye bF
 | some v =>
  refine Yb (YH bF (fun _ gZ ma=>Yb (YH ma (fun _ gS r8=>Yb (YH r8 (fun ok iX md=>?_) fun _ _ h'=>h'.elim)) fun _ _ h'=>h'.elim)) fun _ _ h'=>h'.elim);cases ok with
  | false=>exact Ye ⟨rfl,md⟩
  | true =>
   exact Yb (Yb (YH md (fun kv l8 r9=>Yb (YU (YH r9 (fun vv l_ r_=>Yb (oo (YU (YH r_ (fun _ yc Fi=>Ye ⟨rfl,Fi⟩) fun _ _ h'=>h'.elim)))) fun _ _ h'=>h'.elim))) fun _ _ h'=>h'.elim))
theorem Mo(hc:X.calm=true)(S:ZS X scope cl ts frs')(hi:PI X tg iter wi)(hg:∀ pins s H fp,PG (X.comp scope cl (ts++frs'.map (·.1)) pins s H fp) tg g)(ht:∀ pins s H fp,qk (X.comp scope cl (ts++frs'.map (·.1)) pins s H fp) ifs tt)(hk:∀ pins s H fp,PE (X.comp scope cl (ts++frs'.map (·.1)) pins s H fp) kx tk)(hv:∀ pins s H fp,PE (X.comp scope cl (ts++frs'.map (·.1)) pins s H fp) vx tv)(hs:∀ x,foldedSetIterable iter X.env x=pure x)(I:Inv X pins σ H s)(h:Bb X.prog X.w ts.length frs' wi g tt tk tv σ H Q)(si:∀ (C D:Addr) (H5:Hp) (s6:Shared) (m6:Str->Option Value),Inv X pins σ H5 s6->s6.heap.Ns C m6->gG X pins H5 C->(∀ h',Heap.SameBut C s6.heap h'->Inv X pins σ H5 { s6 with heap:=h' })->Q (.ref D) H5 ->
   compPost (model X.prog X.w) X.A X.xe use Qv (.ref D) C (.ok .next) s6):
  wpAny (model X.prog X.w) X.A (comprehension (.DictComp kx vx [⟨tg,iter,ifs,0⟩] scope pos) scope X.env DS newDict false (eval iter X.env) use) Qv X.xe s:=by
 refine wpAny_comprehension_free (use:=use) (cl:=cl) rfl hs S.xo S.kind S.names (aK (hi pins s σ H _ I h) fun v s1 h1=>aK h1 fun z4 s2 h2=>?_);obtain⟨it,fp,tn,J,H2,e,I2,T,fe,f2,q2⟩:=h2;subst e;have DV:H2 s2.heap.objs.size=none:=I2.aE.fresh (Yk _);obtain⟨W,⟨m0,w0⟩,turn⟩:=q2 _ DV;refine YO ?_;have mi:∀b∈fp,b<s2.heap.objs.size:=fun b hb=>by
  obtain⟨o,e,_⟩:=T.obj _ _ fe b hb;exact Ym e
 have I3:Inv X pins σ (upd H2 s2.heap.objs.size (DQ X.prog X.w s2.heap.objs.size 0 [])) { s2 with heap:=s2.heap.push { cls:=.type "dict",data:=.dict #[] } } :=
  I2.laid (t':=s2.toks) (fun b u e=>Yd _ e) (Yk _) (o8.ok (LS s2.heap (big I2)))
 have f3:∀b∈fp,gG X pins (upd H2 s2.heap.objs.size (DQ X.prog X.w s2.heap.objs.size 0 [])) b:=fun b hb=>⟨by rw[Zn (Yo (mi b hb))];exact(f2 b hb).1,(f2 b hb).2⟩;have sj:∀b o,s2.heap.get? b=some o->(s2.heap.push { cls:=.type "dict",data:=.dict #[] }).get? b=some o:=fun b o e=>Yd _ e;have sk:(s2.heap.push { cls:=.type "dict",data:=.dict #[] }).objs.size=s2.heap.objs.size+1:=YK ..;refine wpAny_newFunctionEnv S.mh (by intro y hy;simp at hy) (fun bF bY cG=>?_) S.kind;dsimp only at bY cG ⊢;generalize xt:({ s2 with heap:=s2.heap.push { cls:=.type "dict",data:=.dict #[] } }:Shared)=s3 at I3 bY cG ⊢;have j8:s3.heap=s2.heap.push { cls:=.type "dict",data:=.dict #[] }:=by rw[<- xt]
 have xu:∀b o,s3.heap.get? b=some o->bF.get? b=some o:=fun b o e=>by
  have:=cG.2 b (by rw[<- j8];exact Yo (Ym e));rw[<- j8]at this;exact this.trans (Yd _ e)
 have mj:∀b∈fp,b<s3.heap.objs.size:=fun b hb=>by
  rw[j8,sk];exact YR (mi b hb)
 rw[<- j8]at bY;have I4:=S.inv I3 f3 mj (tk:=s2.toks+([]:List (Str×Value)).length) bY xu;have xv:tn 0 bF:=T.keep _ _ _ fe fun b hb o e=>xu b o (by rw[j8];exact sj b o e);have iY:({ s2 with heap:=bF,toks:=s2.toks+([]:List (Str×Value)).length }:Shared)={ s3 with heap:=bF,toks:=s2.toks+([]:List (Str×Value)).length }:=by rw[<- xt]
 rw[iY];have eg:∀ {H':Hp},(∀b∈fp,H' b=none)->∀b∈fp,gG (X.comp scope cl (ts++frs'.map (·.1)) pins s3 (upd H2 s2.heap.objs.size (DQ X.prog X.w s2.heap.objs.size 0 [])) fp) [] H' b:=fun hn b hb=>by
  obtain⟨h1,h2,h3,h4,h5,h6⟩:=f3 b hb;refine⟨hn b hb,Yo (mj b hb),fun z=>?_,.inl hb,fun x c e=>h5 x c (S.g8 e),fun p hp=>h6 p (by
   have:p∈(X.pn++pins)++[]:=hp;rwa [YW]at this)⟩
  rcases Yp.mp (I3.di _ z)with e'|e'
  .exact h2 e'
  .exact h3 e'
 have loop : codeAny (model X.prog X.w) X.A (.compLoop (.DictComp kx vx [⟨tg,iter,ifs,0⟩] scope pos) 0 (.ref it) (.ref s2.heap.objs.size) (compEnvC scope cl s3.heap.objs.size X.env))
   (compPost (model X.prog X.w) X.A X.xe use Qv (.ref s2.heap.objs.size) s3.heap.objs.size) { s3 with heap:=bF,toks:=s2.toks+([]:List (Str×Value)).length }:=by
  refine SV (fun n s'=>∃i τ H',Inv (X.comp scope cl (ts++frs'.map (·.1)) pins s3 (upd H2 s2.heap.objs.size (DQ X.prog X.w s2.heap.objs.size 0 [])) fp) [] τ H' s'/\tn i s'.heap/\(∀b∈fp,H' b=none)/\W i n τ H') ?_ m0
   ⟨0,_,_,I4,xv,fun b hb=>(f3 b hb).1,w0⟩
  rintro n s5 ⟨i,τ,H5,I5,oG,rN,w5⟩;rcases turn i n τ H5 w5 with⟨stop,qn⟩|⟨go,step⟩
  .refine YH (T.done (X.comp scope cl (ts++frs'.map (·.1)) pins s3 (upd H2 s2.heap.objs.size (DQ X.prog X.w s2.heap.objs.size 0 [])) fp) rfl rfl rfl hc i [] s5 τ H5 (fun _ _=>False) I5 (eg rN) oG stop) (fun r s6 ⟨hr,I6⟩=>?_) fun _ _ z=>z;subst hr;obtain⟨m6,sr,_⟩:=id I6.loc;have hA:∀h',Heap.SameBut s3.heap.objs.size s6.heap h'->Inv X pins σ H5 { s6 with heap:=h' }:=fun h' g9=>ZS.after I3 f3 I6 g9;have DW:=I3.fZ (b:=s3.heap.objs.size) (Yk _) (I3.aE.fresh (Yk _));exact si _ _ H5 s6 m6 (hA s6.heap ⟨rfl,fun _ _=>rfl⟩) sr ⟨I6.free,DW.2⟩ hA qn
  .refine YH (T.item (X.comp scope cl (ts++frs'.map (·.1)) pins s3 (upd H2 s2.heap.objs.size (DQ X.prog X.w s2.heap.objs.size 0 [])) fp) rfl rfl rfl hc i [] s5 τ H5 (fun _ _=>False) I5 (eg rN) oG go) (fun r s6 ⟨u,hr,h6⟩=>?_) fun _ _ z=>z;subst hr;refine aK h6 fun _ s7 aH=>?_;obtain⟨x,H7,I7,r7,y7,sv,DX⟩:=aH;have DY:=I7.pinned (eg DX) (T.obj _ _ sv);refine aK (hg _ _ _ _ _ s7 τ H7 x u _ DY r7 (step x H7 y7)) fun _ s8 aH=>?_;obtain⟨jv,H8,I8,q8⟩:=aH;refine aK (ht _ _ _ _ _ s8 jv H8 _ I8 q8) fun ok s9 aH=>?_;obtain⟨H9,I9,q9⟩:=aH;have again:∀ {m':Nat} {H':Hp} {s':Shared},Inv (X.comp scope cl (ts++frs'.map (·.1)) pins s3 (upd H2 s2.heap.objs.size (DQ X.prog X.w s2.heap.objs.size 0 [])) fp) ([]++uU fp s7.heap) jv H' s'->m'<n->W (i+1) m' jv H' ->
     ∃m,m<n/\∃i τ H',Inv (X.comp scope cl (ts++frs'.map (·.1)) pins s3 (upd H2 s2.heap.objs.size (DQ X.prog X.w s2.heap.objs.size 0 [])) fp) [] τ H' s'/\tn i s'.heap/\(∀b∈fp,H' b=none)/\W i m τ H':=fun {m' H' s'} I' hm w'=>by
    refine⟨m',hm,i+1,jv,H',I'.cj,T.keep _ _ _ sv fun b hb o e=>(I'.pin (b,o) (Yy _ (Yy _ (uV hb e)))).1,fun b hb=>?_,w'⟩;obtain⟨o,e,d⟩:=T.obj _ _ sv b hb;exact(I'.pin (b,o) (Yy _ (Yy _ (uV hb e)))).2.1
   cases ok with
   | false =>
    rw[if_neg Yw];rw[if_neg Yw]at q9;obtain⟨m',hm,w'⟩:=q9;exact again I9 hm w'
   | true =>
    rw[if_pos rfl];rw[if_pos rfl]at q9;refine aK (hk _ _ _ _ _ s9 jv H9 _ I9 q9) fun kv DZ aH=>?_;obtain⟨y,D0,D1,D2,SW⟩:=aH;refine aK (hv _ _ _ _ _ DZ jv D0 _ D1 SW) fun vv Ru aH=>?_;obtain⟨y2,Rv,Ao,SX,z,ep,aq,ey,hl,hz,w'⟩:=aH;subst ey;obtain⟨SY,rfl⟩:=D2;obtain⟨h0,yd,vs,rr,dd⟩:=dP Ao hl;have fq:vs.length<=sizeLine:=by rw[<- Paired.length rr];exact yd
    refine wpAny_dictSet_pairs (hsz:=fq) (strKind_is X.prog X.w z SY) dd.dictOf fun h' jC hs=>?_;obtain⟨aF,jC⟩:=jC.dictAt;have e1:∃o,h'.get? s2.heap.objs.size=some o:=let⟨o,_,e,_⟩:=jC;⟨o,e⟩;obtain⟨m',hm,w'⟩:=w' aF;exact again (Ao.write (x:=s2.heap.objs.size) (e:=s2.heap.objs.size) (by rw[hl];trivial) (.inl rfl) (fun c u hc z=>(hs.2 c hc).trans z) e1 (o8.ok ⟨⟨h0,by have:=E4 z y2 aq;lia⟩,_,rr.put dd.nodup z SX,jC⟩)) hm w'
 have es:(s2.heap.push { cls:=.type "dict",data:=.dict #[] }).objs.size=s3.heap.objs.size:=by rw[j8]
 rw[es];exact codeAny_compStart_dict loop (T.self _ 0 _ _ _ xv loop)
def Bc(hc:X.calm=true)(S:ZS X scope cl ts frs')(hi:PI X tg iter wi)(hg:∀pins s H fp,PG (X.comp scope cl (ts++frs'.map (·.1)) pins s H fp) tg g)(ht:∀pins s H fp,qk (X.comp scope cl (ts++frs'.map (·.1)) pins s H fp) ifs tt)(hk:∀pins s H fp,PE (X.comp scope cl (ts++frs'.map (·.1)) pins s H fp) kx tk)(hv:∀pins s H fp,PE (X.comp scope cl (ts++frs'.map (·.1)) pins s H fp) vx tv)(hs:∀x,foldedSetIterable iter X.env x=pure x:=by intro _;rfl):
  PE X (.DictComp kx vx [⟨tg,iter,ifs,0⟩] scope pos) (Bb X.prog X.w ts.length frs' wi g tt tk tv):=by
 intro pins s σ H Q I h;rw[arm_eval_DictComp];exact Mo hc S hi hg ht hk hv hs (use:=none) (Qv:=EP X pins σ Q) I h fun C D H5 s6 m6 I6 hn Rx hA q=>⟨m6,hn,fun h' g9=>⟨.ref D,H5,hA h' g9,rfl,q⟩⟩
def S0(hN:X.N.Nodup)(kX:X.N[i]? = some y)(hy:Loc X.env.scope y)(D3:swapsWith (.DictComp kx vx [⟨tg,iter,ifs,0⟩] scope pos) (some (.Name y py)) sx.line X.env=pure true)(hc:X.calm=true)(S:ZS X scope cl ts frs')(hi:PI X tg iter wi)(hg:∀pins s H fp,PG (X.comp scope cl (ts++frs'.map (·.1)) pins s H fp) tg g)(ht:∀pins s H fp,qk (X.comp scope cl (ts++frs'.map (·.1)) pins s H fp) ifs tt)(hk:∀pins s H fp,PE (X.comp scope cl (ts++frs'.map (·.1)) pins s H fp) kx tk)(hv:∀pins s H fp,PE (X.comp scope cl (ts++frs'.map (·.1)) pins s H fp) vx tv)(hs:∀x,foldedSetIterable iter X.env x=pure x:=by intro _;rfl)(hf:X.fn y=true\/X.env.scope.names.lookup y=some .local:=by first|exact .inl rfl|exact .inr rfl|assumption):
  PS X (.Assign [.Name y py] (.DictComp kx vx [⟨tg,iter,ifs,0⟩] scope pos) sx) (wQ (Bb X.prog X.w ts.length frs' wi g tt tk tv) (rL i)):=by
 intro pins s σ H D I h;rw[exec_Assign_Name_used _ _ _ _ D3];refine Yb (oo (Yb ?_));show wpAny _ X.A (do let _ <- comprehension (.DictComp kx vx [⟨tg,iter,ifs,0⟩] scope pos) scope X.env _ newDict false (eval iter X.env) (some (assign (.Name y py) X.env))) _ _ s;refine Yb (YH (Mo hc S hi hg ht hk hv hs (Qv:=fun _ s'=>SP X pins D .next s') (use:=some (assign (.Name y py) X.env)) I h ?_) (fun _ s' hq=>Ye (Ye hq)) fun _ _ e=>e);intro C Da H5 s6 m6 I6 sr xw hA qn;show wpAny _ X.A (assign (.Name y py) X.env (.ref Da)) _ _ _;refine Cu (CN I6 hN kX hy (v:=.ref Da) rfl (fun s7 I7 ⟨a,sb,ha⟩=>?_) hf);have D4:C≠a:=by
  obtain⟨_,h2,_,_,h5,_⟩:=xw;rcases ha with rfl|ha
  .exact h2
  .exact fun e=>h5 _ _ ha e.symm
 refine⟨m6,sr.sameBut sb D4,fun h' g9=>?_⟩;obtain⟨f0,f1,f2,f3,f4,f5⟩:=xw;exact⟨_,H5,I7.turned (h':=h') (t':=s7.toks) (fun b o hb e=>(g9.2 b hb).trans e) f0 f1 f3 f4 f5,qn⟩
def Bd(P:Program)(w:World)(J:dk)(g:AG)(tt:AT)(tk tv:AE)(l:Addr)(Q:bc)(τ:aQ)(A:aw):Prop:=∃W:Nat->Nat->aQ->aw->Prop,(∃m,W 0 m τ A) /\
 ∀i m τ A,W i m τ A->(J i A none/\Q (.ref l) A)\/∃u,J i A (some u)/\g u τ A fun aR A2=>tt aR A2 fun ok A3 =>
  if ok=true then tk aR A3 fun k A4=>tv aR A4 fun v A5=>∃z ep kus,k=.str z/\A5 l=some (dS P w ep kus)/\kus.length<sizeLine/\∀aF,∃m',m'<m/\W (i+1) m' aR (af A5 l (dS P w aF (a7 z v kus)))else ∃m',m'<m/\W (i+1) m' aR A3
def Mp(P:Program)(w:World)(nt:Nat)(bx:List (Str×Nat))(wi:AI)(g:AG)(tt:AT)(tk tv:AE):AE:=fun ρ A Q=>wi ρ A fun J A1=>∀l,A1 l=none->Bd P w J g tt tk tv l Q (aCompStart nt bx ρ) (af A1 l (dS P w 0 []))
section
variable{K:au}{P:Program}{w:World}
def Zbr{bx:List (Str×Nat)}(hi:sC K wi ai)(hg:oY K g ag)(ht:g_ K tt at')(hk:aV K tk ak)(hv:aV K tv av):aV K (Bb P w nt bx wi g tt tk tv) (Mp P w nt bx ai ag at' ak av):=fun ρ A σ H Q' Q hs g0 wh k=>by
 refine hi ρ A σ H _ _ hs g0 wh fun aj A1 J H1 k1 g1 hj q=>?_
 intro l hl
 obtain⟨W,⟨m0,w0⟩,turn⟩:=q l (g1.none hl)
 have kl:Kp K H1 (upd H1 l (DQ P w l 0 [])):=(a_.az hl).kp
 refine⟨fun i m τ H2=>∃oZ A2,Kp K H1 H2/\HR K H2 A2/\aU K H2 oZ τ/\W i m oZ A2,⟨m0,_,_,kl,g1.dO kl (xX Zs ⟨rfl,.nil⟩),(hs.same (k1.trans kl)).comp nt bx,w0⟩,?_⟩
 rintro i m τ H2 ⟨oZ,A2,k2,g2,s2,w2⟩
 have nF:=k1.trans k2
 rcases turn i m oZ A2 w2 with⟨hU,q⟩|⟨u,xK,q⟩
 .exact .inl ⟨hj i A2 H2 _ k2 g2 hU,k _ _ _ _ nF g2 (.ref l) q⟩
 .obtain⟨j1,j2⟩:=hj i A2 H2 _ k2 g2 xK
  refine .inr ⟨j1,fun x H3 hy=>?_⟩
  obtain⟨k3,g3,r3⟩:=j2 x H3 hy
  refine hg _ _ _ _ _ _ _ _ r3 (s2.same k3) g3 q fun nG A4 qu H4 k4 g4 s4 q4=>ht nG A4 qu H4 _ _ s4 g4 q4 fun b A5 H5 k5 g5 q5=>?_
  have xM:=k2.trans (k3.trans (k4.trans k5))
  cases b
  .refine jw (by decide) ?_
   obtain⟨m',hm,w'⟩:=(by simpa using q5:∃m',m'<m/\W (i+1) m' nG A5)
   exact⟨m',hm,_,_,xM,g5,s4.same k5,w'⟩
  .refine gI rfl (hk nG A5 qu H5 _ _ (s4.same k5) g5 (by simpa using q5) fun y A6 v6 H6 k6 g6 r6 q6=>hv nG A6 qu H6 _ _ (s4.same (k5.trans k6)) g6 q6 fun y2 A7 v7 H7 k7 g7 r7 q7=>?_)
   obtain⟨z,rfl,ep,kus,hA,hz,q7⟩:=q7
   cases r6
   obtain⟨aq,h7,rr⟩:=fO g7 hA
   refine⟨z,ep,aq,rfl,h7,by rw[<- rr.len];exact hz,fun aF=>?_⟩
   obtain⟨m',hm,w'⟩:=q7 aF
   have kp:Kp K H7 (upd H7 l (DQ P w l aF (de z v7 aq))):=Kp.ext h7
   exact⟨m',hm,_,_,xM.trans (k6.trans (k7.trans kp)),g7.dO kp (xX Zs ((rr.put r7).same kp)),s4.same (k5.trans (k6.trans (k7.trans kp))),w'⟩
def S1{l:Addr}(items:List U)(T:aQ->Prop)(hT:T τ)(Pv:Nat->aw->Prop)(h0:Pv 0 A)(hJ:∀k A2,k<=items.length->Pv k A2->J k A2 items[k]?)(hs:∀k u τ A2,items[k]? = some u->T τ->Pv k A2->∀Cy:aQ->U->U->aw->Prop,(∀aR z v A5 ep kus,T aR->A5 l=some (dS P w ep kus)->kus.length<sizeLine->(∀aF,Pv (k+1) (af A5 l (dS P w aF (a7 z v kus))))->Cy aR (.str z) v A5)->g u τ A2 fun aR A3=>tk aR A3 fun y A4=>tv aR A4 (Cy aR y))(hd:∀A2,Pv items.length A2->Q (.ref l) A2):Bd P w J g qq tk tv l Q τ A:=by
 refine⟨fun i m τ A2=>m=items.length-i/\i<=items.length/\T τ/\Pv i A2,⟨_,rfl,Y9 _,hT,h0⟩,?_⟩;rintro i m τ A2 ⟨rfl,hi,ht,hp⟩;have j:=hJ i A2 hi hp;by_cases bq:i<items.length
 .have hu:items[i]? = some items[i]:=Yh bq;rw[hu]at j;refine .inr ⟨_,j,hs i _ τ A2 hu ht hp (fun aR y v A5=>∃z ep kus,y=.str z/\A5 l=some (dS P w ep kus)/\kus.length<sizeLine/\∀aF,∃m',m'<items.length-i/\(m'=items.length-(i+1)/\i+1<=items.length/\T aR/\Pv (i+1) (af A5 l (dS P w aF (a7 z v kus))))) ?_⟩;intro aR z v A5 ep kus kf hA hz q;exact⟨z,ep,kus,rfl,hA,hz,fun aF=>⟨items.length-(i+1),by lia,rfl,bq,kf,q aF⟩⟩
 .obtain rfl:i=items.length:=by lia
  rw[YI.mpr (Yk _)]at j;exact .inl ⟨j,hd _ hp⟩
end
def qB(v:V):Prop:=v=.ay\/∃i,v=.int i
def lb(u:U):Prop:=u=.ay\/∃i,u=.int i
theorem S2:PyData.eqv .none .none=true:=by decide +kernel
def S3(i:Int):PyData.eqv .none (.int i)=false:=rfl
def S4(i:Int):PyData.eqv (.int i) .none=false:=rfl
def S5(i j:Int):PyData.eqv (.int i) (.int j)=decide (i=j):=rfl
def S6(hx:qB x)(hy:qB y)(rx:aX x u)(ry:aX y v):∃b:Bool,SeqAt.EqAt A s u v b/\(b=true↔x=y):=by
 rcases hx with rfl|⟨i,rfl⟩
 .cases(show u=.none from rx);rcases hy with rfl|⟨j,rfl⟩
  .cases(show v=.none from ry);exact⟨_,keq_flat PyProof.V.Flat.none PyProof.V.Flat.none,by rw[S2];simp⟩
  .obtain⟨t,rfl⟩:=ry;exact⟨_,keq_flat PyProof.V.Flat.none (PyProof.V.Flat.int j t),by rw[S3];simp⟩
 .obtain⟨t,rfl⟩:=rx;rcases hy with rfl|⟨j,rfl⟩
  .cases(show v=.none from ry);exact⟨_,keq_flat (PyProof.V.Flat.int i t) PyProof.V.Flat.none,by rw[S4];simp⟩
  .obtain⟨t',rfl⟩:=ry;exact⟨_,keq_flat (PyProof.V.Flat.int i t) (PyProof.V.Flat.int j t'),by rw[S5];simp⟩
def S7:∀ {aq kus:List (Str×V)} {vs us:List (Str×Value)},KV aq vs->KV kus us->aq.map (·.1)=kus.map (·.1)->(∀p∈us,valueAt kb p.1=some p.2)->(∀p∈aq,qB p.2)->(∀p∈kus,qB p.2) ->
  ∃r,PySem.W.KeqHits A s kb vs r/\(r=true↔aq=kus):=by
 intro aq kus vs us h;unfold KV at h;induction h generalizing kus us with
 | nil =>
  intro k e _ _ _;cases kus with
  | nil=>exact⟨true,.nil,by simp⟩
  | cons=>simp at e
 | @cons p q ps qs h1 h2 ih =>
  intro k e hb f1 f2;cases k with
  | nil=>simp at e
  | @cons p' q' dQ qs' k1 k2 =>
   rw[Yr,Yr]at e;obtain⟨e1,e2⟩:=List.cons.inj e;obtain⟨r,hr,er⟩:=ih k2 e2 (fun p hp=>hb p (.tail _ hp)) (fun p hp=>f1 p (.tail _ hp)) (fun p hp=>f2 p (.tail _ hp));obtain⟨a,b⟩:=p;obtain⟨a',b'⟩:=p';obtain⟨c,d⟩:=q;obtain⟨c',d'⟩:=q';obtain⟨e3,r3⟩:=h1;obtain⟨e4,r4⟩:=k1;simp only at e1 e3 r3 e4 r4;subst e1 e3 e4;obtain⟨b0,hE,S8⟩:=S6 (A:=A) (s:=s) (f1 _ (.head _)) (f2 _ (.head _)) r3 r4;refine⟨b0&&r,.hit (hb _ (.head _)) hE hr,?_⟩;rw[YQ,S8,er];simp
def Mq(P:Program)(w:World):R2:=fun x y H Q=>∃a b ep aF aq kus,x=.ref a/\y=.ref b/\H a=some (DQ P w a ep aq)/\H b=some (DQ P w b aF kus)/\aq.map (·.1)=kus.map (·.1)/\(∀p∈aq,qB p.2)/\(∀p∈kus,qB p.2)/\∀r:Bool,(r=true↔aq=kus)->Q (.bl r) H
def S9(hr:bW k X.A):a8 X (compareOp .Eq) (Mq X.prog X.w):=by
 intro pins s σ H x y v u Q I rx ry h;obtain⟨a,b,ep,aF,aq,kus,rfl,rfl,h1,h2,ek,f1,f2,q⟩:=h;cases rx;cases ry;obtain⟨a0,_,vs,r1,d1⟩:=dP I h1;obtain⟨b0,_,us,r2,d2⟩:=dP I h2;have hb:∀p∈us,valueAt us p.1=some p.2:=fun p hp=>by
  obtain⟨i,hi⟩:=List.getElem?_of_mem hp;exact valueAt_of_get d2.nodup hi
 obtain⟨r,hh,er⟩:=S7 (A:=X.A.in1) (s:=s) r1 r2 ek hb f1 f2;have hlen:vs.length=us.length:=by rw[<- Paired.length r1,<- Paired.length r2];simpa using congrArg List.length ek
 refine keq_eq a0 b0 d1.dictOf d2.dictOf hr.rQ (fun _=>hh) ⟨.bl r,H,I,?_,q r er⟩;rw[hlen];simp;rfl
section
variable{P:Program}{w:World}{K:au}
def S_(r:RU K H u v)(f:lb u):qB v/\∀ {u':U} {v':V},RU K H u' v'->lb u'->(v=v'↔u=u'):=by
 rcases f with rfl|⟨i,rfl⟩
 .cases r;refine⟨.inl rfl,fun r' f'=>?_⟩;rcases f' with rfl|⟨j,rfl⟩
  .cases r';simp
  .cases r';simp
 .cases r;refine⟨.inr ⟨i,rfl⟩,fun r' f'=>?_⟩;rcases f' with rfl|⟨j,rfl⟩
  .cases r';simp
  .cases r';simp
def Mr:∀ {us ye:List U} {vs o9:List V},aJ K H us vs->aJ K H ye o9->(∀u∈us,lb u)->(∀u∈ye,lb u)->(∀v∈vs,qB v)/\(vs=o9↔us=ye):=by
 intro us;induction us with
 | nil =>
  intro ye vs o9 h k _ _;cases h;cases k with
  | nil=>simp
  | cons=>simp
 | cons u us ih =>
  intro ye vs o9 h k f1 f2;cases h with
  | cons h1 h2 =>
  have g:=S_ h1 (f1 _ (.head _));cases k with
  | nil =>
   refine⟨fun v hv=>?_,by simp⟩;rcases Yp.mp hv with rfl|hv
   .exact g.1
   .exact(ih h2 .nil (fun u hu=>f1 u (.tail _ hu)) (by simp)).1 v hv
  | cons k1 k2 =>
   have:=ih h2 k2 (fun u hu=>f1 u (.tail _ hu)) (fun u hu=>f2 u (.tail _ hu));refine⟨fun v hv=>?_,by simp only[zI];rw[g.2 k1 (f2 _ (.head _)),this.2]⟩;rcases Yp.mp hv with rfl|hv
   .exact g.1
   .exact this.1 v hv
theorem Fj{α β:Type}:∀ {xs ys:List (α×β)},(xs=ys↔xs.map (·.1)=ys.map (·.1)/\xs.map (·.2)=ys.map (·.2))
 | [],[]=>by simp
 | [],_::_=>by simp
 | _::_,[]=>by simp
 | (a,b)::xs,(c,d)::ys=>by
  have:=Fj (xs:=xs) (ys:=ys)
  simp only[zI,Prod.mk.injEq,Yr,this]
  constructor
  .rintro⟨⟨rfl,rfl⟩,h1,h2⟩;exact⟨⟨rfl,h1⟩,rfl,h2⟩
  .rintro⟨⟨rfl,h1⟩,rfl,h2⟩;exact⟨⟨rfl,rfl⟩,h1,h2⟩
def Ms(P:Program)(w:World):fo:=fun x y A Q=>∃a b ep aF kus aq,x=.ref a/\y=.ref b/\A a=some (dS P w ep kus)/\A b=some (dS P w aF aq)/\kus.map (·.1)=aq.map (·.1)/\(∀p∈kus,lb p.2)/\(∀p∈aq,lb p.2)/\∀r:Bool,(r=true↔kus=aq)->Q (.bl r) A
def ZjF:ei K (Mq P w) (Ms P w):=fun x y u v A H Q' Q hu hw g h k=>by
 obtain⟨a,b,ep,aF,kus,aq,rfl,rfl,e1,e2,ek,f1,f2,q⟩:=h
 cases hu;cases hw
 obtain⟨kv,h1,r1⟩:=fO g e1
 obtain⟨kw,h2,r2⟩:=fO g e2
 have g1:∀u∈kus.map (·.2),lb u:=fun u hu=>by obtain⟨p,hp,rfl⟩:=YL.mp hu;exact f1 p hp
 have g2:∀u∈aq.map (·.2),lb u:=fun u hu=>by obtain⟨p,hp,rfl⟩:=YL.mp hu;exact f2 p hp
 have t1:=Mr r1.2 r2.2 g1 g2
 have t2:=Mr r2.2 r1.2 g2 g1
 refine⟨a,b,ep,aF,kv,kw,rfl,rfl,h1,h2,by rw[<- r1.1,<- r2.1];exact ek,fun p hp=>t1.1 _ (List.mem_map_of_mem hp),fun p hp=>t2.1 _ (List.mem_map_of_mem hp),fun r hr=>k _ _ _ _ (.refl H) g (.bl _) (q r ?_)⟩
 rw[hr,Fj,Fj,t1.2,<- r1.1,<- r2.1]
def Zrv:Ms P w (.ref a) (.ref b) A Q=∃ep aF kus aq,A a=some (dS P w ep kus)/\A b=some (dS P w aF aq)/\kus.map (·.1)=aq.map (·.1)/\(∀p∈kus,lb p.2)/\(∀p∈aq,lb p.2)/\∀r:Bool,(r=true↔kus=aq)->Q (.bl r) A :=
 propext ⟨fun aD=>by obtain⟨_,_,ep,aF,kus,aq,x,y,h⟩:=aD;cases x;cases y;exact⟨ep,aF,kus,aq,h⟩,fun⟨ep,aF,kus,aq,h⟩=>⟨a,b,ep,aF,kus,aq,rfl,rfl,h⟩⟩
end
def Be(K:au)(C:Addr):Bool:=match K.lookup C with
 | some ⟨_,_,.cls cd,sl⟩=>!cd.hasDel&&(sl.toList[4]?).join==some (.builtin "ValueError.__new__")&&!cd.mro.isEmpty&&cd.mro.contains (.ref C)&&cd.mro.contains (.type "ValueError")&&!cd.mro.contains (.type "AttributeError")&&!cd.mro.contains (.type "NameError") &&
   specialIn K (.ref C) "__call__" == some (some (.builtin "type.__call__"))&&instIn K (.ref C) (.type "type")==some true
 | _=>false
structure Fl (M:Model) (h:Heap) (C:Addr):Prop where
 obj:∃oc od cd sl,h.get? C=some ⟨oc,od,.cls cd,sl⟩/\cd.hasDel=false/\cd.mro.isEmpty=false
 made:PySem.W.Looks M h (Bind.madeBy (.ref C)) (some "ValueError.__new__")
 base:PySem.W.Looks M h (Bind.staticBase (.ref C)) (.ref C)
 self:PySem.W.Looks M h (isSubtype (.ref C) (.ref C)) true
 up:PySem.W.Looks M h (isSubtype (.ref C) (.type "ValueError")) true
 na:PySem.W.Looks M h (isSubtype (.ref C) (.type "AttributeError")) false
 nn:PySem.W.Looks M h (isSubtype (.ref C) (.type "NameError")) false
 call:PySem.W.Looks M h (specialOf (.ref C) "__call__") (some (.builtin "type.__call__"))
 typ:PySem.W.Looks M h (isInstance (.ref C) (.type "type")) true
def S'(X:K.In h)(e:Be K C=true):Fl M h C:=by
 unfold Be at e;split at e
 .rename_i oc od cd sl ho;simp only[YQ,Bool.not_eq_true',beq_iff_eq]at e;obtain⟨⟨⟨⟨⟨⟨⟨⟨e2,e3⟩,e4⟩,e5⟩,e6⟩,e7⟩,e8⟩,e9⟩,Bf⟩:=e;have hc:PySem.W.clsIn K C=some cd:=by unfold clsIn;rw[ho]
  have hm:PySem.W.Looks M h (mroOf (.ref C)) cd.mro:=(looks_clsIn X hc).andThen .now;obtain⟨c,l,hl⟩:∃c l,cd.mro=c::l:=by
   cases q:cd.mro with
   | nil=>rw[q]at e4;cases e4
   | cons c l=>exact⟨c,l,rfl⟩
  have made:PySem.W.Looks M h (Bind.madeBy (.ref C)) (some "ValueError.__new__"):=by
   intro A Q E s k q;unfold Bind.madeBy;refine Yb (hm A _ E s k ?_);rw[hl,zK];refine Yb (Yb (Yb (Yb (wpAny_loadPart (k _ _ (X _ _ ho)) (Ye ?_)))));dsimp only;rw[<- rn,e3];exact Ye (Ye (Ye q))
  have mr:∀ {v:Value} {b:Bool},cd.mro.contains v=b->Looks M h (isSubtype (.ref C) v) b:=fun {v b} eb=>looks_mroIn X (by unfold mroIn;rw[hc,Option.bind_some,if_neg (by rw[e4];decide),eb]);refine⟨⟨oc,od,cd,sl,X _ _ ho,e2,e4⟩,made,?_,mr e5,mr e6,mr e7,mr e8,PySem.W.looks_specialIn X e9,looks_instIn X Bf⟩;intro A Q E s k q;unfold Bind.staticBase;refine Yb (hm A _ E s k ?_);rw[hl,zK];exact Yb (Yb (Yb (made A _ E s k (Ye (Ye (Ye q))))))
 .cases e
def Ta:builtinKind "ValueError.__new__"=some .builtinFn:=by kernel_rfl
def Tb:splitId "ValueError.__new__"=some ("ValueError","__new__"):=by kernel_rfl
abbrev lg(C t:Addr):Obj:={ cls:=.ref C,data:=.fields #[.ref t,.none,.none,.none,.bool false,.none] }
abbrev i5(vs:List Value):Obj:={ cls:=.type "tuple",data:=.seq vs.toArray }
section
variable{P:Program}{w:World}{A:Around}{C:Addr}{R:Result->Shared->Prop}{h:Heap}{g:Array GenState}{d:Drawn}{t:Nat}{os:OsState}
theorem newX(Y:Fl (model P w) h C)(hr:r.length<=1000)(hq:R (.ok (.ret (.ref (h.objs.size+1)))) ⟨(h.push (i5 r)).push (lg C h.objs.size),g,d,t,os⟩):
  codeAny (model P w) A (.call (.builtin "ValueError.__new__") ⟨.ref C::r,[]⟩) R ⟨h,g,d,t,os⟩:=by
 obtain⟨⟨oc,od,cd,sl,hC,e2,e4⟩,made,base,self,up,na,nn,call,typ⟩:=Y;have X:=excClass_ValueError;refine codeAny_call_builtin_code (Code.quiet_builtin _ (by decide +kernel)) ?_;simp only[checkBuiltinCall,Ta,Tb];have here:PySem.W.Looks (model P w) h (Bind.madeHere "BaseException.__new__" (.ref C)) ():=base.andThen (made.andThen (Looks.of_pure (by kernel_rfl)));repeat (first|simp only[bne_self_eq_false,IY,if_true,Bool.not_true,kM,fW]|lk)
 refine codeAny_builtin_at X.newEntry ?_;unfold Builtin.«BaseException.__new__»;refine PyProof.Rows.wpAt_bind (PyProof.Rows.wpAt_owner rfl X.newEnds (PyProof.Rows.wpAt_of_any ?_));dsimp only;rw[show("ValueError.__new__".dropRight 8)="ValueError" from by decide +kernel];repeat (first|simp only[Bool.not_true,kM,fW]|lk)
 rw[if_neg (by rw[Ys];exact Nat.not_lt.mpr (YB hr (by decide)))];refine wpAny_newObjAsIs_type (Yb ?_);unfold newObj;dsimp only;rw[if_neg (by show ¬(6>sizeLine+2);decide)];unfold newObjAsIs classHasDel;have Tc:((h.push (i5 r)).push (lg C h.objs.size)).get? C=some ⟨oc,od,.cls cd,sl⟩:=Yd _ (Yd _ hC);refine Yb (wpAny_alloc (Yb (Yb (wpAny_load Tc (Ye ?_)))));rw[e2];refine Ye (Ye ?_);have hz:(h.push (i5 r)).objs.size=h.objs.size+1:=YK ..;rw[<- hz]at hq;exact hq
theorem Td(X:K.In h)(hm:Be K C=true)(hi:PySem.W.findIn K (.ref C) "__init__"=some (some (.ref f)))(hf:PySem.W.typeIn K (.ref f)=some (.type "function"))(hr:r.length<=1000)(hq:codeAny (model P w) (A.under (.builtin "type.__call__" ⟨.ref C::r,[]⟩)) (.call (.ref f) ⟨.ref (h.objs.size+1)::r,[]⟩) (InitBack (h.objs.size+1) R) ⟨(h.push (i5 r)).push (lg C h.objs.size),g,d,t,os⟩):
  codeAny (model P w) A (.call (.ref C) ⟨r,[]⟩) R ⟨h,g,d,t,os⟩:=by
 have Y:Fl (model P w) h C:=S' X hm;have kX:=looks_findIn (M:=model P w) X hi;have hb:=fun self=>bind_fn (M:=model P w) X self hf;have Y':=Y;obtain⟨⟨oc,od,cd,sl,hC,e2,e4⟩,made,base,self,up,na,nn,call,typ⟩:=Y;refine codeAny_of_tree ?_;show wpAny _ _ (callAny (.ref C) _) _ _ _;refine PySem.W.nd_load hC ?_;show wpAny _ _ (callAny.viaDunder (.ref C) _) _ _ _;unfold callAny.viaDunder;refine Yb (call.at ?_);dsimp only;rw[PySem.tc_bind];refine Yb (Ye (Yb (Ye ?_)));refine Ye (a:=Fin.again (.call (.builtin "type.__call__") ⟨.ref C::r,[]⟩)) (And.intro rfl ?_);refine codeAny_call_builtin_at (Code.quiet_builtin _ (by decide +kernel)) PySem.entry_typeCall (PySem.W.check_slot PySem.tc_kind PySem.tc_split typ (PySem.W.tc_args _ _ _) ?_);unfold Builtin.«type.__call__»;have hmr:PySem.W.Looks (model P w) h (mroOf (.ref C)) cd.mro:=((Looks.ld (part:=none) hC).andThen .now).andThen .now;repeat (first|simp only[e4,kM,fW]|with_reducible refine kO ?_|lk)
 refine newX Y' hr ?_;have kp:∀b o,h.get? b=some o->((h.push (i5 r)).push (lg C h.objs.size)).get? b=some o:=fun b o e=>Yd _ (Yd _ e);have hx:((h.push (i5 r)).push (lg C h.objs.size)).get? (h.objs.size+1)=some (lg C h.objs.size):=by
  have:=Yl (h.push (i5 r)) (o:=lg C h.objs.size) rfl;rwa [YK]at this
 have t1:PySem.W.Looks (model P w) ((h.push (i5 r)).push (lg C h.objs.size)) (typeOf (.ref (h.objs.size+1))) (.ref C):=(Looks.ld hx).andThen .now;have s1:=self.keeps kp;have i1:=kX.keeps kp;have b1:=(hb (.ref (h.objs.size+1))).keeps kp;unfold isInstance callSpecial? specialOf;repeat (first|with_reducible refine kO ?_|lk)
 refine kN hq fun r s' z=>?_;rcases r with e|(v|_|_|_)<;>first|exact z|exact z.elim|skip
 obtain⟨rfl,z⟩:=z;exact Ye (Ye z)
end
end L2
set_option maxHeartbeats 4000000
namespace L2
open PySem PySem.Spec PyProof.Rows
section
variable{P:Program}{w:World}{A:Around}{E:Value->Shared->Prop}{s:Shared}{C e t0:Addr}{ob:Obj}{vs:Array Value}{Q:Value->Shared->Prop}
def Te(hC:s.heap.get? C=some ⟨oc,od,.cls cd,sl⟩)(up:PySem.W.Looks (model P w) s.heap (isSubtype (.ref C) (.type "ValueError")) true)(he:s.heap.get? e=some ob)(hc:ob.cls=.ref C)(hd:ob.data=.fields vs)(h0:vs[0]? = some (.ref t0))(k:Q .none { s with heap:=(s.heap.push (i5 [v])).update e (Obj.mapFields (·.setIfInBounds 0 (.ref s.heap.objs.size))) }):wpAny (model P w) A (call (.builtin "ValueError.__init__") [.ref e,v]) Q E s:=by
 have X:=excClass_ValueError;have t1:PySem.W.Looks (model P w) s.heap (typeOf (.ref e)) (.ref C):=by
  have:=(Looks.ld (M:=model P w) (part:=none) he);exact this.andThen (by rw[hc];exact .now)
 have t2:PySem.W.Looks (model P w) s.heap (isInstance (.ref e) (.type "ValueError")) true:=t1.andThen up;refine kO (codeAny_call_builtin X.init.plain X.initEntry ?_);simp only[checkBuiltinCall,X.initKind,X.initSplit,X.initSig];refine Yb (t2.here ?_);simp only[Bool.not_true,kM,fW];unfold Bind.checkArgs;dsimp only;unfold Bind.printed Bind.receiverType;rw[if_neg (by decide)];have tn:PySem.W.Looks (model P w) s.heap (typeNameWhole (.ref C)) cd.name.toString:=((Looks.ld (part:=none) hC).andThen .now).andThen .now;refine Yb ?_;show wpAny _ _ (typeOf (.ref e)>>=fun x=>typeNameWhole x>>=fun tp=>pure tp) _ _ _;refine Yb (t1.here (Yb (tn.here (Ye ?_))));rw[if_pos (by decide)];refine Yb (Ye ?_);show wpAny _ _ (Sem.onRaise (Bind.check _ _ _ _ []) _) _ _ _;rw[check_varPos];refine Ye ?_;unfold Builtin.«BaseException.__init__»;dsimp only;rw[if_neg (by simp)];unfold newTuple Builtin.BaseException.bexcPut;have hz:0<vs.size:=(Array.getElem?_eq_some_iff.mp h0).1;have qC:=Yd (h:=s.heap) (i5 [v]) he;refine Yb (YO (Yb (Yb (Y8 qC hd h0 (Yb (wpAny_setField qC hd hz ?_))))) (by show 1<=sizeLine;decide));exact rE (Ye k)
end
section
variable{M:Model}{A:Around}{E:Value->Shared->Prop}{s:Shared}{env:Env}
def Tf(M:Model)(E:Value->Shared->Prop)(v:Value)(s1:Shared):Prop :=
 ∃(a C:Addr)(ob:Obj)(vs:Array Value),v=.ref a/\s1.heap.get? a=some ob/\ob.cls=.ref C/\ob.data=.fields vs/\vs[1]? = some .none/\Looks M s1.heap (isSubtype (.ref C) (.type "BaseException")) true/\Looks M s1.heap (typeOf (.ref C)) (.type "type")/\E (.ref a) s1
def Tg(hh:A.handled=none)(h:wpAny M A (eval e env) (Tf M E) E s):wpAny M A (exec (.Raise (some e) none pos) env) Q E s:=by
 show wpAny M A (do
           standAt pos;raiseStmt env (some (do let v <- eval e env;standAt pos;pure v)) none) Q E s
 refine Yb (oo ?_);unfold raiseStmt;dsimp only;refine Yb (Yb (YH h (fun v s1 q=>Yb (oo (Ye ?_))) fun _ _ z=>z));obtain⟨a,C,ob,vs,rfl,ha,hc,hd,h1,up,ty,hE⟩:=q;have t1:PySem.W.Looks M s1.heap (typeOf (.ref a)) (.ref C):=by
  have:=Looks.ld (M:=M) (part:=none) ha;exact this.andThen (by rw[hc];exact .now)
 have t2:PySem.W.Looks M s1.heap (isInstance (.ref a) (.type "BaseException")) true:=t1.andThen up;have nt:∀ {Q':Bool->Shared->Prop},Q' false s1->wpAny M A (isType (.ref a)) Q' E s1:=fun {Q'} z=>by
  simp only[isType,loadHead];refine Yb (wpAny_loadPart ha ?_);rw[hd];exact Ye z
 refine Yb (Ye ?_);dsimp only;refine Yb (YU ?_);unfold excFromValue isExcClass;refine Yb (Yb (nt ?_));simp only[kM,fW];refine Ye ?_;simp only[kM,fW];refine Yb (t2.here ?_);simp only[if_true];refine Ye (Yb (nt ?_));simp only[kM,fW];unfold raisedInstance;refine Yb (Yb (t1.here (Yb (ty.here ?_))));rw[if_pos (by decide)];refine Ye ?_;unfold setFlight raiseNew;refine Yb (Yb (Y8 ha hd h1 ?_));rw[if_neg (by decide)];refine Ye (Yb (wpAny_handled ?_));rw[hh];first
  | exact wpAny_throw hE
  | exact Yb (Ye (wpAny_throw hE))
end
def Mt:(Obj.mapFields f o).dict=o.dict:=by
 obtain⟨c,d,dt,sl⟩:=o;cases dt<;>rfl
structure Bg (fs:List Addr) (h h':Heap) (e:Addr) (oe:Obj) (vs:Array Value) (T:Addr) (r:Value):Prop where
 cZ:∀b o,b≠e->b∉fs->(∀T0,vs[1]? = some (.ref T0)->b≠T0)->h.get? b=some o->h'.get? b=some o
 Fm:∀b o,b≠e->(∀T0,vs[1]? = some (.ref T0)->b≠T0)->h.get? b=some o->∃sl,h'.get? b=some { o with slots:=sl }
 exc:∃vy o9,h'.get? e=some vy/\vy.cls=oe.cls/\vy.dict=oe.dict/\vy.data=.fields o9/\o9[1]? = some (.ref T)
 tb:T≠e/\(h.objs.size<=T\/vs[1]? = some (.ref T))/\∃oT ts,h'.get? T=some oT/\oT.data=.fields ts/\ts[3]? = some r
 old:∀T0,vs[1]? = some (.ref T0)->T0≠e->(∃o,h.get? T0=some o)->∃o,h'.get? T0=some o
section
variable{M:Model}{A:Around}{E:Value->Shared->Prop}{s:Shared}{B:Heap}{env:Env}{outer:List Env}{L e:Addr}{oe:Obj}{vs:Array Value}
def Mu(vz:A.frames=some (env::outer))(hl:s.heap.FunFrames B (env::outer))(hf:env.frame=some L)(he:s.heap.get? e=some oe)(hd:oe.data=.fields vs)(hz:1<vs.size)(k:∀h' T,Bg ((env::outer).filterMap (·.frame)) s.heap h' e oe vs T (rawInt L)->Q () { s with heap:=h' }):
  wpAny M A (do
         let a <- frameOf env
         let pl <- entryPlaceOf L had
         let b <- EntryCells.newEntry head a .none (rawInt L) .none pl
         setField (.ref e) 1 b) Q E s:=by
 have aT:e∉(env::outer).filterMap (·.frame):=fun hm=>by
  obtain⟨_,o,ho,nU⟩:=hl.mem hm;rw[he]at ho;cases ho;exact nU vs hd
 refine Yb (wpAny_frameOf_fun vz hl hf fun h1 km=>Yb (wpAny_entryPlaceOf fun pl bA=>?_));unfold EntryCells.newEntry newFields;refine Yb (YO ?_ (bA.sizeOk5 _ _ _ _ _));have qC:h1.get? e=some oe:=(km.2.1 e aT).trans he;generalize hO:({ cls:=.type "traceback",dict:=none,data:=.fields ([head,.ref L,.none,rawInt L,.none]++(if pl.isEmpty then List.replicate 6 Value.none else pl)).toArray }:Obj)=oT;have Th:oT.data=.fields ([head,.ref L,.none,rawInt L,.none]++(if pl.isEmpty then List.replicate 6 Value.none else pl)).toArray:=by rw[<- hO]
 have Mv:=Yd (h:=h1) oT qC;refine wpAny_setField Mv hd hz (k _ h1.objs.size ?_);have qD:h1.objs.size≠e:=lI (Ym qC);have d3:=YX hd (·.setIfInBounds 1 (Value.ref h1.objs.size));have g3:=YE (Obj.mapFields (·.setIfInBounds 1 (Value.ref h1.objs.size))) Mv (Obj.isFreed_of_fields d3);have Fo:oT.isFreed=false:=by rw[<- hO];rfl
 have t3:=(YF (h1.push oT) (Obj.mapFields (·.setIfInBounds 1 (Value.ref h1.objs.size))) (Ne.symm qD)).trans (Yl h1 Fo);have keep:∀b o,b≠e->h1.get? b=some o->((h1.push oT).update e (Obj.mapFields (·.setIfInBounds 1 (Value.ref h1.objs.size)))).get? b=some o:=fun b o jW hb=>by
  rw[YF _ _ (Ne.symm jW)];exact Yd _ hb
 refine⟨fun b o jW Ti _ hb=>keep b o jW ((km.2.1 b Ti).trans hb),fun b o jW _ hb=>?_,⟨_,_,g3,Obj.cls_mapFields _ _,Mt,d3,by simp[hz]⟩,⟨qD,.inl (CF (by first|exact km.1.symm|exact km.1)),⟨_,_,t3,Th,by simp⟩⟩,fun T0 _ Fp ⟨o,ho⟩=>?_⟩
 .obtain⟨sl,hs⟩:=km.2.2 b o hb;exact⟨sl,keep b _ jW hs⟩
 .obtain⟨sl,hs⟩:=km.2.2 T0 o ho;exact⟨_,keep T0 _ Fp hs⟩
def Tj(vz:A.frames=some (env::outer))(hl:s.heap.FunFrames B (env::outer))(hf:env.frame=some L)(he:s.heap.get? e=some oe)(hd:oe.data=.fields vs)(h1:vs[1]? = some .none\/∃T oT ts v,vs[1]? = some (.ref T)/\T≠e/\s.heap.get? T=some oT/\oT.data=.fields ts/\ts[3]? = some v/\(v=.none\/v=rawInt L))(k:∀h' T,Bg ((env::outer).filterMap (·.frame)) s.heap h' e oe vs T (rawInt L)->Q () { s with heap:=h' }):wpAny M A (noteFrame (.ref e) env) Q E s:=by
 unfold noteFrame;simp only[hf];rcases h1 with h1|⟨T,oT,ts,v,h1,qD,hT,lh,h3,hv⟩
 .refine Yb (Y8 he hd h1 ?_);rw[if_neg (by decide)];exact Mu vz hl hf he hd (Array.getElem?_eq_some_iff.mp h1).1 k
 .refine Yb (Y8 he hd h1 ?_);rw[if_pos (show(Value.ref T != Value.none)=true from by simp)];refine Yb (Y8 hT lh h3 ?_);rcases hv with rfl|rfl
  .rw[if_neg (show ¬((Value.none==rawInt L)=true)from by simp[rawInt])];refine Yb (wpAny_setField hT lh (Array.getElem?_eq_some_iff.mp h3).1 ?_);have cZ:∀b,b≠T->(s.heap.update T (Obj.mapFields (·.setIfInBounds 3 Value.none))).get? b=s.heap.get? b:=fun b hb=>YF _ _ (Ne.symm hb);have nr:∀b o,s.heap.get? b=some o->(∀us,o.data≠.fields us)->b≠T:=fun b o hb nU q=>by
    rw[q,hT]at hb;cases hb;exact nU ts lh
   refine Mu (s:={ s with heap:=s.heap.update T (Obj.mapFields (·.setIfInBounds 3 Value.none)) }) vz (hl.of_keeps fun b o hb nU=>⟨o,(cZ b (nr b o hb nU)).trans hb,rfl⟩) hf ((cZ e (Ne.symm qD)).trans he) hd (Array.getElem?_eq_some_iff.mp h1).1 fun h' T' q=>k h' T' ?_;refine⟨fun b o x1 x2 x3 x4=>q.cZ b o x1 x2 x3 ((cZ b (x3 T h1)).trans x4),fun b o x1 x3 x4=>q.Fm b o x1 x3 ((cZ b (x3 T h1)).trans x4),q.exc,⟨q.tb.1,?_,q.tb.2.2⟩,fun T0 g0 g1 _=>q.old T0 g0 g1 ?_⟩
   .have:=q.tb.2.1;rwa [Heap.size_update]at this
   .rw[h1]at g0;cases g0;exact⟨_,YE _ hT (Obj.isFreed_of_fields (YX lh _))⟩
  .rw[if_pos (show(rawInt L==rawInt L)=true from by simp)];exact Ye (k s.heap T ⟨fun _ _ _ _ _ z=>z,fun b o _ _ z=>⟨o.slots,z⟩,⟨oe,vs,he,rfl,rfl,hd,h1⟩,⟨qD,.inr h1,oT,ts,hT,lh,h3⟩,fun _ _ _ z=>z⟩)
def Tn(he:s.heap.get? e=some oe)(hd:oe.data=.fields vs)(h1:vs[1]? = some (.ref T))(qD:T≠e)(hT:s.heap.get? T=some oT)(lh:oT.data=.fields ts)(h3:ts[3]? = some v)(k:∀h',Bg fs s.heap h' e oe vs T (fr.elim .none fun f=>rawInt f)->Q () { s with heap:=h' }):wpAny M A (setFlight (.ref e) fr) Q E s:=by
 unfold setFlight;refine Yb (Y8 he hd h1 ?_);rw[if_pos (show(Value.ref T != Value.none)=true from by simp)];have hz:=(Array.getElem?_eq_some_iff.mp h3).1;refine wpAny_setField hT lh hz (k _ ?_);have d3:=YX lh (·.setIfInBounds 3 (fr.elim Value.none fun f=>rawInt f));have g3:=YE (Obj.mapFields (·.setIfInBounds 3 (fr.elim Value.none fun f=>rawInt f))) hT (Obj.isFreed_of_fields d3);have cZ:∀b o,(∀T0,vs[1]? = some (.ref T0)->b≠T0)->s.heap.get? b=some o->(s.heap.update T (Obj.mapFields (·.setIfInBounds 3 (fr.elim Value.none fun f=>rawInt f)))).get? b=some o:=fun b o hb Bh=>(YF _ _ (Ne.symm (hb T h1))).trans Bh;refine⟨fun b o _ _ x z=>cZ b o x z,fun b o _ x z=>⟨o.slots,cZ b o x z⟩,⟨oe,vs,(YF _ _ qD).trans he,rfl,rfl,hd,h1⟩,⟨qD,.inr h1,_,_,g3,d3,by simp[hz]⟩,fun T0 g0 _ _=>?_⟩;rw[h1]at g0;cases g0;exact⟨_,g3⟩
end
structure Bi (M:Model) (h:Heap) (C D:Addr) (b:Bool):Prop where
 nt:PySem.W.Looks M h (isInstance (.ref D) (.type "tuple")) false
 ty:PySem.W.Looks M h (isType (.ref D)) true
 ex:PySem.W.Looks M h (isSubtype (.ref D) (.type "BaseException")) true
 sb:PySem.W.Looks M h (isSubtype (.ref C) (.ref D)) b
section
variable{M:Model}{A:Around}{E:Value->Shared->Prop}{s:Shared}{env:Env}{e C D:Addr}{ob:Obj}{b:Bool}
def Mw(he:s.heap.get? e=some ob)(hc:ob.cls=.ref C)(c:Bi M s.heap C D b)(k:Q b s):wpAny M A (excMatches (.ref e) (.ref D)) Q E s:=by
 have t1:PySem.W.Looks M s.heap (typeOf (.ref e)) (.ref C):=by
  have:=Looks.ld (M:=M) (part:=none) he;exact this.andThen (by rw[hc];exact .now)
 unfold excMatches;refine Yb (c.nt.here ?_);simp only[kM,fW];refine Yb (Ye ?_);have hx:PySem.W.Looks M s.heap (isExcClass (.ref D)) true:=by
  unfold isExcClass;exact c.ty.andThen c.ex
 refine Yb ?_;rw[zK];refine Yb (Yb (hx.here ?_));rw[if_neg (by decide)];refine Ye ?_;dsimp only;rw[List.forIn_nil];refine Ye (Yb (t1.here (Yb ?_)));rw[zK];refine Yb (Yb (c.sb.here ?_));cases b with
 | true =>
  rw[if_pos rfl];exact Ye (Ye (Ye k))
 | false =>
  rw[if_neg (by decide)];refine Ye ?_;dsimp only;rw[List.forIn_nil];exact Ye (Ye k)
end
section
variable{P:Program}{w:World}{A:Around}{E:Value->Shared->Prop}{s:Shared}{env:Env}{e C D:Addr}{ob:Obj}{b:Bool}{t:Expr}{b0:Stmt}{su:List Stmt}{pos:Pos}{rest:List ExceptHandler}{Q:Flow->Shared->Prop}
def Mx(h:wpAny (model P w) (A.mark (some (.ref e))) (eval t env) (fun c s1=>c=.ref D/\(∃ ob,s1.heap.get? e=some ob/\ob.cls=.ref C)/\Bi (model P w) s1.heap C D true /\
   wpAny (model P w) (A.mark (some (.ref e))) (setFlight (.ref e) none) (fun _ s2=>wpAny (model P w) (A.mark (some (.ref e))) (storeName env n (.ref e)) (fun _ s3=>wpAny (model P w) (A.mark (some (.ref e))) (execs (b0::su) env)
    (fun f s4=>wpAny (model P w) A (do bindName env n .none;unbindBehindTheSuite env n pos) (fun _ s5=>Q f s5) E s4) (fun _ _=>False) s3) (fun _ _=>False) s2) (fun _ _=>False) s1) (fun _ _=>False) s):
  wpAny (model P w) A (handleBy (.ref e) env (.ExceptHandler (some t) (some n) (b0::su) pos::rest)) Q E s:=by
 refine wpAny_handleBy_cons (codeAny_handlers_test (YH h (fun c s1 q=>?_) fun _ _ x=>x.elim)) (by intro q;cases q);obtain⟨rfl,⟨ob,he,hc⟩,hx,hk⟩:=q;refine Mw he hc hx ?_;exact codeAny_handlers_suite_as (YH hk (fun _ s2 h2=>YH h2 (fun _ s3 h3=>YH h3 (fun f s4 h4=>h4) fun _ _ z=>z.elim) fun _ _ z=>z.elim) fun _ _ z=>z.elim)
end
def qE(H:Hp)(a:Addr):Hp:=fun b=>if b=a then none else H b
def yf:qE H a a=none:=if_pos rfl
def yg(h:b≠a):qE H a b=H b:=if_neg h
def Bj(h:H b=none):qE H a b=none:=by
 by_cases e:b=a
 .rw[e];exact yf
 .rw[yg e];exact h
section
variable{X:Cx}{pins:List (Addr×Obj)}{σ:St}{H:Hp}{s:Shared}{a:Addr}{φ:Heap->Prop}
def Inv.forget(I:Inv X pins σ H s)(h:H a=some (.ext φ)):Inv X pins σ (qE H a) s:=by
 have kp:∀b o,H b=some o->(∀ψ,o≠.ext ψ)->qE H a b=some o:=fun b o hb hn=>by
  rw[yg fun e=>by rw[e,h]at hb;cases hb;exact hn φ rfl];exact hb
 have u:=I.base;refine⟨I.ok,I.os,I.bare,⟨u.keep,u.slot,fun b o x y z=>Bj (u.free b o x y z),u.there,fun b xs z=>kp b _ (u.bM b xs z) (fun _ e=>nomatch e),fun b o v z=>kp b _ (u.cy b o v z) (fun _ e=>nomatch e),fun b ps z=>?_⟩,I.loc,I.cell,Bj I.free,fun x c z=>Bj (I.bz x c z),fun p hp=>?_,fun c v hc=>?_,I.len⟩
 .obtain⟨m,y⟩:=u.dI b ps z;exact⟨m,kp b _ y (fun _ e=>nomatch e)⟩
 .obtain⟨p1,p2,p3⟩:=I.pin p hp;exact⟨p1,Bj p2,p3⟩
 .have To:c≠a:=fun e=>by rw[e,yf]at hc;cases hc
  rw[yg To]at hc;exact(I.aE c v hc).dh (fun _ _ _ z=>z) (fun b z=>kp b _ z (fun _ e=>nomatch e)) fun b xs z=>kp b _ z (fun _ e=>nomatch e)
end
open PySem PySem.Spec PyProof.Rows Builtin Builtin.ObjectAttr
def Bk:List Value:=[.type "ValueError",.type "Exception",.type "BaseException",.type "object"]
def Fq:Value->Bool
 | .ref _=>true
 | _=>false
def Fs(K:au)(C:Addr):Bool:=(clsIn K C).any fun cd=>cd.mro.contains (.type "object")&&cd.mro.dropWhile Fq==Bk
def Tp(self:Value)(l:List Value)(h:l.dropWhile Fq=Bk):refuseLoop self "__setattr__" l=pure ():=by
 induction l with
 | nil=>cases h
 | cons a l ih =>
  cases a with
  | ref C =>
   rw[refuseLoop_ref];exact ih h
  | _ =>
   rw[show _::l=Bk from h];exact PySem.F.store_ValueError.passes self
section
variable{prog:Program}{w:World}{K:au}{A:Around}{E:Value->Shared->Prop}{s:Shared}{x C:Addr}{ox:Obj}{vs:Array Value}{name:Str}{v:Value}{R:Result->Shared->Prop}
def Tq(X:K.In s.heap)(I:PySem.W.InstAt s.heap x ox C od)(hp:Fs K C=true)(ht:PySem.W.takerIn K C name=some none)(h : ∀ b,wpAny (model prog w) A.in1 (storeInOwnDict (.ref x) (.ref C) (.str name tk) name v b)
   (fun fin s'=>match fin with|.done f=>R (.ok f) s'|.again c'=>c'.quiet=true/\codeAny (model prog w) A c' R s') (fun e s'=>R (.error e) s') s):
  codeAny (model prog w) A (.call (.builtin "object.__setattr__") ⟨[.ref x,.str name tk,v],[]⟩) R s:=by
 have SF:=PySem.F.store_ValueError;obtain⟨cd,hc,ho⟩:=any_some hp;rw[YQ]at ho;have lR:cd.mro.dropWhile Fq=Bk:=by simpa using ho.2
 have ne:cd.mro.isEmpty=false:=by cases q:cd.mro with|nil=>rw[q]at lR;cases lR|cons _ _=>rfl
 have sub:PySem.W.Looks (model prog w) s.heap (isInstance (.ref x) (.type "object")) true:=I.type.andThen (looks_mroIn X (by unfold mroIn;rw[hc,Option.bind_some,if_neg (by rw[ne];decide),ho.1]));refine codeAny_call_builtin SF.slot.plain SF.entry (@PySem.W.check_slot (model prog w) _ _ s "object.__setattr__" "object" "__setattr__" (.ref x) [.str name tk,v] [] _ SF.kind SF.split sub (SF.args (.ref x) (.str name tk) v) ?_);obtain⟨attr,ha,hr⟩:=Option.bind_eq_some_iff.mp ht;have hm:PySem.W.Looks (model prog w) s.heap (mroOf (.ref C)) cd.mro:=(looks_clsIn X hc).andThen .now;have L3:PySem.W.Looks (model prog w) s.heap (storeTaker? attr) none:=by
  cases attr with
  | none=>exact .now
  | some a =>
   obtain⟨b,hb,fu⟩:=YM.mp hr;refine(PySem.W.looks_takesIn X hb).andThen ?_;cases b
   .exact .now
   .cases fu
 rw[osa_eq,refuse_eq];refine Yb (Yb (I.type.here (Yb (hm.here ?_))));rw[Tp _ _ lR];exact Ye (Yb (I.type.here (Yb ((looks_findIn X ha).here (Yb (L3.here (h _)))))))
theorem Tr(X:K.In s.heap)(hx:s.heap.get? x=some ox)(gK:ox.cls=.ref C)(Mz:ox.dict=none)(hd:ox.data=.fields vs)(hs:PySem.W.findIn K (.ref C) "__setattr__"=some (some (.builtin "object.__setattr__")))(hp:Fs K C=true)(ht:PySem.W.takerIn K C name=some none)(hh:PySem.W.hasDictIn K C=true)(h:∀h',h'.get? x=some { ox with dict:=some s.heap.objs.size }->h'.Ns1 s.heap.objs.size (fun y=>if y=name then some v else none)->(∀b o,b≠x->s.heap.get? b=some o->h'.get? b=some o)->Q () { s with heap:=h',toks:=s.toks+2 }):
  wpAny (model prog w) A (setAttr (.ref x) name v) Q E s:=by
 obtain⟨oc,odi,Ts,oK⟩:=ox;dsimp only at gK Mz hd;subst gK Mz hd;have J:PySem.W.InstAt s.heap x ⟨.ref C,none,.fields vs,oK⟩ C none:=⟨hx,rfl,rfl,trivial⟩;refine set_plain X J hs (Tq (s:={ s with toks:=s.toks+1 }) X J hp ht fun b=>?_);obtain⟨cd,hc,fb⟩:=any_some hh;refine Yb (Ye (Yb (Yb (wpAny_loadPart hx (Yb (Looks.here (s:={ s with toks:=s.toks+1 }) (looks_clsIn X hc) ?_))))));rw[fb];have sR:(s.heap.push { cls:=.type "dict",data:=.dict #[] }).get? x=some ⟨.ref C,none,.fields vs,oK⟩:=Yd _ hx;have Ft:x≠s.heap.objs.size:=Yo (Ym hx);have Tt:((s.heap.push { cls:=.type "dict",data:=.dict #[] }).update x fun o=>{ cls:=o.cls,dict:=some s.heap.objs.size,data:=o.data,slots:=o.slots }).get? s.heap.objs.size=some { cls:=.type "dict",data:=.dict #[] } :=
  (Heap.get?_update_ne _ _ _ _ Ft.symm).trans (Heap.get?_push_at rfl rfl)
 have cw:((s.heap.push { cls:=.type "dict",data:=.dict #[] }).update x fun o=>{ cls:=o.cls,dict:=some s.heap.objs.size,data:=o.data,slots:=o.slots }).Ns s.heap.objs.size (fun _=>none) :=
  ⟨_,#[],_,Tt,rfl,fun e he=>absurd he (by simp),fun _=>rfl⟩
 refine Yb (wpAny_alloc' (Yb (wpAny_update' sR (Ye ?_))));show wpAny _ _ (storeInDict s.heap.objs.size (.str name _) name v) _ _ _;unfold storeInDict newKeyGuard;refine Yb (Ye (Yb (wpAny_nsSet1 (Heap.Ns1.of_empty cw) fun h' uQ g9=>?_)));obtain⟨oD,Qf,Qg,C8,C9,lP⟩:=uQ.count (Within.cons name v Within.nil);refine Yb (wpAny_lookBehind C8 (by rw[C9];exact pastItsLine_dict (YB lP (by rw[List.length_cons,List.length_nil,Y2];lia))) ?_);refine Ye (h h' ?_ uQ fun b o hb Bh=>?_)
 .exact(g9.2 x Ft).trans (YE _ sR rfl)
 .exact(g9.2 b (Yo (Ym Bh))).trans ((Heap.get?_update_ne _ _ _ _ hb).trans (Yd _ Bh))
end
structure qF (K:au) (C f:Addr):Prop where
 makes:Be K C=true
 init:PySem.W.findIn K (.ref C) "__init__"=some (some (.ref f))
 fn:PySem.W.isFn K (.ref f)=true
 kp:PySem.W.keepIn K (.ref C)=true
 sa:PySem.W.findIn K (.ref C) "__setattr__"=some (some (.builtin "object.__setattr__"))
 over:Fs K C=true
 hd:PySem.W.hasDictIn K C=true
 up:PySem.W.mroIn K C (.type "BaseException")=some true
 Tu:PySem.W.mroIn K C (.type "ValueError")=some true
 ty:PySem.W.typeIn K (.ref C)=some (.type "type")
structure Bl (K:au) (F:Addr):Prop where
 ga:PySem.W.specialIn K (.ref F) "__getattribute__"=some (some (.builtin "type.__getattribute__"))
 rd:PySem.W.readsIn K F (.type "type")=true
 fc:PySem.W.findCls K (.ref F) (.type "type") "__init__"=some (.val (.builtin "ValueError.__init__"))
structure i6 (K:au) (C D:Addr) (b:Bool):Prop where
 nt:PySem.W.instIn K (.ref D) (.type "tuple")=some false
 ty:PySem.W.isClsIn K D=true
 ex:PySem.W.mroIn K D (.type "BaseException")=some true
 sb:PySem.W.mroIn K C (.ref D)=some b
 kp:PySem.W.keepIn K (.ref D)=true
def XO(a C:Addr)(dx:Option Addr):HO:=.ext fun h=>∃ob vs t0,h.get? a=some ob/\ob.cls=.ref C/\ob.dict=dx/\ob.data=.fields vs/\vs[0]? = some (.ref t0)/\vs[1]? = some .none
section
variable{P:Program}{w:World}{H:Hp}{h:Heap}{a C:Addr}{dx:Option Addr}
def XO.ok(h1:h.get? a=some ob)(h2:ob.cls=.ref C)(h3:ob.dict=dx)(h4:ob.data=.fields vs)(h5:vs[0]? = some (.ref t0))(h6:vs[1]? = some .none):dD P w H h a (XO a C dx) :=
 ⟨⟨ob,vs,t0,h1,h2,h3,h4,h5,h6⟩,⟨ob,h1⟩,fun h1 h2 ⟨ob,vs,t0,q1,q⟩ k=>⟨ob,vs,t0,k _ q1,q⟩⟩
def XO.get(hk:cQ P w H h)(e:H a=some (XO a C dx)):∃ob vs t0,h.get? a=some ob/\ob.cls=.ref C/\ob.dict=dx/\ob.data=.fields vs/\vs[0]? = some (.ref t0)/\vs[1]? = some .none:=(hk a _ e).1
end
def Tv(h:H a=some o):upd H a o=H:=by
 funext b;by_cases e:b=a
 .rw[e,Zs,h]
 .rw[Zn e]
def Fu(K:au)(t:TA):TE:=fun σ H Q=>t σ H fun vs H1=>∃x C g v,vs=[.ref x,v]/\H1 x=some (XO x C none)/\qF K C g/\Q .ay H1
def Fv(K:au)(ta tv:TE)(f:Str):TS:=fun D σ H=>tv σ H fun y H1=>ta σ H1 fun x H2=>∃a C g,x=.ref a/\H2 a=some (XO a C none)/\qF K C g/\f7 K C f/\∀dx,H2 dx=none->dx≠a->D.nx σ (upd (upd H2 dx (.xd [(f,y)])) a (XO a C (some dx)))
section
variable{X:Cx}{x f:Str}{p apos pos pos':Pos}{e o value:Expr}{es:List Expr}{t:TA}{ta tv:TE}{F:Addr}
theorem Bm(b:Bl X.K F)(hg:Gl X x)(hm:X.mg x=some (.ref F))(ha:PA X (e::es) t)(cK:(x == ("__debug__":Str))=false:=by decide)(jq:starEach (e::es) X.env=(false,eval e X.env)::starEach es X.env:=by rfl)(bA:(backTo pos (starEach es X.env)).any (·.1)=false:=by rfl)(ht : eval (.Call (.Attribute (.Name x p) "__init__" apos) (e::es) [] pos) X.env=(do
   let ov <- eval (.Name x p) X.env
   standAt apos.atName
   let(f,first) <- holding [ov] (getMethod ov "__init__" pl)
   callWith pos f first (backTo pos (starEach (e::es) X.env)) (backToKw pos (keywordEach [] X.env))):=by rfl):
  PE X (.Call (.Attribute (.Name x p) "__init__" apos) (e::es) [] pos) (Fu X.K t):=by
 intro pins s σ H Q I h
 refine methodCall_KW (pl:=pl) (lM I hg hm ?_ cK) ht
 refine PySem.W.method_cls I.br b.ga (PySem.W.cls_value I.br b.rd b.fc (by decide +kernel) ?_)
 have I0:=I.tok (s.toks+1)
 refine callWith_builtin1 (aK (ha pos pins _ σ H _ I0 h) fun us s1 ⟨vs,H1,I1,r1,q1⟩=>?_) jq bA
 obtain⟨a,C,g,v,rfl,hx,c,q⟩:=q1
 cases r1 with
 | cons ra r1 =>
 cases r1 with
 | @cons _ u2 _ _ rv r1 =>
 cases r1
 cases ra
 obtain⟨ob,fs,t0,ho,hc,hd,hf,h0,h1⟩:=XO.get I1.aE hx
 obtain⟨cd,gP,_⟩:=any_some c.hd
 obtain⟨oc,od,sl,hC⟩:∃oc od sl,s1.heap.get? C=some ⟨oc,od,.cls cd,sl⟩:=by
  unfold clsIn at gP
  split at gP
  .rename_i oc od MA sl hl
   cases gP
   exact⟨oc,od,sl,I1.br _ _ hl⟩
  .cases gP
 have o_:=looks_mroIn (M:=model X.prog X.w) I1.br c.Tu
 refine Te hC o_ ho hc hf h0 ⟨.ay,H1,?_,rfl,q⟩
 have hz:0<fs.size:=(Array.getElem?_eq_some_iff.mp h0).1
 have x_:=Yd (h:=s1.heap) (i5 [u2]) ho
 have g3:=YE (Obj.mapFields (·.setIfInBounds 0 (Value.ref s1.heap.objs.size))) x_ (Obj.isFreed_of_fields (YX hf _))
 have:=I1.write (t':=s1.toks) (x:=a) (e:=a) (o:=XO a C none) (h':=(s1.heap.push (i5 [u2])).update a (Obj.mapFields (·.setIfInBounds 0 (.ref s1.heap.objs.size)))) (by rw[hx];exact True.intro) (.inl rfl)
  (fun b u hb q=>(YF _ _ (Ne.symm hb)).trans (Yd _ q)) ⟨_,g3⟩
  (XO.ok g3 ((Obj.cls_mapFields _ _).trans hc) (Mt.trans hd) (YX hf _) (t0:=s1.heap.objs.size) (by simp[hz]) (by rw[<- h1];simp))
 rwa [Tv hx]at this
def Bn(ha:PE X o ta)(hv:PE X value tv)(hs:swapsWith value (some (.Attribute o f pos')) pos.line X.env=pure false:=by rfl):PS X (.Assign [.Attribute o f pos'] value pos) (Fv X.K ta tv f):=by
 intro pins s σ H D I h;refine plainObj_wpAny_Assign_Attribute (aK (hv pins s σ H _ I h) fun u s1 ⟨y,H1,I1,ry,q⟩=>aK (ha pins s1 σ H1 _ I1 q) fun ov s2 ⟨x,H2,I2,rx,a,C,g,ex,ea,c,n,q2⟩=>?_) hs;subst ex;obtain rfl:ov=Value.ref a:=rx;obtain⟨ob,fs,t0,ho,hc,hd,hf,h0,h1⟩:=XO.get I2.aE ea;refine Tr I2.br ho hc hd hf c.sa c.over n.qh c.hd fun h' g1 g2 g3=>?_;have bq:=Ym ho;have aT:s2.heap.objs.size≠a:=lI bq;refine⟨σ,_,?_,q2 s2.heap.objs.size (I2.aE.fresh (Yk _)) aT⟩;obtain⟨oD,es',ep,hD,MB⟩:=id g2;have vz:oD.isFreed=false:=(Heap.get?_some_iff.mp hD).2;have hp:=Yl s2.heap (o:=oD) vz;have J:=I2.laid (a:=s2.heap.objs.size) (o:=.xd [(f,y)]) (h':=s2.heap.push oD) (t':=s2.toks+2) (fun b u q=>Yd _ q) (Yk _) ?_
 .refine J.write (t':=s2.toks+2) (x:=a) (e:=a) (h':=h') (by rw[Zn aT.symm,ea];exact True.intro) (.inl rfl) (fun b u hb q=>?_) ⟨_,g1⟩ (XO.ok g1 hc rfl hf h0 h1);by_cases e:b=s2.heap.objs.size
  .subst e;rw[hp]at q;cases q;exact hD
  .refine g3 b u hb ?_;rw[<- q];exact(Heap.get?_push_ne _ _ _ e).symm
 .refine⟨_,Heap.Ns1.at (h:=h') g2 fun o q=>?_,fun g=>?_⟩
  .rw[hD]at q;cases q;exact hp
  .show iI (List.lookup g [(f,y)]) (if g=f then some u else none);by_cases e:g=f
   .rw[if_pos e,List.lookup_cons,beq_iff_eq.mpr e];exact ry
   .rw[if_neg e,List.lookup_cons,Yx.mpr e];exact True.intro
end
def MC(h:Heap)(H:Hp)(n:Addr->Prop)(z:Prop)(r:Value->Prop)(a:Addr)(vs:Array Value):Prop :=
 (z/\vs[1]? = some .none)\/∃T oT ts v,vs[1]? = some (.ref T)/\T≠a/\n T/\h.get? T=some oT/\oT.data=.fields ts/\ts[3]? = some v/\H T=none/\r v
def yh(h:Heap)(H:Hp)(n:Addr->Prop)(E:XK)(z:Prop)(r:Value->Prop)(a:Addr):Prop :=
 ∃C dx ob vs,n a/\H a=none/\h.get? a=some ob/\ob.cls=.ref C/\ob.dict=some dx/\ob.data=.fields vs/\MC h H n z r a vs/\E (.ref C) (some dx) H
def gi(P:Program)(w:World):lQ:=fun outer H s E e s'=>∃a H',e=.ref a/\s'.os=s.os/\AllBare s'.gens/\Un (bx outer) [] H H' s.heap s'.heap/\cQ P w H' s'.heap/\yh s'.heap H' (s.heap.objs.size<=·) E False (·=.none) a
def vA(X:Cx)(pins:List (Addr×Obj))(b:Addr):Prop:=X.bB.heap.objs.size<=b/\∀p∈X.pn++pins,p.1≠b
def lj(X:Cx)(pins:List (Addr×Obj))(σ:St)(E:XK)(z:Prop)(r:Value->Prop)(a:Addr)(s:Shared):Prop:=∃H,Inv X pins σ H s/\yh s.heap H (vA X pins) E z r a
def yi(X:Cx):Value->Prop:=fun v=>v=.none\/v=rawInt X.env.locals
def XF(X:Cx)(E:XK):Value->Shared->Prop:=fun e s=>∃a σ,e=.ref a/\lj X [] σ E True (yi X) a s
structure nV (X:Cx):Prop where
 st:X.stack=X.env::X.outer
 fr:X.env.frame=some X.env.locals
section
variable{X:Cx}{pins:List (Addr×Obj)}{σ:St}{H:Hp}{s:Shared}{E:XK}{z:Prop}{r:Value->Prop}{a:Addr}
def yh.weak(f:yh h H n E z r a)(hm:∀b,n b->m b)(hz:z->z')(hr:∀v,r v->r' v):yh h H m E z' r' a:=by
 obtain⟨C,dx,ob,vs,f1,f2,f3,f4,f5,f6,st,q⟩:=f;refine⟨C,dx,ob,vs,hm _ f1,f2,f3,f4,f5,f6,?_,q⟩;rcases st with⟨x,y⟩|⟨T,oT,ts,v,t1,t2,t3,t4,t5,t6,t7,t8⟩
 .exact .inl ⟨hz x,y⟩
 .exact .inr ⟨T,oT,ts,v,t1,t2,hm _ t3,t4,t5,t6,t7,hr v t8⟩
theorem lj.xf{b:Prop}(f:lj X [] σ E z r a s)(hr:∀v,r v->yi X v):XF X E (.ref a) s:=by
 obtain⟨H,I,f⟩:=f;exact⟨a,σ,rfl,H,I,f.weak (fun _ z=>z) (fun _=>trivial) hr⟩
def Inv.jE(I:Inv X pins σ H s):Inv X [] σ H s:=I.fY fun p hp=>absurd hp (by simp)
def Inv.my(I:Inv X pins σ H s)(h:s.heap.objs.size<=b):vA X pins b:=⟨YB I.sz h,fun p hp e=>absurd (Ym (I.pin p hp).1) (by rw[e];exact Nat.not_lt.mpr h)⟩
def MD(B:nV X)(I:Inv X pins σ H s)(f1:vA X pins a)(f2:H a=none)(f3:s.heap.get? a=some ob)(f4:ob.cls=.ref C)(f5:ob.dict=some dx)(f6:ob.data=.fields vs)(st:MC s.heap H (vA X pins) z r a vs)(q:E (.ref C) (some dx) H)(l:Bg (bx X.stack) s.heap h' a ob vs T v'):lj X pins σ E False (·=v') a { s with heap:=h' }:=by
 have Bo:∀T0,vs[1]? = some (.ref T0)->T0≠a/\vA X pins T0/\H T0=none/\∃o ts,s.heap.get? T0=some o/\o.data=.fields ts:=fun T0 h0=>by
  rcases st with⟨_,y⟩|⟨T,oT,ts,v,t1,t2,t3,t4,t5,t6,t7,t8⟩
  .rw[y]at h0;cases h0
  .rw[t1]at h0;cases h0;exact⟨t2,t3,t7,oT,ts,t4,t5⟩
 obtain⟨ch,eW⟩:∃ch:List Addr,∀b,b∈ch↔(b=a\/vs[1]? = some (.ref b)):=by
  rcases st with⟨_,y⟩|⟨T,oT,ts,v,t1,t2,t3,t4,t5,t6,t7,t8⟩
  .exact⟨[a],fun b=>by rw[y];simp⟩
  .exact⟨[a,T],fun b=>by rw[t1];simp[eq_comm]⟩
 have yj:∀b o ts,s.heap.get? b=some o->o.data=.fields ts->b≠X.env.locals/\∀x c,X.env.cells.lookup x=some c->c≠b:=fun b o ts hb hd=>by
  refine⟨fun e=>?_,fun x c hc e=>?_⟩
  .obtain⟨m,⟨o',es,ep,ho,rr⟩,_⟩:=I.loc;rw[<- e,hb]at ho;cases ho;rw[rr.1]at hd;cases hd
  .obtain⟨v,o',ho,hv⟩:=I.cell x c hc;rw[e,hb]at ho;cases ho;rw[hv]at hd;cases hd
 have aE:cQ X.prog X.w H h':=fun c v ME=>by
  have tr:∀b v,H b=some v->∀o,s.heap.get? b=some o->h'.get? b=some o:=fun b v vB o ho=>by
   refine l.cZ b o (fun e=>by rw[e,f2]at vB;cases vB) (fun m=>?_) (fun T0 h0 e=>by rw[e,(Bo T0 h0).2.2.1]at vB;cases vB) ho;rw[I.fX b m]at vB;cases vB
  exact(I.aE c v ME).dh (fun b u hb ho=>hb.elim (fun e=>tr b v (e▸ME) u ho) fun e=>tr b _ e u ho) (fun _ z=>z) fun _ _ z=>z
 have gF:∀b,b∉ch->b≠a/\∀T0,vs[1]? = some (.ref T0)->b≠T0:=fun b hb=>⟨fun e=>hb ((eW b).mpr (.inl e)),fun T0 h0 e=>hb ((eW b).mpr (.inr (e▸h0)))⟩;have u:Un (bx X.stack) ch H H s.heap h':=⟨fun b o hb _ hf hc=>l.cZ b o (gF b hc).1 hf (gF b hc).2 hb,fun b o hb _ _ hc=>l.Fm b o (gF b hc).1 (gF b hc).2 hb,fun _ _ _ n _=>n,fun b o hb hc=>?_,fun _ _ e=>e,fun _ _ _ e=>e,fun b ps e=>⟨#[],by rw[e];simp⟩⟩
 .have J:Inv X pins σ H { s with heap:=h' }:=I.call (g':=s.gens) (d':=s.drawn) (t':=s.toks) u aE I.bare fun b hb=>?_
  .obtain⟨vy,o9,g1,g2,g3,g4,g5⟩:=l.exc;obtain⟨t1,t2,oT,ts,t3,t4,t5⟩:=l.tb;exact⟨H,J,C,dx,vy,o9,f1,f2,g1,g2.trans f4,g3.trans f5,g4,.inr ⟨T,oT,ts,v',g5,t1,t2.elim (fun x=>I.my x) fun x=>(Bo T x).2.1,t3,t4,t5,t2.elim (fun x=>I.aE.fresh x) fun x=>(Bo T x).2.2.1,rfl⟩,q⟩
  .rcases(eW b).mp hb with e|e
   .have:=yj a ob vs f3 f6;subst e;exact⟨.inr f1.1,this.1,this.2,f1.2⟩
   .obtain⟨y1,y2,y3,o,ts,y4,y5⟩:=Bo b e;have:=yj b o ts y4 y5;exact⟨.inr y2.1,this.1,this.2,y2.2⟩
 .obtain⟨sl,x⟩:=l.Fm b o (gF b hc).1 (gF b hc).2 hb;exact⟨_,x⟩
def Bp(B:nV X)(f:lj X pins σ E z (yi X) a s)(k:∀s',lj X pins σ E False (·=rawInt X.env.locals) a s'->Q () s'):wpAny (model X.prog X.w) X.A (noteFrame (.ref a) X.env) Q R s:=by
 obtain⟨H,I,C,dx,ob,vs,f1,f2,f3,f4,f5,f6,st,q⟩:=f;have hF:=I.stack;rw[B.st]at hF;refine Tj (B:=X.base) (I.ok.frames.trans (by rw[B.st])) hF B.fr f3 f6 ?_ fun h' T l=>k _ (MD B I f1 f2 f3 f4 f5 f6 st q (by rw[B.st];exact l));rcases st with⟨_,y⟩|⟨T,oT,ts,v,t1,t2,t3,t4,t5,t6,t7,t8⟩
 .exact .inl y
 .exact .inr ⟨T,oT,ts,v,t1,t2,t4,t5,t6,t8⟩
def vC(B:nV X)(f:lj X pins σ E False r a s)(k:∀s',lj X pins σ E False (·=fr.elim .none fun f=>rawInt f) a s'->Q () s'):wpAny (model X.prog X.w) A (setFlight (.ref a) fr) Q R s:=by
 obtain⟨H,I,C,dx,ob,vs,f1,f2,f3,f4,f5,f6,st,q⟩:=f;have dE:=st;rcases st with⟨y,_⟩|⟨T,oT,ts,v,t1,t2,t3,t4,t5,t6,t7,t8⟩
 .exact y.elim
 .exact Tn f3 f6 t1 t2 t4 t5 t6 fun h' l=>k _ (MD B I f1 f2 f3 f4 f5 f6 dE q l)
def yk(B:nV X):PassesOwn (model X.prog X.w) X.A X.env (XF X E):=by
 rintro e s ⟨a,σ,rfl,f⟩;refine Bp B f fun s1 f1=>?_;have Tw:=f1;obtain⟨H,I,C,dx,ob,vs,_,_,f3,_,_,f6,st,_⟩:=f1;rcases st with⟨y,_⟩|⟨T,oT,ts,v,t1,t2,t3,t4,t5,t6,t7,t8⟩
 .exact y.elim
 .refine Yb (Y8 f3 f6 t1 ?_);rw[if_neg (by simp)];refine vC B Tw fun s2 f2=>f2.xf (b:=True) fun v hv=>.inr ?_;rw[hv,B.fr];rfl
def Tx(B:nV X):rS (gi X.prog X.w) (X.bN (XF X E)) E:=by
 rintro pins σ H s e s' I ⟨a,H',rfl,gW,hg,u,aE,f⟩;exact⟨a,σ,rfl,H',I.ba.jE.jm (ch:=[]) gW u aE hg fun b hb=>absurd hb (by simp),f.weak (fun b h=>I.ba.jE.my h) (fun z=>z.elim) fun v hv=>.inl hv⟩
end
section
variable{P:Program}{w:World}{K:au}{mg:Str->Option Value}{base:Heap}{N:List Str}{qual:Str}{scope:Scope}{f:Addr}{cd:Value}{A:Around}{outer:List Env}{s0 s:Shared}{H0:Hp}{E:XK}
def nX:nV (ff CX P w K mg base N qual scope f cd A outer s0 H0 E):=⟨rfl,rfl⟩
def Tz(h:XF (ff (gi P w) P w K mg base N qual scope f cd A outer s0 H0 E) E e s):(ff (gi P w) P w K mg base N qual scope f cd A outer s0 H0 E).xe e s:=by
 obtain⟨a,σ,rfl,h⟩:=h;refine Yb (Bp nX h fun s1 h1=>vC (A:=A.deeper (envOfC qual scope s0.heap.objs.size f cd)) nX h1 fun s2 h2=>?_);obtain⟨H,I,q⟩:=h2;exact⟨a,H,rfl,I.os,I.bare,I.base,I.aE,q.weak (fun b h=>h.1) (fun z=>z) fun _ z=>z⟩
def TB{st:List Stmt}(h:d0 ((ff (gi P w) P w K mg base N qual scope f cd A outer s0 H0 E).bN (XF (ff (gi P w) P w K mg base N qual scope f cd A outer s0 H0 E) E)) st t):d0 (ff (gi P w) P w K mg base N qual scope f cd A outer s0 H0 E) st t:=fun pins s σ H D I hw =>
 YH (h pins s σ H D (I.bN _) hw) (fun _ _ q=>q.ba) fun _ _ q=>Tz q
end
def Un.kp{K:au}(u:Un fs ex H H' h h'):Kp K H H':=⟨fun a xs q=>by
 rcases q with(q|⟨o,q⟩)|q
 .exact .inl (.inl (u.bM _ _ q))
 .exact .inl (.inr ⟨o,u.cy _ _ _ q⟩)
 .exact .inr q,fun a xs q=>by
 rcases q with⟨o,q⟩|q
 .exact .inl ⟨o,u.cy _ _ _ q⟩
 .exact .inr q,fun a o v q=>u.cy _ _ _ q⟩
def Fw(K:au)(H0:Hp)(C:Addr)(sp:Sp)(E:XK)(t:TA):TS:=fun _ σ H=>t σ H fun vs H1=>Kp K H0 H1->∀x,H1 x=none ->
 sp (.ref x::vs) (upd H1 x (XO x C none)) (fun v H2=>v=.ay/\∃dx,H2 x=some (XO x C (some dx))/\E (.ref C) (some dx) (qE H2 x)) E0
def MF(K:au)(H0:Hp)(sp:Sp)(E:XK)(t:TA):TE:=fun σ H Q=>t σ H fun vs H1=>Kp K H0 H1->sp vs H1 Q E
section
variable{X:Cx}{k:Nat}{f C:Addr}{fd:FuncData}{ps:List Str}{sp:Sp}{E:XK}{x:Str}{p pos pos':Pos}{e:Expr}{es:List Expr}{t:TA}
def Inv.yl(I:Inv X pins σ H s):Inv X pins σ (upd H (s.heap.objs.size+1) (XO (s.heap.objs.size+1) C none)) { s with heap:=(s.heap.push (i5 us)).push (lg C s.heap.objs.size) }:=by
 have e2:((s.heap.push (i5 us)).push (lg C s.heap.objs.size)).get? (s.heap.objs.size+1)=some (lg C s.heap.objs.size):=by
  have:=Yl (s.heap.push (i5 us)) (o:=lg C s.heap.objs.size) rfl;rwa [YK]at this
 exact I.laid (a:=s.heap.objs.size+1) (o:=XO (s.heap.objs.size+1) C none) (t':=s.toks) (fun b u q=>Yd _ (Yd _ q)) (fV _) (XO.ok e2 rfl rfl rfl (t0:=s.heap.objs.size) rfl rfl)
theorem Bq(hc:X.calm=true)(M:qF X.K C f)(F:cz X.prog X.w X.K X.mg X.base aP k f fd ps sp)(hr:bW (k+1) X.A)(hg:Gl X x)(hm:X.mg x=some (.ref C))(hb:kT X.K fd ps [])(ha:PA (X.bN (XF X E)) (e::es) t)(hp:ps.length<=1000:=by decide)(cK:(x==("__debug__":Str))=false:=by decide)(he:starEach (e::es) X.env=(false,eval e X.env)::starEach es X.env:=by rfl)(bA:(backTo pos (starEach es X.env)).any (·.1)=false:=by rfl):
  PS (X.bN (XF X E)) (.Raise (some (.Call (.Name x p) (e::es) [] pos)) none pos') (Fw X.K X.iR C sp E t):=by
 intro pins s σ H D I h;refine Tg (I.ok.hd hc) (lF (lM I hg hm (wu (h₀:=X.base) I.ok.mod.rH M.kp (aK (ha pos pins s σ H _ I h) fun us s1 ⟨vs,H1,I1,r,q⟩=>⟨I1.br,?_⟩) he bA) cK));have hq:=q I1.base.kp (s1.heap.objs.size+1) (I1.aE.fresh (fV _));have I2:=Inv.yl (C:=C) (us:=us) I1;have r2:ZU (V.ref (s1.heap.objs.size+1)::vs) (Value.ref (s1.heap.objs.size+1)::us):=.cons rfl r;have hl:(Value.ref (s1.heap.objs.size+1)::us).length=ps.length:=by
  have e:=r2.length;rw[F.len _ _ _ _ hq]at e;exact e.symm
 have mz:us.length<=1000:=by
  rw[List.length_cons]at hl;lia
 refine kO (Td (f:=f) I1.br M.makes M.init (beq_iff_eq.mp M.fn) mz (kN (F.run _ X.stack _ _ ⟨Value.ref (s1.heap.objs.size+1)::us,[]⟩ (Value.ref (s1.heap.objs.size+1)::us) _ _ E0 (hr.make C us [])
  (I2.oJ.make C us []) (by have:=hb _ (Value.ref (s1.heap.objs.size+1)::us) I2.br (by rw[YW];exact hl);rwa [YW]at this) r2 hq) fun r s' gT=>?_))
 cases r with
 | error e=>exact gT.elim
 | ok fl =>
  cases fl with
  | ret u =>
   obtain⟨v,H',I3,rv,ev,dx,hx,hE⟩:=I2.after gT;subst ev;refine⟨rv,?_⟩;obtain⟨ob,fs,t0,ho,gK,hd,hf,h0,h1⟩:=XO.get I3.aE hx;exact⟨_,C,ob,fs,rfl,ho,gK,hf,h1,looks_mroIn I3.br M.up,PySem.W.looks_typeIn I3.br M.ty,⟨_,σ,rfl,_,I3.ba.jE.forget hx,C,dx,ob,fs,I1.ba.jE.my (fV _),yf,ho,gK,hd,hf,.inl ⟨trivial,h1⟩,hE⟩⟩
  | next=>exact False.elim gT
  | brk=>exact False.elim gT
  | cont=>exact False.elim gT
def Fx(B:nV X)(F:cz X.prog X.w X.K X.mg X.base (gi X.prog X.w) k f fd ps sp)(hr:bW k X.A)(hg:Gl X x)(hm:X.mg x=some (.ref f))(hk:PySem.W.keepIn X.K (.ref f)=true)(hb:kT X.K fd ps [])(ha:PA (X.bN (XF X E)) (e::es) t)(cK:(x==("__debug__":Str))=false:=by decide)(he:starEach (e::es) X.env=(false,eval e X.env)::starEach es X.env:=by rfl)(bA:(backTo pos (starEach es X.env)).any (·.1)=false:=by rfl):
  PE (X.bN (XF X E)) (.Call (.Name x p) (e::es) [] pos) (MF X.K X.iR sp E t):=by
 intro pins s σ H Q I h;refine lF (lM I hg hm (wu (h₀:=X.base) I.ok.mod.rH hk (aK (ha pos pins s σ H _ I h) fun us s1 ⟨vs,H1,I1,r,q⟩=>⟨I1.br,?_⟩) he bA) cK);exact Dd (X:=X.bN (XF X E)) (dvs:=[]) F hr hb .nil (Tx B) I1 r (by rw[YW];exact q I1.base.kp)
end
abbrev ko:=Addr->List (Str×U)->aw->Prop
abbrev pd:=List U->aw->bc->ko->Prop
def mB(K:au)(H:Hp)(X':ko)(E:XK):Prop:=∀C dx fs gs A' H',Kp K H H'->HR K H' A'->A' dx=none->H' dx=some (.xd gs)->cb K H' fs gs->X' C fs A'->E (.ref C) (some dx) H'
def mB.same{K:au}(h:mB K H X' E)(k:Kp K H H1):mB K H1 X' E:=fun C dx fs gs A' H' k1=>h C dx fs gs A' H' (k.trans k1)
def qG(K:au)(bg:pd):Sp:=fun vs H Q E=>∃us A Q' X',aJ K H us vs/\HR K H A/\bg us A Q' X'/\kZ K H Q' Q/\mB K H X' E
def ym(C:Addr)(f:Str)(ok:V->Prop):Sp:=fun vs H Q _=>∃x v,vs=[.ref x,v]/\ok v/\H x=some (XO x C none)/\∀dx,H dx=none->dx≠x->Q .ay (upd (upd H dx (.xd [(f,v)])) x (XO x C (some dx)))
def MG(C:Addr)(f:Str)(ok:U->Prop)(X':ko)(l:AA):AS:=fun _ ρ A=>l ρ A fun us A1=>∃u,us=[u]/\ok u/\X' C [(f,u)] A1
section
variable{K:au}
def Zlx(hE:mB K H0 X' E)(ho:∀u v H,RU K H u v->ok u->okV v)(hl:fk K t l):df K (Fw K H0 C (ym C f okV) E t) (MG C f ok X' l):=fun ρ A σ H D' D hs g h k=>by
 refine hl ρ A σ H _ _ hs g h fun us A1 vs H1 k1 g1 r1 ⟨u,e,hu,hx⟩ k0 x hn=>?_
 subst e
 cases r1 with
 | @cons _ v _ _ rv r1 =>
 cases r1
 refine⟨x,v,rfl,ho _ _ _ rv hu,Zs,fun dx hd aT=>⟨rfl,dx,Zs,?_⟩⟩
 rw[Zn aT]at hd
 have e:qE (upd (upd (upd H1 x (XO x C none)) dx (.xd [(f,v)])) x (XO x C (some dx))) x=upd H1 dx (.xd [(f,v)]):=by
  funext b;by_cases h1:b=x
  .rw[h1,yf,Zn aT.symm,hn]
  .rw[yg h1,Zn h1];by_cases h2:b=dx
   .rw[h2,Zs,Zs]
   .rw[Zn h2,Zn h1,Zn h2]
 rw[e];have sm:=a_.az (o:=.xd [(f,v)]) hd;exact hE C dx [(f,u)] [(f,v)] A1 _ (k0.trans sm.kp) (g1.grow sm) (g1.none hd) Zs ⟨rfl,.one (rv.same sm.kp)⟩ hx
def MH(bg:pd)(X':ko)(l:AA):AE:=fun ρ A Q=>l ρ A fun us A1=>bg us A1 Q X'
def Zcp(hE:mB K H0 X' E)(hl:fk K tl l):aV K (MF K H0 (qG K bg) E tl) (MH bg X' l):=fun ρ A σ H Q' Q hs hh h k =>
 hl ρ A σ H _ _ hs hh h fun us A1 vs H1 k1 g1 r1 q1 k0=>⟨us,A1,Q',X',r1,g1,q1,fun z A3 v3 H3 k3 h3 r3 q3=>k _ _ _ _ (k1.trans k3) h3 r3 q3,hE.same k0⟩
end
section
variable{P:Program}{w:World}{K:au}{mg:Str->Option Value}{base:Heap}
def iW.vD{st:Stmt}{as:ko->AS}(F:iW K x qual st f fd)(hs:ZI st=sc)(hb:kW st=body)(S:gU N ps (ZI st))(cT:gU N ps sc->∀ (bf:Value) (A:Around) (outer:List Env) (s:Shared) (H:Hp) (E:XK) (X':ko),bW k (A.deeper (envOfC qual sc s.heap.objs.size f bf))->mB K H X' E ->
   ∃t,d0 ((ff (gi P w) P w K mg base N qual sc f bf A outer s H E).bN (XF (ff (gi P w) P w K mg base N qual sc f bf A outer s H E) E)) body t/\df K t (as X'))(iJ:∀us A Q X',bg us A Q X'->us.length=ps.length/\as X' { nx:=fun _ A'=>Fg Q .ay A',rt:=Fg Q } (aStart N us) A):cz P w K mg base (gi P w) (k+1) f fd ps (qG K bg):=by
 subst hs hb;obtain⟨oc,od,kV,doc,pm,an,bf,ct,oK,rfl,lk,gP⟩:=F.ex;refine JR lk gP S (fun vs H Q E ⟨us,A,Q',X',r,g,h,_⟩=>?_) fun A outer s H vs Q E hr ⟨us,A',Q',X',r,g,h,k,kx⟩=>?_
 .rw[<- r.length];exact(iJ us A Q' X' h).1
 .obtain⟨t,ht,ha⟩:=cT S bf A outer s H E X' hr kx;exact⟨t,TB ht,ha _ _ _ _ _ _ (aU.start N r) g (iJ us A' Q' X' h).2 ⟨fun ρ A σ H' k' g' s' ⟨A3,e,q'⟩=>k _ _ _ _ k' (g'.ext e) .ay q',fun u A v H' k' g' r' ⟨A3,e,q'⟩=>k _ _ _ _ k' (g'.ext e) r' q',fun _ _ _ _ _ _ _ q=>q.elim,fun _ _ _ _ _ _ _ q=>q.elim⟩⟩
end
def i6.at{K:au}(c:i6 K C D b)(x:K.In h):Bi M h C D b:=by
 refine⟨looks_instIn x c.nt,?_,looks_mroIn x c.ex,looks_mroIn x c.sb⟩;intro A Q E s k q;have t:=c.ty;unfold PySem.W.isClsIn clsIn at t;split at t
 .rename_i oc od cd sl hl;simp only[isType,loadHead];exact Yb (wpAny_loadPart (k _ _ (x _ _ hl)) (Ye q))
 .cases t
abbrev Cx.jF(X:Cx)(a:Addr):Cx:={ X with A:=X.A.mark (some (.ref a)),calm:=false,xe:=fun _ _=>False }
def XE(X:Cx)(pins:List (Addr×Obj))(σ:St)(E:XK):Value->Shared->Prop:=fun ev s'=>∃H1 s1,Inv X pins σ H1 s1/\gi X.prog X.w X.stack H1 s1 E ev s'
abbrev TX:=St->Hp->VK->XK->Prop
def MI(X:Cx)(e:Expr)(tx:TX):Prop :=
 ∀(pins:List (Addr×Obj))(s:Shared)(σ:St)(H:Hp)(Q:VK)(E:XK),Inv X pins σ H s->tx σ H Q E->wpAny (model X.prog X.w) X.A (eval e X.env) (EP X pins σ Q) (XE X pins σ E) s
section
variable{X:Cx}{pins:List (Addr×Obj)}{σ:St}{H:Hp}{s:Shared}{a D f:Addr}{i k:Nat}{x y:Str}{e e1:Expr}{es:List Expr}{p px p1 pe hp pos:Pos}{b0:Stmt}{su:List Stmt}{tx:TX}{th:TS}{t:TA}{fd:FuncData}{ps:List Str}{sp:Sp}
def Inv.jF(I:Inv X pins σ H s):Inv (X.jF a) pins σ H s:=⟨{ I.ok with hd:=fun z=>nomatch z },I.os,I.bare,I.base,I.loc,I.cell,I.free,I.bz,I.pin,I.aE,I.len⟩
def Inv.eD(I:Inv (X.jF a) pins σ H s)(ok:X.Ok):Inv X pins σ H s:=⟨ok,I.os,I.bare,I.base,I.loc,I.cell,I.free,I.bz,I.pin,I.aE,I.len⟩
def SP.eD(ok:X.Ok)(h:SP (X.jF a) pins Dn fl s'):SP X pins Dn fl s':=by
 cases fl with
 | next=>obtain⟨aS,H',I,q⟩:=h;exact⟨aS,H',I.eD ok,q⟩
 | brk=>obtain⟨aS,H',I,q⟩:=h;exact⟨aS,H',I.eD ok,q⟩
 | cont=>obtain⟨aS,H',I,q⟩:=h;exact⟨aS,H',I.eD ok,q⟩
 | ret u=>obtain⟨v,aS,H',I,r,q⟩:=h;exact⟨v,aS,H',I.eD ok,r,q⟩
end
abbrev AX:=aQ->aw->bc->ko->Prop
def MJ(K:au)(tx:TX)(ax:AX):Prop:=∀ρ A σ H Q' X' Q E,aU K H ρ σ->HR K H A->ax ρ A Q' X'->kZ K H Q' Q->mB K H X' E->tx σ H Q E
section
variable{K:au}
def ZnW:MG C f ok X' l D ρ A=l ρ A fun us A1=>∃u,us=[u]/\ok u/\X' C [(f,u)] A1:=rfl
def Znc:MH bg X' l ρ A Q=l ρ A fun us A1=>bg us A1 Q X':=rfl
end
section
variable{prog:Program}{w:World}{A:Around}{R:Result->Shared->Prop}{I S:Addr}{fp wr:List Addr}{n:Nat}{P:Nat->Value->Prop}{St:Nat->Heap->Prop}{bt:Nat->Nat->Bool}{d:Value}
abbrev MK(I S:Addr)(d:Value):Code:=.builtin "min.loop" ⟨[.ref I,.none,.ref S],[(Str.ofString "default",d)]⟩
def Br:(toString "min"++toString ".loop":String)="min.loop":=by decide
theorem TC(W:Walks prog w A.in1 I fp wr n P St)(hc:CmpOf prog w A.in1 .Lt P bt)(nS:S∉fp)(g:Nat):∀(j:Nat)(s:Shared)(b0:Value)(c:Nat),j+1+g=n->St (j+1) s.heap->P (argBest bt j) b0->s.heap.get? S=some (seqObj "list" #[b0,b0] c) ->
  (∀v h' tk,P (argBest bt (n-1)) v->(∀b o,b∉wr->b≠S->s.heap.get? b=some o->h'.get? b=some o)->R (.ok (.ret v)) { s with heap:=h',toks:=tk })->codeAny (model prog w) A (MK I S d) R s:=by
 have nW:S∉wr:=fun h=>nS (W.sub _ h);induction g with
 | zero =>
  intro j s b0 c e st pb eS q;refine nc F.entry_min_loop ?_;rw[qa F.plain_min_loop _];refine Yb (uN eS rfl (Yb (zM (W.done s _ _ (e▸st) fun h1 t1 k1=>Yb (oh (k1 S _ nW eS) rfl (Yb (rE (Ye ?_))))))));exact q b0 _ t1 (by rw[<- e];exact pb) fun b o x y z=>(YF _ _ (Ne.symm y)).trans (k1 b o x z)
 | succ g ih =>
  intro j s b0 c e st pb eS q;refine nc F.entry_min_loop ?_;rw[qa F.plain_min_loop _];refine Yb (uN eS rfl (Yb (zM (W.item (j+1) s _ _ (by lia) st fun v h1 t1 p1 Bs k1=>?_))));have vE:=k1 S _ nW eS;refine Yb (Ye ?_);show wpAny _ A.in1 (tryCatch (holding [v,v] (richCompare .Lt v b0>>=_)) _>>=_) _ _ _;refine Yb (zM (YU (Yb (hc (j+1) (argBest bt j) v b0 _ _ _ p1 pb (Yb (YU (rp (Yb (rE (Ye ?_))))))))));cases hb:bt (j+1) (argBest bt j)with
  | true =>
   refine Yb (oh vE rfl (Yb (rE ?_)));rw[Br];refine Ye ⟨oq F.plain_min_loop _,ih (j+1) _ v _ (by lia) (W.frame _ _ _ Bs fun b m o z=>(YF _ _ (fun h:S=b=>nS (h▸m))).trans z) (by rw[argBest,hb];exact p1) (YE _ vE rfl) fun v' h2 t2 p2 k2=>q v' h2 t2 p2 fun b o x y z=>k2 b o x y ((YF _ _ (Ne.symm y)).trans (k1 b o x z))⟩
  | false =>
   refine Yb (rE ?_);rw[Br];exact Ye ⟨oq F.plain_min_loop _,ih (j+1) _ b0 c (by lia) Bs (by rw[argBest,hb];exact pb) vE fun v' h2 t2 p2 k2=>q v' h2 t2 p2 fun b o x y z=>k2 b o x y (k1 b o x z)⟩
theorem TF(W:Walks prog w A.in1 I fp wr n P St)(hc:CmpOf prog w A.in1 .Lt P bt)(nS:S∉fp)(st:St 0 s.heap)(eS:s.heap.get? S=some (seqObj "list" #[] c))(q:∀v h' tk,(n=0/\v=d\/0<n/\P (argBest bt (n-1)) v)->(∀b o,b∉wr->b≠S->s.heap.get? b=some o->h'.get? b=some o)->R (.ok (.ret v)) { s with heap:=h',toks:=tk }):codeAny (model prog w) A (MK I S d) R s:=by
 have nW:S∉wr:=fun h=>nS (W.sub _ h);refine nc F.entry_min_loop ?_;rw[qa F.plain_min_loop _];refine Yb (uN eS rfl (Yb (zM ?_)));by_cases hn:n=0
 .exact W.done s _ _ (hn▸st) fun h1 t1 k1=>Yb (qf (Ye (q d h1 t1 (.inl ⟨hn,rfl⟩) fun b o x _ z=>k1 b o x z)))
 .refine W.item 0 s _ _ (by lia) st fun v h1 t1 p1 Bs k1=>Yb (Ye (Yb ?_));have vE:=k1 S _ nW eS;refine oh vE rfl ?_;rw[Br];refine Ye ⟨oq F.plain_min_loop _,TC W hc nS (n-1) 0 _ v _ (by lia) (W.frame _ _ _ Bs fun b m o z=>(YF _ _ (fun h:S=b=>nS (h▸m))).trans z) p1 (YE _ vE rfl) fun v' h2 t2 p2 k2=>q v' h2 t2 (.inr ⟨by lia,p2⟩) fun b o x y z=>k2 b o x y ((YF _ _ (Ne.symm y)).trans (k1 b o x z))⟩
end
def TK(a v:Value):argsOk "min" ⟨[a],[(Str.ofString "default",v)]⟩:=by unfold argsOk;kernel_rfl
def ML(K:au):V->Hp->VK->Prop:=fun x H Q=>∃p ns,x=.ref p/\aZ K H p (List.map V.int ns)/\(ns=[]->Q .ay H)/\∀m,m∈ns->(∀x∈ns,m<=x)->Q (.int m) H
def MN(K:au)(te:TE):TE:=fun σ H Q=>te σ H fun x H1=>ML K x H1 Q
section
variable{X:Cx}{e:Expr}{te:TE}{p p2 p3 pos:Pos}{kj:Nat}
theorem TL(I:Inv X pins σ H s)(hh:B.in1.handled=none)(hl:aZ X.K H l (ns.map V.int))(h0:∀s',Inv X pins σ H s'->ns=[]->Q .none s')(h1:∀s' m t,Inv X pins σ H s'->m∈ns->(∀x∈ns,m<=x)->Q (.int m t) s'):wpAny (model X.prog X.w) B (call (.builtin "min") [.ref l] [(Str.ofString "default",.none)]) Q E s:=by
 obtain⟨its,rv,pl,hz⟩:=I.list hl;have hlen:its.toArray.size=ns.length:=by have:=rv.length;simp at this;simp;lia
 have hp:l<s.heap.objs.size:=by obtain⟨o,n,e,_⟩:=pl;exact Ym e
 refine kmk_tree F.kind_min F.plain_min F.entry_min (TK _ _) (show _ from ?_);show wpAny _ B.in1 (Builtin.Builtins.bindParams "min" ["key","default"] 0 ⟨[],[(Str.ofString "default",.none)]⟩>>=_) _ E s;refine Yb (wF (show Builtin.Builtins.bindParams "min" ["key","default"] 0 ⟨[],[(Str.ofString "default",.none)]⟩=pure [none,some .none]from rfl) (Yb (Ye (Yb (uL pl.isList (Yb (CD (show _ from ?_) (Y9 _))))))));rw[Br];have TM:l≠s.heap.objs.size:=Yo hp;have kk:∀ {b:Addr} {ob:Obj} {x:Obj} {y:Obj},s.heap.get? b=some ob->((s.heap.push x).push y).get? b=some ob:=fun e=>Yd _ (Yd _ e);refine Ye ⟨oq F.plain_min_loop _,TF (d:=.none) (wG hh s.heap.objs.size l TM its.toArray) (bt:=fun i j=>decide (MM.fh ns i<MM.fh ns j)) (fun i j vi vj s' Q' E' hi hj hq=>?_) ?_ ⟨⟨_,Yd _ (Yl _ rfl),rfl,rfl⟩,pl.isList.at fun o e=>kk e⟩ (Yl _ rfl) fun v h' tk hv hk=>?_⟩
 .obtain⟨_,t,rfl⟩:=ve rv hi;obtain⟨_,t',rfl⟩:=ve rv hj;exact HT.gV _ _ _ _ _ _ _ _ _ _ hq
 .rw[YK];intro hm;rcases Yp.mp hm with e|hm
  .exact absurd e (Nat.succ_ne_self _)
  .exact absurd hp (by rw[<- Yn.mp hm];exact Nat.not_lt.mpr (fV _))
 .have I':Inv X pins σ H { s with heap:=h',toks:=tk }:=I.kept (t':=tk) fun b o e=>hk b o (by simp;exact Yo (Ym e)) (fun z=>absurd (Ym e) (by rw[z,YK];exact Nat.not_lt.mpr (fV _))) (kk e);rw[hlen]at hv;rcases hv with⟨hn,rfl⟩|⟨hn,hv⟩
  .exact h0 _ I' (wt.mp hn)
  .obtain⟨hi,t,rfl⟩:=ve rv hv;refine h1 _ _ _ I' (KC hi) fun x hx=>?_;obtain⟨j,hj,rfl⟩:=KD hx;exact D9 ns (ns.length-1) j (by lia)
theorem MO(K:au)(hK:X.K=K)(hc:X.calm=true)(hg:Gl X "min")(hm:X.mg "min"=none)(he:PE X e te)(jq:starEach [e] X.env=[(false,eval e X.env)]:=by rfl):PE X (.Call (.Name "min" p) [e] [⟨some "default",.Constant .none kj p2,p3⟩] pos) (MN K te):=by
 subst hK;intro pins s σ H Q I h;refine lF (oB I hg hm (show bootBuiltins "min"=some (.builtin "min") by decide +kernel) (show _ from ?_) (by decide) (by decide));have h_:PA X [e] (cR te f9):=Za he Zd jq;have h':cR te f9 σ H (fun vs H1=>match vs with|[x]=>ML X.K x H1 Q|_=>False):=h;refine callWith_kw (aK (h_ pos pins s σ H _ I h') fun us s1 ⟨vs,H1,I1,r1,q1⟩=>?_) (by rw[jq];rfl) (by rw[jq];rfl) rfl rfl;dsimp only at q1;split at q1
 .obtain⟨u,rfl,ru⟩:=r1.one;obtain⟨l,ns,rfl,hl,q0,q⟩:=q1;cases ru;show wpAny _ _ (evalAll [(do let v <- eval (.Constant .none kj p2) X.env;standAt pos;pure v)]) _ _ s1;refine wpAny_evalAll_cons (Yb (Constant_none (Yb (oo (Ye (wpAny_evalAll_nil ?_))))));show wpAny _ _ (call (.builtin "min") [.ref l] [(Str.ofString "default",.none)]) _ _ _;exact TL I1 (show X.A.in1.handled=none from I.ok.hd hc) hl (fun s' I' hn=>⟨.ay,H1,I',rfl,q0 hn⟩) fun s' m t I' hm hx=>⟨.int m,H1,I',⟨_,rfl⟩,q m hm hx⟩
 .exact q1.elim
end
def MP(ae:AE):AE:=fun ρ A Q=>ae ρ A fun x A1=>∃p ns,x=.ref p/\A1 p=some (.lst (List.map U.int ns))/\(ns=[]->Q .ay A1)/\∀m,m∈ns->(∀x∈ns,m<=x)->Q (.int m) A1
def ZkX{K:au}(h:aV K te ae):aV K (MN K te) (MP ae):=fun ρ A σ H Q' Q hs g wh k =>
 h ρ A σ H _ _ hs g wh fun x A1 v H1 k1 g1 r1 aD=>by
  obtain⟨p,ns,e,hp,q0,q⟩:=aD
  subst e
  cases r1
  obtain⟨vs,h1,r⟩:=g1.list hp
  rw[r.ints]at h1
  exact⟨p,ns,rfl,aZ.of h1,fun hn=>k _ _ _ _ k1 g1 .ay (q0 hn),fun m hm hx=>k _ _ _ _ k1 g1 (.int m) (q m hm hx)⟩
def ZoE:MP ae ρ A Q=ae ρ A fun x A1=>∃p ns,x=.ref p/\A1 p=some (.lst (List.map U.int ns))/\(ns=[]->Q .ay A1)/\∀m,m∈ns->(∀x∈ns,m<=x)->Q (.int m) A1:=rfl
section
variable{X:Cx}(P:Program)(w:World)(hP:X.prog=P)(hw:X.w=w)
include hP hw
def MQ:j5 X (E7 P w):=by subst hP hw;exact sO
def TN:a8 X (compareOp .In) (E5 P w):=by subst hP hw;exact A_
def TQ:a8 X (compareOp .NotIn) (E6 P w):=by subst hP hw;exact E8
end
def Fy(lo st:Int)(n:Nat):It:=⟨fun i _=>i<n,fun i H x H'=>H'=H/\x=.int (lo+(i:Nat)*st),fun i _=>n<=i⟩
def TR{K:au}(it:Addr)(lo st:Int)(n:Nat):nu P w K tg (Fy lo st n) [it] it (fun i h=>IsRangeIter h it (lo+(i:Nat)*st) ((n:Int)-(i:Nat)) st) where
 mem:=by simp
 obj := fun i h st b hb=>by
  have e:b=it:=by simpa using hb
  subst e
  exact⟨_,st,fun v z=>by
   have z':Data.fields _=Data.cell v:=z
   cases z'⟩
 keep:=fun i h h' st k=>k it (by simp) _ st
 item:=by
  intro X hP hw hK hc i pins s σ H E I hf dE hg;subst hP hw hK;obtain⟨f0,f1,f2,f3,f4,f5⟩:=hf it (by simp);have W:=Walks.range (prog:=X.prog) (w:=X.w) (I.ok.hd hc) it lo st n;refine W.item i s _ _ hg dE fun v h' tk hv fe kk=>?_;obtain⟨t,rfl⟩:=hv;have I1:Inv X pins σ H { s with heap:=h',toks:=tk }:=I.turned (fun b o hb e=>kk b o (by simpa using hb) e) f0 f1 f3 f4 f5;exact⟨_,rfl,uT (s:={ s with heap:=h',toks:=tk }) (n:="range_iterator") fe rfl rfl (by decide) ⟨.int _,H,I1,⟨t,rfl⟩,⟨rfl,rfl⟩,fe,fun b hb=>(hf b hb).1⟩⟩
 done:=by
  intro X hP hw hK hc i pins s σ H E I hf dE hg;subst hP hw hK;obtain⟨f0,f1,f2,f3,f4,f5⟩:=hf it (by simp);exact Ii (I.ok.hd hc) dE (by have:n<=i:=hg;lia) fun h' eb=>⟨rfl,I.turned (t':=s.toks) (fun b o hb e=>eb b o hb e) f0 f1 f3 f4 f5⟩
 self:=fun _ _ _ _ _ st h=>Ij st h
theorem MR(hc:0<c)(ha:0<=a)(hb:b<=4096):∃n:Nat,Builtin.Range.rangeSize a b c=n/\(n:Int)<=4096/\∀t:Nat,t<n->a+t*c<b:=by
 unfold Builtin.Range.rangeSize;rw[if_pos (show c>0 from hc)];by_cases h:a<b
 .rw[if_pos (show b>a from h)];have h0:0<=(b-a-1) / c:=Int.ediv_nonneg (by lia) (by lia);have h1:(b-a-1) / c<=b-a-1:=Int.ediv_le_self _ (by lia);refine⟨((b-a-1) / c+1).toNat,by lia,by lia,fun t ht=>?_⟩;have h2:(t:Int)<=(b-a-1) / c:=by lia
  have h3:(t:Int)*c<=(b-a-1) / c*c:=Int.mul_le_mul_of_nonneg_right h2 (by lia);have h4:=Int.ediv_mul_le (b-a-1) (show c≠0 by lia);lia
 .rw[if_neg (show ¬b>a from h)];exact⟨0,rfl,by decide,fun t ht=>absurd ht (rC t)⟩
theorem TU(hc:0<c)(CP:c<=4096)(ha:0<=a)(ha':a<=4096)(hb:0<=b)(nM:b<=4096):Builtin.Range.small a b c=true:=by
 obtain⟨n,e,hn,_⟩:=MR hc ha nM;unfold Builtin.Range.small;rw[e];simp only[Builtin.Range.rangeFitsLong,YQ,Bool.or_eq_true,wz,beq_iff_eq,show c>0 from hc,if_true];lia
section
variable{X:Cx}{tg:Expr}{a b c:Expr}{p pos:Pos}{ta:TA}
def Bt:List V->Hp->(It->Hp->Prop)->Prop:=fun vs H R=>∃i j k:Int,vs=[.int i,.int j,.int k]/\(0<k/\k<=4096/\0<=i/\i<=4096/\0<=j/\j<=4096)/\∀n:Nat,(n:Int)<=4096->(∀t:Nat,t<n->i+t*k<j)->R (Fy i k n) H
theorem TV(hg:Gl X "range")(hm:X.mg "range"=none)(ha:PA X [a,b,c] ta)(hs:starEach [a,b,c] X.env=[(false,eval a X.env),(false,eval b X.env),(false,eval c X.env)]:=by rfl)(wW:starEach [b,c] X.env=[(false,eval b X.env),(false,eval c X.env)]:=by rfl):
  PI X tg (.Call (.Name "range" p) [a,b,c] [] pos) (Aq Bt ta):=by
 intro pins s σ H R I h;refine Call_ (oB I hg hm boot_range (wm (aK (ha pos pins s σ H _ I h) fun us s1 ⟨vs,H1,I1,r1,q1⟩=>?_) (by rw[hs,wW]) (by rw[wW];rfl)));obtain⟨lo,hi,k,rfl,⟨b1,b2,b3,b4,b5,b6⟩,q⟩:=q1;obtain⟨n,en,hn,ht⟩:=MR b1 b3 b6;have q:=q n hn ht;cases r1 with
 | cons r rr =>
 cases rr with
 | cons r' rr =>
 cases rr with
 | cons r2 rr =>
  cases rr;obtain⟨t,rfl⟩:=r;obtain⟨u,rfl⟩:=r';obtain⟨v,rfl⟩:=r2;refine call_range_3 (by lia) (IG (IsRange.new ..) (TU b1 b2 b3 b4 b5 b6) ?_) (.inl (Ik (by lia)));generalize hR:s1.heap.push { cls:=.type "range",data:=.fields #[.int lo t,.int hi u,.int k v] }=h2;have I2:Inv X pins σ H1 { s1 with heap:=h2,toks:=s1.toks }:=hR▸I1.kept fun b o e=>Yd _ e;refine⟨h2.objs.size,[h2.objs.size],_,_,H1,rfl,I2.kept (t':=s1.toks) fun b o e=>Yd _ e,TR _ lo k n,?_,fun b hb=>?_,q⟩
  .show IsRangeIter _ _ (lo+((0:Nat):Int)*k) ((n:Int)-((0:Nat):Int)) k;rw[show lo+((0:Nat):Int)*k=lo by simp,show(n:Int)-((0:Nat):Int)=Builtin.Range.rangeSize lo hi k by rw[en];simp];exact Yl _ rfl
  .rw[Yn.mp hb];exact I2.fZ (Yk _) (I2.aE.fresh (Yk _))
end
section
variable{K:au}
def qH(lo st:Int)(n:Nat):List U:=(List.range n).map fun(i:Nat)=>.int (lo+(i:Nat)*st)
def MS(lo st:Int)(n i:Nat):(qH lo st n)[i]? = if i<n then some (.int (lo+(i:Nat)*st))else none:=by
 unfold qH;rw[Yj];by_cases h:i<n
 .rw[if_pos h,Cq h];rfl
 .rw[if_neg h,Y3 (by rw[qd];lia)];rfl
def TY{lo st:Int}:qr K H (Fy lo st n) (dF (qH lo st n)):=fun i A H1 x k g e=>by
 have e:x=(qH lo st n)[i]?:=e
 rw[MS]at e
 by_cases h:i<n
 .rw[if_pos h]at e
  subst e
  exact⟨h,fun x H' q=>by
   obtain⟨rfl,rfl⟩:=q
   exact⟨.refl _,g,.int _⟩⟩
 .rw[if_neg h]at e
  subst e
  exact uM h
def Fz:List U->aw->(dk->aw->Prop)->Prop:=fun us A R=>∃i j k:Int,us=[.int i,.int j,.int k]/\(0<k/\k<=4096/\0<=i/\i<=4096/\0<=j/\j<=4096)/\∀n:Nat,(n:Int)<=4096->(∀t:Nat,t<n->i+t*k<j)->R (dF (qH i k n)) A
def TZ:vk K Bt Fz:=fun x v A H R' R r g w k=>by
 obtain⟨i,j,l,rfl,hb,w⟩:=w
 cases r with
 | cons r rr =>
 cases rr with
 | cons r2 rr =>
 cases rr with
 | cons r3 rr =>
  cases rr;cases r;cases r2;cases r3
  exact⟨i,j,l,rfl,hb,fun n hn ht=>k _ _ _ _ (.refl H) g TY (w n hn ht)⟩
def Zk6(hl:fk K t l):sC K (Aq Bt t) (AD Fz l):=Zd5 (u:=Bt) TZ hl
def ZtL:Fz [.int i,.int j,.int k] A R=((0<k/\k<=4096/\0<=i/\i<=4096/\0<=j/\j<=4096)/\∀n:Nat,(n:Int)<=4096->(∀t:Nat,t<n->i+t*k<j)->R (dF (qH i k n)) A) :=
 propext ⟨fun aD=>by obtain⟨_,_,_,e,h⟩:=aD;cases e;exact h,fun h=>⟨_,_,_,rfl,h⟩⟩
end
def T2:builtinKind "BaseException.__getattribute__"=some .slot:=by kernel_rfl
def T3:splitId "BaseException.__getattribute__"=some ("BaseException","__getattribute__"):=by kernel_rfl
def MT(x y:Value):slotArgs "__getattribute__" 1 ⟨[x,y],[]⟩=pure (x,[y]):=by
 unfold slotArgs;simp
section
variable{prog:Program}{w:World}{K:au}{A:Around}{E:Value->Shared->Prop}{s:Shared}{x C:Addr}{ox:Obj}{od:Option Obj}{name:Str}{tk:Tok}{v g a:Value}{R:Result->Shared->Prop}
def MU(X:K.In s.heap)(I:PySem.W.InstAt s.heap x ox C od)(o_:PySem.W.mroIn K C (.type "BaseException")=some true)(h:wpAny (model prog w) A.in1 (Builtin.«object.__getattribute__» ⟨[.ref x,.str name tk],[]⟩) (fun fin s'=>match fin with|.done f=>R (.ok f) s'|.again c'=>c'.quiet=true/\codeAny (model prog w) A c' R s') (fun e s'=>R (.error e) s') s):
  codeAny (model prog w) A (.call (.builtin "BaseException.__getattribute__") ⟨[.ref x,.str name tk],[]⟩) R s:=by
 have sub:PySem.W.Looks (model prog w) s.heap (isInstance (.ref x) (.type "BaseException")) true:=I.type.andThen (looks_mroIn X o_);exact codeAny_call_builtin F.excAttr_ValueError.ga.plain F.entry_bexc_ga (@PySem.W.check_slot (model prog w) _ _ s "BaseException.__getattribute__" "BaseException" "__getattribute__" (.ref x) [.str name tk] [] _ T2 T3 sub (F.args_bexc_ga (.ref x) (.str name tk)) h)
def T4(X:K.In s.heap)(I:PySem.W.InstAt s.heap x ox C od)(o_:PySem.W.mroIn K C (.type "BaseException")=some true)(hf:PySem.W.findObj K C od name=some (.value v))(h:R (.ok (.ret v)) s):
  codeAny (model prog w) A (.call (.builtin "BaseException.__getattribute__") ⟨[.ref x,.str name tk],[]⟩) R s:=by
 refine MU X I o_ ?_;obtain⟨hh,gg,d,t,os⟩:=s;have L0:=I.type (M:=model prog w);have L1:=looks_find (M:=model prog w) X I hf;unfold Builtin.«object.__getattribute__»;rw[MT];refine Yb (Ye ?_);dsimp only;exact Yb (Ye (Yb (L0.at (Yb (L1.at (Ye h))))))
theorem MV{expr fill:Bool}(X:K.In s.heap)(I:PySem.W.InstAt s.heap x ox C od)(yn:PySem.W.findIn K (.ref C) "__getattribute__"=some (some (.builtin "BaseException.__getattribute__")))(hk:PySem.W.findIn K (.ref C) "__getattr__"=some none)(h:codeAny (model prog w) A (.call (.builtin "BaseException.__getattribute__") ⟨[.ref x,.str name tk],[]⟩) (fun r s'=>match r with|.ok (.ret v)=>wpAny (model prog w) A (handedOut v) Q E s'|_=>False) s):
  wpAny (model prog w) A (getAttrBy (.ref x) (.str name tk) fill expr) Q E s:=by
 obtain⟨hh,gg,d,t,os⟩:=s;have L0:=I.type (M:=model prog w);have L1:=looks_findIn (M:=model prog w) X yn;have L2:=looks_findIn (M:=model prog w) X hk;have f3:=F.excAttr_ValueError.ga.bind (.ref x);have T5:(expr&&onTheHeap (Value.builtin "BaseException.__getattribute__"))=false:=by cases expr<;>rfl
 have Bu:(Value.builtin "BaseException.__getattribute__" == Value.builtin "object.__getattribute__")=false:=by decide +kernel
 have sR:(onTheHeap (Value.ref C)&&Value.builtin "BaseException.__getattribute__" == Value.builtin "object.__getattribute__")=false:=by rw[Bu];rfl
 unfold getAttrBy;refine YU (Yb (L0.at (Yb (L1.at ?_))));dsimp only;rw[sR];simp only[kM,fW];unfold getAttrByItsOwn hookBefore;rw[show onTheHeap (Value.ref C)=true from rfl,if_pos rfl];refine Yb (L2.at (Yb ?_));unfold callGetattribute;rw[T5];simp only[kM,fW];unfold boundAndCalled;rw[f3];refine qe (YU (Yb (Ye ?_)));show wpAny _ _ (call (.builtin "BaseException.__getattribute__") [.ref x,.str name tk]) _ _ _;refine kO (kN h fun r s' z=>?_);rcases r with e|(v|_|_|_)<;>first|exact z|exact z.elim
def T6(X:K.In s.heap)(I:PySem.W.InstAt s.heap x ox C od)(yn:PySem.W.findIn K (.ref C) "__getattribute__"=some (some (.builtin "BaseException.__getattribute__")))(hk:PySem.W.findIn K (.ref C) "__getattr__"=some none)(o_:PySem.W.mroIn K C (.type "BaseException")=some true)(hf:PySem.W.findObj K C od name=some (.value v))(hh:PySem.W.handedIn v=true)(h:Q v { s with toks:=s.toks+1 }):wpAny (model prog w) A (getAttr (.ref x) name expr) Q E s:=by
 unfold getAttr;refine Yb (wpAny_mkText (MV (s:={ s with toks:=s.toks+1 }) X I yn hk (T4 (s:={ s with toks:=s.toks+1 }) X I o_ hf ?_)));show wpAny _ _ (handedOut v) _ _ _;rw[handedOut_of hh];exact Ye h
def T7{od:Obj}(X:K.In s.heap)(I:PySem.W.InstAt s.heap x ox C (some od))(yn:PySem.W.findIn K (.ref C) "__getattribute__"=some (some (.builtin "BaseException.__getattribute__")))(hk:PySem.W.findIn K (.ref C) "__getattr__"=some none)(o_:PySem.W.mroIn K C (.type "BaseException")=some true)(FA:PySem.W.hasDictIn K C=true)(ha:PySem.W.findIn K (.ref C) "__class__"=some (some (.builtin "object.__class__")))(hn:PySem.W.specialIn K (.builtin "object.__class__") "__get__"=some (some (.builtin "getset_descriptor.__get__")))(oI:PySem.W.takesIn K (.builtin "object.__class__")=some true)(hm:PySem.W.mroIn K C (.type "object")=some true)(h:Q (some (.ref C)) { s with toks:=s.toks+1 }):wpAny (model prog w) A (getAttr? (.ref x) "__class__") Q E s:=by
 have hf:PySem.W.findObj K C (some od) "__class__"=some (.bind (.builtin "getset_descriptor.__get__") (.builtin "object.__class__")):=PySem.W.findObj_data (by obtain⟨cd,hc,_⟩:=any_some FA;rw[hc];rfl) ha hn oI;unfold getAttr? getAttrBy?;refine Yb (wpAny_mkText (Yb (qe (MV (s:={ s with toks:=s.toks+1 }) X I yn hk ?_))));refine MU (s:={ s with toks:=s.toks+1 }) X I o_ ?_;obtain⟨hh,gg,d,t,os⟩:=s;have L0:=I.type (M:=model prog w);have L1:=looks_find (M:=model prog w) X I hf;unfold Builtin.«object.__getattribute__»;rw[MT];refine Yb (Ye ?_);dsimp only;refine Yb (Ye (Yb (L0.at (Yb (L1.at ?_)))));show wpAny _ _ (holding [_] (call (.builtin "getset_descriptor.__get__") [.builtin "object.__class__",.ref x,.ref C])>>=ret) _ _ _;refine Yb (YU (kO (PySem.W.class_get (s:=⟨hh,gg,d,t+1,os⟩) (ox:=ox) (od:=some od) X I hm (Ye ?_))));show wpAny _ _ (handedOut (.ref C)) _ _ _;rw[handedOut_of rfl];exact Ye (Ye h)
end
structure nY (K:au) (C:Addr):Prop where
 ga:PySem.W.findIn K (.ref C) "__getattribute__"=some (some (.builtin "BaseException.__getattribute__"))
 gk:PySem.W.findIn K (.ref C) "__getattr__"=some none
 up:PySem.W.mroIn K C (.type "BaseException")=some true
 hd:PySem.W.hasDictIn K C=true
 cl:PySem.W.findIn K (.ref C) "__class__"=some (some (.builtin "object.__class__"))
 cg:PySem.W.specialIn K (.builtin "object.__class__") "__get__"=some (some (.builtin "getset_descriptor.__get__"))
 ct:PySem.W.takesIn K (.builtin "object.__class__")=some true
 ob:PySem.W.mroIn K C (.type "object")=some true
def FC{K:au}(g:nY K C):PySem.W.KitX K (.ref x) (.ref C) (fun h=>PySem.W.InstAt h x ox C (some od)) where
 ty:=fun _ _ _ I=>I.type
 it := fun _ _ X _=>by
  obtain⟨T8,lP,_⟩:=any_some g.hd
  unfold clsIn at lP
  split at lP
  .rename_i c' d' MA CM ho
   intro A' Q' E' s' k q
   unfold isType loadHead
   exact Yb (wpAny_loadPart (k _ _ (X _ _ ho)) (Ye q))
  .cases lP
 ne := fun h tp dd its n sl X T9=>by
  obtain⟨T8,lP,_⟩:=any_some g.hd
  refine Bool.eq_false_iff.mpr fun q=>?_
  have e:C=tp:=Value.ref.inj (beq_iff_eq.mp q)
  subst e
  unfold clsIn at lP
  split at lP
  .rename_i c' d' MA CM ho
   have z:=(X _ _ ho).symm.trans T9
   cases z
  .cases lP
 ca:=fun X I k=>T7 X I g.ga g.gk g.up g.hd g.cl g.cg g.ct g.ob k
def XT(a C dx:Addr):HO:=.ext fun h=>∃ob vs,h.get? a=some ob/\ob.cls=.ref C/\ob.dict=some dx/\ob.data=.fields vs
section
variable{P:Program}{w:World}{H:Hp}{h:Heap}{a C dx:Addr}
def XT.ok(h1:h.get? a=some ob)(h2:ob.cls=.ref C)(h3:ob.dict=some dx)(h4:ob.data=.fields vs):dD P w H h a (XT a C dx) :=
 ⟨⟨ob,vs,h1,h2,h3,h4⟩,⟨ob,h1⟩,fun h1 h2 ⟨ob,vs,q1,q⟩ k=>⟨ob,vs,k _ q1,q⟩⟩
def XT.get(hk:cQ P w H h)(e:H a=some (XT a C dx)):∃ob vs,h.get? a=some ob/\ob.cls=.ref C/\ob.dict=some dx/\ob.data=.fields vs:=(hk a _ e).1
def XT.inst(hk:cQ P w H h)(e:H a=some (XT a C dx))(d:H dx=some (.xd fs)):∃(ob od:Obj)(mA:Str->Option Value),PySem.W.InstAt h a ob C (some od)/\(∀name,lookIn name od=some (mA name))/\∀f,iI (fs.lookup f) (mA f):=by
 obtain⟨ob,vs,h1,h2,h3,h4⟩:=XT.get hk e;obtain⟨mA,n,r⟩:=hk dx _ d;obtain⟨od,ho,hl⟩:=JB n;refine⟨ob,od,mA,⟨h1,h2,?_,?_⟩,hl,r⟩
 .unfold notCls;rw[h4]
 .rw[h3];exact ho
end
def MW(K:au)(ta:TE)(f:Str):TE:=fun σ H Q=>ta σ H fun x H1=>∃a C dx fs v,x=.ref a/\H1 a=some (XT a C dx)/\H1 dx=some (.xd fs)/\nY K C/\f7 K C f/\fs.lookup f=some v/\Q v H1
def MX(K:au):List V->Hp->VK->Prop:=fun xs H Q=>∃a C dx fs c b,xs=[.ref a,c]/\H a=some (XT a C dx)/\H dx=some (.xd fs)/\nY K C /\
 ((∃D,c=.ref D/\PySem.W.kitOne K (.ref C) (.ref D)=some b)\/(∃T,c=.ty T/\PySem.W.kitOne K (.ref C) (.type T)=some b)\/∃(p:Addr)(cs:List Addr),c=.ref p/\bo K H p (cs.map V.ref)/\kitAny K (.ref C) (cs.map Value.ref)=some b)/\Q (.bl b) H
section
variable{X:Cx}{e:Expr}{ta:TE}{f:Str}{pos:Pos}
def Bv(he:PE X e ta)(hb:attributeBase e f X.env (eval e X.env)=eval e X.env):PE X (.Attribute e f pos) (MW X.K ta f):=by
 intro pins s σ H Q I h;refine JG hb (aK (he pins s σ H _ I h) fun u s1 aH=>?_);obtain⟨x,H1,I1,rx,a,C,dx,fs,v,ex,ea,ed,g,n,l,q⟩:=aH;subst ex;obtain rfl:u=Value.ref a:=rx;obtain⟨ob,od,mA,J,hl,r⟩:=XT.inst I1.aE ea ed;obtain⟨u,hu,ru⟩:=iI.some_of (v:=v) (o:=mA f) (by rw[<- l];exact r f);exact T6 I1.br J g.ga g.gk g.up (findObj_own g.hd n rfl (by rw[hl,hu])) (JF ru) ⟨v,H1,I1.tok _,ru,q⟩
def yo:Z4 X (.builtin "isinstance") (MX X.K):=by
 intro pins s σ H xs us Q I r h;obtain⟨a,C,dx,fs,c,b,rfl,ea,ed,g,hc,q⟩:=h;obtain⟨u,v,rfl,ru,rv⟩:=r.two;cases ru;obtain⟨ob,od,mA,J,hl,_⟩:=XT.inst I.aE ea ed;rcases hc with⟨D,rfl,hc⟩|⟨T,rfl,hc⟩|⟨p,cs,rfl,ht,hc⟩
 .cases rv;exact Y5 (FC g) I.br J hc (fun z=>nomatch z) fun tk=>⟨.bl b,H,I.tok tk,rfl,q⟩
 .cases rv;exact Y5 (FC g) I.br J hc (fun z=>nomatch z) fun tk=>⟨.bl b,H,I.tok tk,rfl,q⟩
 .cases rv;obtain⟨its,r',pl,_⟩:=I.tuple ht;have e:=ET r';subst e;have hp:∃dd n sl,s.heap.get? p=some ⟨.type "tuple",dd,.seq (cs.map Value.ref).toArray n,sl⟩:=by
   obtain⟨⟨oc,Sr,da,sl⟩,ho,hc,n,hd⟩:=(show IsTup s.heap p (cs.map Value.ref).toArray from by first|exact pl|exact pl.isTup|(obtain⟨o,n,e,c,_,d,_⟩:=pl;exact⟨o,e,c,n,d⟩));cases hc;cases hd;exact⟨_,n,_,ho⟩
  obtain⟨dd,n,sl,hp⟩:=hp;exact kia_tup (FC g) I.br J hp hc (fun z=>nomatch z) fun tk=>⟨.bl b,H,I.tok tk,rfl,q⟩
end
def oX(C dx:Addr):AO:=.cZ fun K H a=>H a=some (XT a C dx)
def iM(fs:List (Str×U)):AO:=.cZ fun K H a=>∃gs,H a=some (.xd gs)/\cb K H fs gs
section
variable{K:au}
def T_(h:H a=some (XT a C dx)):RO K H a (oX C dx):=⟨⟨_,h⟩,h,fun H1 H2 h1 _ e=>e.trans h1⟩
def Ua(h:H a=some (.xd gs))(r:cb K H fs gs):RO K H a (iM fs):=⟨⟨_,h⟩,⟨gs,h,r⟩,fun H1 H2 ⟨gs,h1,r1⟩ k e=>⟨gs,e.trans h1,r1.same k⟩⟩
def MY(K:au)(ae:AE)(f:Str):AE:=fun ρ A Q=>ae ρ A fun x A1=>∃a C dx fs u,x=.ref a/\A1 a=some (oX C dx)/\A1 dx=some (iM fs)/\nY K C/\f7 K C f/\fs.lookup f=some u/\Q u A1
def ZcQ(he:aV K te ae):aV K (MW K te f) (MY K ae f):=fun ρ A σ H Q' Q hs g w k =>
 he ρ A σ H _ _ hs g w fun x A1 v H1 k1 g1 r1 aD=>by
  obtain⟨a,C,dx,fs,u,e,h1,h2,h3,h4,h5,q⟩:=aD
  subst e
  cases r1
  obtain⟨_,q1,_⟩:=g1 a _ h1
  obtain⟨_,⟨gs,q2,rf⟩,_⟩:=g1 dx _ h2
  obtain⟨v,hv,rv⟩:=rf.look h5
  exact⟨a,C,dx,gs,v,rfl,q1,q2,h3,h4,hv,k _ _ _ _ k1 g1 rv q⟩
def Ub(K:au):List U->aw->bc->Prop:=fun us A Q=>∃a C dx fs c b,us=[.ref a,c]/\A a=some (oX C dx)/\A dx=some (iM fs)/\nY K C /\
 ((∃D,c=.ref D/\PySem.W.kitOne K (.ref C) (.ref D)=some b)\/(∃T,c=.ty T/\PySem.W.kitOne K (.ref C) (.type T)=some b)\/∃cs:List Addr,c=.tup (cs.map U.ref)/\kitAny K (.ref C) (cs.map Value.ref)=some b)/\Q (.bl b) A
def Zdf : hG K (MX K) (Ub K):=fun xs us A H Q' Q r g h k=>by
 obtain⟨a,C,dx,fs,c,b,rfl,h1,h2,h3,hc,q⟩:=h
 cases r with
 | cons r1 r=>cases r with
  | @cons _ v _ _ r2 r =>
   cases r;cases r1
   obtain⟨_,q1,_⟩:=g a _ h1
   obtain⟨_,⟨gs,q2,rf⟩,_⟩:=g dx _ h2
   refine⟨a,C,dx,gs,v,b,rfl,q1,q2,h3,?_,k _ _ _ _ (.refl H) g (.bl b) q⟩
   rcases hc with⟨D,rfl,hc⟩|⟨T,rfl,hc⟩|⟨cs,rfl,hc⟩
   .cases r2;exact .inl ⟨D,rfl,hc⟩
   .cases r2;exact .inr (.inl ⟨T,rfl,hc⟩)
   .cases r2 with
    | tup ht hs =>
     have:=hs.refs
     subst this
     exact .inr (.inr ⟨_,cs,rfl,ht,hc⟩)
end
section
variable{X:Cx}{pins:List (Addr×Obj)}{σ:St}{H:Hp}{s:Shared}{a C dx:Addr}
def Inv.ia(I:Inv X pins σ H s)(hn:H a=none)(nw:vA X pins a)(ho:s.heap.get? a=some ob)(h2:ob.cls=.ref C)(h3:ob.dict=some dx)(hd:ob.data=.fields vs):Inv X pins σ (upd H a (XT a C dx)) s:=by
 have ne:∀b o,H b=some o->b≠a:=fun b o h e=>by rw[e,hn]at h;cases h
 have kp:∀b o,H b=some o->upd H a (XT a C dx) b=some o:=fun b o h=>by rw[Zn (ne b o h)];exact h
 have u:=I.base;have nL:X.env.locals≠a:=fun e=>by
  obtain⟨m,⟨o',es,ep,gO,rr⟩,_⟩:=I.loc;rw[e,ho]at gO;cases gO;rw[rr.1]at hd;cases hd
 have nC:∀x c,X.env.cells.lookup x=some c->c≠a:=fun x c hc e=>by
  obtain⟨v,o',gO,hv⟩:=I.cell x c hc;rw[e,ho]at gO;cases gO;rw[hv]at hd;cases hd
 refine⟨I.ok,I.os,I.bare,⟨u.keep,u.slot,fun b o x y z=>?_,u.there,fun b xs z=>kp b _ (u.bM b xs z),fun b o v z=>kp b _ (u.cy b o v z),fun b ps z=>?_⟩,I.loc,I.cell,by rw[Zn nL];exact I.free,fun x c z=>by rw[Zn (nC x c z)];exact I.bz x c z,fun p hp=>?_,fun c v hc=>?_,I.len⟩
 .rw[Zn fun e=>absurd (Ym x) (by rw[e];exact Nat.not_lt.mpr nw.1)];exact u.free b o x y z
 .obtain⟨m,y⟩:=u.dI b ps z;exact⟨m,kp b _ y⟩
 .obtain⟨p1,p2,p3⟩:=I.pin p hp;exact⟨p1,by rw[Zn (nw.2 p hp)];exact p2,p3⟩
 .by_cases e:c=a
  .subst e;rw[Zs]at hc;cases hc;exact XT.ok ho h2 h3 hd
  .rw[Zn e]at hc;exact(I.aE c v hc).dh (fun _ _ _ z=>z) (fun b z=>kp b _ z) fun b xs z=>kp b _ z
def Bw(I:Inv X pins σ H s)(hN:X.N.Nodup)(hi:X.N[i]? = some x)(hk:X.env.kindOf x=some .local)(h:∀s',Inv X pins (σ.set i none) H s'->Q () s'):wpAny M A (do bindName X.env x .none;unbindBehindTheSuite X.env x pos) Q E s:=by
 obtain⟨m,hn,hl⟩:=id I.loc;have rK:(X.env.scope.kind==.class||(X.env.scope.kind==.module&&X.env.locals != X.env.globals))=false:=by rw[I.ok.kind];rfl
 have oz:i<σ.length:=by rw[I.len];exact(Yg.mp hi).1
 have lK:=I.lK;refine wpAny_nameGoes_keeps hk hn rK fun h' v uQ hs=>?_;obtain⟨oL,_,_,nh,_⟩:=id hn;refine h _ ⟨I.ok,I.os,I.bare,⟨fun b o e n hb hx=>(hs.2 b (Yo (YJ (Ym e) I.ok.above))).trans (I.base.keep b o e n hb hx),fun b o e n hb hx=>?_,I.base.free,fun b o e hx=>?_,I.base.bM,I.base.cy,I.base.dI⟩,⟨_,uQ,fun j y v' e1 e2 e3=>?_⟩,fun y c e=>?_,I.free,I.bz,fun p hp=>?_,fun b ob e=>?_,by simpa using I.len⟩
 .obtain⟨sl,e1⟩:=I.base.slot b o e n hb hx;exact⟨sl,(hs.2 b (Yo (YJ (Ym e) I.ok.above))).trans e1⟩
 .obtain⟨o',e1⟩:=I.base.there b o e hx;exact⟨o',(hs.2 b (Yo (YJ (Ym e) I.ok.above))).trans e1⟩
 .by_cases hj:j=i
  .subst hj;rw[Cm oz]at e2;cases e2
  .rw[Cp (Ne.symm hj)]at e2;obtain⟨u',r',q⟩:=hl j y v' e1 e2 e3;refine⟨u',r',?_⟩;rcases q with⟨k,e⟩|⟨k,c,e,z⟩
   .refine .inl ⟨k,?_⟩;have:y≠x:=fun e=>hj (Z7 hN e1 (e▸hi));simp[this,e]
   .exact .inr ⟨k,c,e,z.sameBut hs (lK y c e)⟩
 .obtain⟨w',z⟩:=I.cell y c e;exact⟨w',z.sameBut hs (lK y c e)⟩
 .obtain⟨e,n,ne,nf,d⟩:=I.pin p hp;exact⟨(hs.2 p.1 ne).trans e,n,ne,nf,d⟩
 .refine(I.aE b ob e).dh (fun c w' hc q=>(hs.2 c ?_).trans q) (fun _ q=>q) fun _ _ q=>q;rintro rfl;rcases hc with rfl|hc
  .rw[I.free]at e;cases e
  .rw[I.free]at hc;cases hc
end
def kR.bS(D:kR)(j:Nat):kR:={ nx:=fun σ H=>D.nx (σ.set j none) H,rt:=D.rt,bk:=fun σ H=>D.bk (σ.set j none) H,ct:=fun σ H=>D.ct (σ.set j none) H }
section
variable{X:Cx}{pins:List (Addr×Obj)}{σ:St}{H:Hp}{s:Shared}{a D:Addr}{i j:Nat}{x y n:Str}{e:Expr}{es:List Expr}{px p1 pe hp pos:Pos}{b0:Stmt}{su:List Stmt}{tx:TX}{th:TS}{t:TA}
def SP.bS(hN:X.N.Nodup)(hj:X.N[j]? = some n)(hk:X.env.kindOf n=some .local)(h:SP X pins (Dn.bS j) fl s'):
  wpAny M A (do bindName X.env n .none;unbindBehindTheSuite X.env n hp) (fun _ s5=>SP X pins Dn fl s5) E s':=by
 cases fl with
 | next=>obtain⟨aS,H',I,q⟩:=h;exact Bw I hN hj hk fun s5 I5=>⟨_,H',I5,q⟩
 | brk=>obtain⟨aS,H',I,q⟩:=h;exact Bw I hN hj hk fun s5 I5=>⟨_,H',I5,q⟩
 | cont=>obtain⟨aS,H',I,q⟩:=h;exact Bw I hN hj hk fun s5 I5=>⟨_,H',I5,q⟩
 | ret u=>obtain⟨v,aS,H',I,r,q⟩:=h;exact Bw I hN hj hk fun s5 I5=>⟨v,_,H',I5,r,q⟩
end
def jy.bS(D:jy)(j:Nat):jy:={ nx:=fun ρ A=>D.nx (ρ.set j none) A,rt:=D.rt,bk:=fun ρ A=>D.bk (ρ.set j none) A,ct:=fun ρ A=>D.ct (ρ.set j none) A }
section
variable{K:au}
theorem aU.unset:∀ {ρ:aQ} {σ:St} (i:Nat),aU K H ρ σ->aU K H (ρ.set i none) (σ.set i none)
 | _,_,_,.nil=>.nil
 | _,_,0,.skip r=>.skip r
 | _,_,i+1,.skip r=>.skip (aU.unset i r)
 | _,_,0,.cons h r=>.skip r
 | _,_,i+1,.cons h r=>.cons h (aU.unset i r)
def oV.bS(h:oV K H D' D)(j:Nat):oV K H (D'.bS j) (D.bS j) :=
 ⟨fun _ _ _ _ k g r q=>h.nx _ _ _ _ k g (aU.unset j r) q,h.rt,fun _ _ _ _ k g r q=>h.bk _ _ _ _ k g (aU.unset j r) q,fun _ _ _ _ k g r q=>h.ct _ _ _ _ k g (aU.unset j r) q⟩
def HR.newX(g:HR K H A)(hd:H dx=some (.xd gs))(r:cb K H fs gs)(ha:H a=Option.none):HR K (upd H a (XT a C dx)) (af (af A dx (iM fs)) a (oX C dx)):=by
 have g1:HR K H (af A dx (iM fs)):=fun b o e=>by
  by_cases h:b=dx
  .subst h;rw[Zb]at e;cases e;exact Ua hd r
  .rw[Zi h]at e;exact g b o e
 exact g1.dO (a_.az ha).kp (T_ Zs)
def Zqg{D:jy}:D.bS j={ nx:=fun ρ A=>D.nx (ρ.set j none) A,rt:=D.rt,bk:=fun ρ A=>D.bk (ρ.set j none) A,ct:=fun ρ A=>D.ct (ρ.set j none) A }:=rfl
def ZqS:MY K ae f ρ A Q=ae ρ A fun x A1=>∃a C dx fs u,x=.ref a/\A1 a=some (oX C dx)/\A1 dx=some (iM fs)/\nY K C/\f7 K C f/\fs.lookup f=some u/\Q u A1:=rfl
end
abbrev pf:=kR->St->Hp->XK->Prop
def FD(X:Cx)(sS:List Stmt)(t:pf):Prop :=
 ∀(pins:List (Addr×Obj))(s:Shared)(σ:St)(H:Hp)(D:kR)(E:XK),Inv X pins σ H s->t D σ H E->wpAny (model X.prog X.w) X.A (execs sS X.env) (SP X pins D) (XE X pins σ E) s
def MZ(tx:TX):pf:=fun D σ H E=>tx σ H (fun _ H'=>D.nx σ H') E
def M0(K:au)(D:Addr)(j:Nat)(tb:pf)(th:TS):TS:=fun Dn σ H=>tb Dn σ H fun c sT H'=>∃C dx,c=.ref C/\sT=some dx/\i6 K C D true /\
 ∀a,H' a=none->th (Dn.bS j) (σ.set j (some (.ref a))) (upd H' a (XT a C dx))
section
variable{X:Cx}{k:Nat}{f C D:Addr}{i j:Nat}{fd:FuncData}{ps:List Str}{sp:Sp}{m x y n:Str}{p1 pe px hp pos apos:Pos}{e o e1:Expr}{es:List Expr}{ta:TE}{t:TA}{tx:TX}{tb Uc:pf}{th:TS}{b0:Stmt}{sS su b1 b2:List Stmt}
def M1(he:MI X e tx)(hs:swapsWith e none pos.line X.env=pure false:=by rfl):FD X [.Expr e pos] (MZ tx):=by
 intro pins s σ H D E I h;exact Cw (wpAny_Expr_any (aK (he pins s σ H _ E I h) fun v s1 ⟨x,H1,I1,r1,q1⟩=>rz ⟨σ,H1,I1,q1⟩) I.quiet hs)
def Ud(B:nV X)(hN:X.N.Nodup)(hj:X.N[j]? = some n)(hk:X.env.kindOf n=some .local)(hb:FD X sS tb)(hg:Gl X x)(hm:X.mg x=some (.ref D))(FE:∀a,d0 (X.jF a) (b0::su) th)(cK:(x==("__debug__":Str))=false:=by decide):
  PS X (.Try sS [.ExceptHandler (some (.Name x px)) (some n) (b0::su) hp] [] [] pos) (M0 X.K D j tb th):=by
 intro pins s σ H Dn I h;refine wpAny_Try_except (YH (hb pins s σ H _ _ I h) (fun fl s1 q1=>?_) fun ev s1 hx=>?_)
 .cases fl with
  | next=>exact rz q1
  | brk=>exact q1
  | cont=>exact q1
  | ret u=>exact q1
 .obtain⟨H1,s0,I0,a,H',rfl,gW,FF,u,aE,f⟩:=hx;have I1:=I0.jm (ch:=[]) gW u aE FF fun b hb=>absurd hb (by simp);have f1:lj X pins σ _ False (yi X) a s1:=⟨H',I1,f.weak (fun b hb=>I0.my hb) (fun z=>z) fun v hv=>.inl hv⟩;refine Bp B f1 fun s2 f2=>vC B f2 fun s3 f3=>?_;have M3:=f3;obtain⟨H3,I3,C,dx,ob,vs,g1,g2,g3,g4,g5,g6,st,C',M4,ec,ed,kQ,q⟩:=f3;cases ec;cases ed;refine Mx (C:=C) (lM (X:=X.jF a) I3.jF hg hm ⟨rfl,⟨ob,g3,g4⟩,kQ.at I3.br,vC B M3 fun s4 f4=>?_⟩ cK);obtain⟨H4,I4,C4,Ue,Ug,Uh,n4,yp,o4,c4,d4,w4,_,Ui,FG,FH,FI,_,q⟩:=f4;cases FH;cases FI;have I5:=I4.ia yp n4 o4 c4 d4 w4;exact zT (v:=.ref a) I5 hN hj (.inl hk) rfl (fun s5 I6=>YH (FE a pins s5 _ _ (Dn.bS j) I6.jF (q a yp)) (fun f s' z=>(z.eD I.ok).bS hN hj hk) fun _ _ z=>False.elim z) (.inr hk)
end
abbrev vF:=jy->aQ->aw->ko->Prop
def FJ(K:au)(tb:pf)(ab:vF):Prop:=∀ρ A σ H D' X' D E,aU K H ρ σ->HR K H A->ab D' ρ A X'->oV K H D' D->mB K H X' E->tb D σ H E
def M5(ax:AX):vF:=fun D ρ A X'=>ax ρ A (fun _ A'=>D.nx ρ A') X'
def M6(K:au)(D:Addr)(j:Nat)(ab:vF)(ah:AS):AS:=fun Dn ρ A=>ab Dn ρ A fun C fs A'=>i6 K C D true /\
 ∀a dx,A' a=none->A' dx=none->a≠dx->ah (Dn.bS j) (ρ.set j (some (.ref a))) (af (af A' dx (iM fs)) a (oX C dx))
section
variable{K:au}{C D:Addr}{m:Str}{bg:pd}{i j:Nat}{ta:TE}{aa:AE}{t:TA}{l:AA}{tx:TX}{ax:AX}{tb Uc:pf}{ab ab':vF}{th:TS}{ah:AS}{tc:TT}{ac:AT}
def ZcK(hx:MJ K tx ax):FJ K (MZ tx) (M5 ax):=fun ρ A σ H D' X' D E hs g w k kx =>
 hx ρ A σ H _ _ _ _ hs g w (fun u A' v H' k' g' r' q=>k.nx _ _ _ _ k' g' (hs.same k') q) kx
def ZhN(hx:FJ K tb ab)(hh:df K th ah):df K (M0 K D j tb th) (M6 K D j ab ah):=fun ρ A σ H D' Dn hs g w k =>
 hx ρ A σ H _ _ _ _ hs g w k fun C dx fs gs A' H' k' g' n' d' rf ⟨c,q⟩=>⟨C,dx,rfl,rfl,c,fun a ha=>by
  have aT:a≠dx:=fun e=>by rw[e,d']at ha;cases ha
  have sm:=a_.az (o:=XT a C dx) ha
  have k2:=k'.trans (sm.kp (K:=K))
  exact hh _ _ _ _ _ _ (aU.set (.ref a) j (hs.same k2)) (g'.newX d' rf ha) (q a dx (g'.none ha) n' aT) ((k.same k2).bS j)⟩
variable{Dn:jy}{ρ:aQ}{A:aw}{X':ko}{Q:bc}
def ZuN:M5 ax Dn ρ A X'=ax ρ A (fun _ A'=>Dn.nx ρ A') X':=rfl
def Zsk:M6 K D j ab ah Dn ρ A=(ab Dn ρ A fun C fs A'=>i6 K C D true /\
 ∀a dx,A' a=none->A' dx=none->a≠dx->ah (Dn.bS j) (ρ.set j (some (.ref a))) (af (af A' dx (iM fs)) a (oX C dx))):=rfl
end
def ph:V->Prop:=fun v=>∃z:Str,v=.str z/\z.length<=1000
def Uj:U->Prop:=fun u=>∃z:Str,u=.str z/\z.length<=1000
def ZvB{K:au}(u:U)(v:V)(H:Hp)(r:RU K H u v)(h:Uj u):ph v:=by
 obtain⟨n,rfl,h⟩:=h;cases r;exact⟨n,rfl,h⟩
theorem Uk(h1:t1.length<=4000)(y v:V)(H:Hp)(Q:VK)(hv:ph v)(q:∀z,Q (.str z) H):EM (vo (tC (.str t1)) (vo (EL (lL 1)) EK)) [some y,some v] H Q:=by
 obtain⟨z,rfl,hz⟩:=hv;have L:∀ {z:Str},z.length<=13000->z.length<=sizeLine:=fun h=>YB h (by rw[Y2];decide);have e0:Str.empty.length=0:=rfl;refine⟨_,rfl,L (by rw[Str.length_append];lia),_,rfl,z,rfl,L (by lia),_,rfl,L (by rw[Str.length_append,Str.length_append];lia),L (by rw[Str.length_append,Str.length_append];lia),q _⟩
theorem M7(h1:t1.length<=4000)(h2:t2.length<=4000)(y v:V)(H:Hp)(Q:VK)(hv:ph v)(q:∀z,Q (.str z) H):EM (vo (tC (.str t1)) (vo (EL (lL 1)) (vo (tC (.str t2)) EK))) [some y,some v] H Q:=by
 obtain⟨z,rfl,hz⟩:=hv;have L:∀ {z:Str},z.length<=13000->z.length<=sizeLine:=fun h=>YB h (by rw[Y2];decide);have e0:Str.empty.length=0:=rfl;refine⟨_,rfl,L (by rw[Str.length_append];lia),_,rfl,z,rfl,L (by lia),_,rfl,L (by rw[Str.length_append,Str.length_append];lia),_,rfl,L (by rw[Str.length_append,Str.length_append,Str.length_append];lia),L (by rw[Str.length_append,Str.length_append,Str.length_append];lia),q _⟩
section
variable{P:Program}{w:World}{K:au}{mg:Str->Option Value}{base:Heap}
def FK{st:Stmt}(X:qF K C g)(n:f7 K C fl)(hp:ps.length=2)(hN:N=ps)(hf:∀ (y v:V) (H:Hp) (Q:VK),okV v->(∀ z,Q (.str z) H)->tf [some y,some v] H Q)(h : ∀ bf A outer s H E,bW 0 (A.deeper (envOfC qual sc s.heap.objs.size f bf))->d0 (ff aP P w K mg base N qual sc f bf A outer s H E).nj (kW st)
   (zW (zX (Fu K (cR (lL 0) (cR tf f9)))) (Fv K (lL 0) (lL 1) fl)))(Fn:iW K x qual st f fd)(hs:ZI st=sc)(S:gU N ps (ZI st)):
  cz P w K mg base aP 1 f fd ps (ym C fl okV):=by
 have FL:∀a b:V,L2.start N [a,b]=[some a,some b]:=fun a b=>by
  unfold L2.start;rw[hN,hp];rfl
 refine Fn.DJ hs rfl S (fun vs H Q E aD=>by obtain⟨x,v,e,_⟩:=aD;rw[e,hp];rfl) fun _ bf A outer s H vs Q E hr ⟨y,v,e,hv,hx,q⟩=>⟨_,h bf A outer s H E hr,?_⟩;subst e;rw[FL];exact⟨_,rfl,hf (.ref y) v H _ hv fun z=>⟨y,C,g,_,rfl,hx,X,⟨_,rfl,_,rfl,y,C,g,rfl,hx,X,n,fun dx hd aT=>q dx hd aT⟩⟩⟩
end
def Ul(t:SetTable)(es:Array (Int×Value))(h:Int)(x:Value):(layNew t es h x).2.1.led=t.led:=by
 unfold layNew;split
 .dsimp only;unfold SetTable.orStandIn;split
  .rfl
  .rfl
 .rfl
def Um(t:SetTable)(es:Array (Int×Value))(n:Nat):(relayAll t es n).2.1.led=t.led/\(t.plain=false->(relayAll t es n).2.1.plain=false):=by
 unfold relayAll;split
 .rename_i t' order e;dsimp only;split
  .unfold SetTable.relaid SetTable.laid at e;obtain⟨ow,_,e⟩:=Option.bind_eq_some_iff.mp e;cases e;exact⟨rfl,id⟩
  .exact⟨rfl,fun _=>rfl⟩
 .exact⟨rfl,fun _=>rfl⟩
def cN(P:Program)(w:World)(h:Heap)(a:Addr)(ks:List Str):Prop :=
 ∃o es ep t,h.get? a=some o/\o.ExactSet/\o.data=.set es ep t/\ElemsOf (strKind P w) es.toList/\(∃l:List (Str×Tok),es.toList.map (·.2)=strValues l/\(l.map (·.1)).Perm ks)/\es.size<scanBound/\t.fits es.size=true /\
  (w.params.followText "set-order"=true\/t.led=true)/\(es.size=0\/t.plain=false)
variable{P:Program}{w:World}{A:Around}{E:Value->Shared->Prop}{s:Shared}{a:Addr}{ks:List Str}{h:Heap}
def M8:Value.isStrOf z (.str x tk)=decide (x=z):=by
 show(x==z)=_;by_cases e:x=z<;>simp[e]
def cN.typeIs(hS:cN P w s.heap a ks):s.TypeIs (.ref a) "set":=let⟨o,_,_,_,e,x,_⟩:=hS;⟨o,e,x.1⟩
def FN{es:List (Int×Value)}(h:es.map (·.2)=strValues l)(z:Str):(∃e∈es,Value.isStrOf z e.2=true)↔z∈l.map (·.1):=by
 constructor
 .rintro⟨e,he,hz⟩;have h1:e.2∈strValues l:=h▸List.mem_map_of_mem he;obtain⟨p,hp,e2⟩:=YL.mp h1;rw[<- e2,M8,wz]at hz;exact YL.mpr ⟨p,hp,hz⟩
 .intro hz;obtain⟨p,hp,rfl⟩:=YL.mp hz;have h1:Value.str p.1 p.2∈es.map (·.2):=h▸YL.mpr ⟨p,hp,rfl⟩;obtain⟨e,he,e2⟩:=YL.mp h1;exact⟨e,he,by rw[e2,M8];exact YC rfl⟩
def FO{es es':List (Int×Value)}(h:es.map (·.2)=strValues l)(p:es'.Perm es):∃l',es'.map (·.2)=strValues l'/\l'.Perm l:=by
 induction p generalizing l with
 | nil=>cases l with
  | nil=>exact⟨[],rfl,.nil⟩
  | cons=>cases h
 | @cons x l1 l2 p ih=>cases l with
  | nil=>cases h
  | cons y l =>
   injection h with h1 h2
   obtain⟨l',e,q⟩:=ih h2;exact⟨y::l',by rw[Yr,e,show x.2=Value.str y.1 y.2 from h1];rfl,q.cons y⟩
 | @swap x y l1=>cases l with
  | nil=>cases h
  | cons u l=>cases l with
   | nil=>injection h with h1 h2;cases h2
   | cons v l =>
    injection h with h1 h2
    injection h2 with h2 h3
    exact⟨v::u::l,by rw[Yr,Yr,show x.2=Value.str u.1 u.2 from h1,show y.2=Value.str v.1 v.2 from h2,h3];rfl,.swap ..⟩
 | trans p q pj pq =>
  obtain⟨l1,e1,q1⟩:=pq h;obtain⟨l2,e2,q2⟩:=pj e1;exact⟨l2,e2,q2.trans q1⟩
def M9(ho:h.get? a=some o)(hd:o.data=.set es ep t):
  (h.update a (Obj.putSet es' t')).get? a=some { o with data:=.set es' (ep+1) t' }:=by
 rw[<- putSet_of es' t' hd];exact YE _ ho (by rw[putSet_of es' t' hd];rfl)
def M_{g:Bool->Sem Unit}(hg:∀b s1 Q1,Q1 () s1->wpAny (model P w) A (g b) Q1 E s1)(ho:s.heap.get? a=some o)(hx:o.ExactSet)(hd:o.data=.set es ep t)(he:ElemsOf (strKind P w) dH.toList)(hl:dH.toList.map (·.2)=strValues l)(hp:(l.map (·.1)).Perm gL)(hb:dH.size<scanBound)(hf:t2.fits dH.size=true)(h1:w.params.followText "set-order"=true\/t2.led=true)(h2:t2.plain=false)(k:∀h',Heap.SameBut a s.heap h'->cN P w h' a gL->R (some true) { s with heap:=h' }):
  wpAny (model P w) A (do
   storeSet a dH t2
   if(!dm&&t2.tooFull)=true then do
     g (relayAll t2 dH (SetTable.grown dH.size)).2.2
     storeSet a (relayAll t2 dH (SetTable.grown dH.size)).1 (relayAll t2 dH (SetTable.grown dH.size)).2.1
     pure (some true)
    else pure (some true)) R E s:=by
 refine Yb (wpAny_storeSet_of ho hd ?_ (fits_of_scanBound hb));have g1:=M9 (es':=dH) (t':=t2) ho hd;have sb:=lE s.heap a (Obj.putSet dH t2);split
 .have pr:=relayAll_perm t2 dH (SetTable.grown dH.size);have fr:=relayAll_fits t2 dH (SetTable.grown dH.size);obtain⟨le,pl⟩:=Um t2 dH (SetTable.grown dH.size);generalize relayAll t2 dH (SetTable.grown dH.size)=Z at pr fr le pl ⊢;obtain⟨M',t3,gv⟩:=Z;dsimp only at pr fr le pl ⊢;have sz:M'.size=dH.size:=by rw[<- Array.length_toList,pr.length_eq,Array.length_toList]
  obtain⟨l2,e2,p2⟩:=FO hl pr;refine Yb (hg _ _ _ (Yb (wpAny_storeSet_of g1 rfl (Ye (k _ (sb.trans (lE _ a _)) ?_)) (fits_of_scanBound (sz▸hb)))));exact⟨_,M',_,t3,M9 g1 rfl,hx,rfl,he.perm pr,⟨l2,e2,(p2.map _).trans hp⟩,sz▸hb,fr,by rw[le];exact h1,.inr (pl h2)⟩
 .exact Ye (k _ sb ⟨_,dH,_,t2,g1,hx,rfl,he,⟨l,hl,hp⟩,hb,hf,h1,.inr h2⟩)
def fQ(ks:List Str)(z:Str):List Str:=if z∈ks then ks else ks++[z]
def Na(hS:cN P w s.heap a ks)(hr:ks.length+1<scanBound)(k:∀h' b,Heap.SameBut a s.heap h'->cN P w h' a (fQ ks z)->Q b { s with heap:=h' }):
  wpAny (model P w) A (setAddHashed a (.str z tk) ((strKind P w).hash z)) Q E s:=by
 obtain⟨o,es,ep,t,ho,hx,hd,he,⟨l,hl,hp⟩,hb,hf,h1,h2⟩:=hS;have oH:(strKind P w).is z (.str z tk)=true:=strKind_is P w z tk;have hsz:es.size=ks.length:=by
  have:=congrArg List.length hl;rw[Yc,Array.length_toList]at this;rw[this,strValues,Yc,<- Yc (f:=(·.1)),hp.length_eq]
 unfold setAddHashed setAddHashedIn;refine YU (Yb (wpAny_setState_of ho hd hf ?_));dsimp only;rw[byScan_of (knd:=strKind P w) (x:=.str z tk) rfl hb he];simp only[↓reduceIte];unfold setAddByScan;refine Yb (Yb (qf (Yb (wpAny_setScan_of oH ho hd hf he ?_))));cases hq:List.findIdx? (fun e=>(strKind P w).is z e.2) es.toList with
 | some j =>
  dsimp only;obtain⟨hj,Uo,_⟩:=List.findIdx?_eq_some_iff_getElem.mp hq;have hz:z∈ks:=hp.mem_iff.mp ((FN hl z).mp ⟨_,rq hj,Uo⟩);refine Ye (Ye ?_);have:=k s.heap false (Heap.SameBut.refl a s.heap) (by unfold fQ;rw[if_pos hz];exact⟨o,es,ep,t,ho,hx,hd,he,⟨l,hl,hp⟩,hb,hf,h1,h2⟩);exact this
 | none =>
  dsimp only;have hz:z∉ks:=fun m=>by
   obtain⟨e,me,hh⟩:=(FN hl z).mpr (hp.mem_iff.mpr m);have:=List.findIdx?_eq_none_iff.mp hq e me;rw[show(strKind P w).is z e.2=true from hh]at this;cases this
  have pm:=layNew_perm t es ((strKind P w).hash z) (.str z tk);have ft:=layNew_fits t es ((strKind P w).hash z) (.str z tk);have ld:=Ul t es ((strKind P w).hash z) (.str z tk);generalize layNew t es ((strKind P w).hash z) (.str z tk)=L at pm ft ld ⊢;obtain⟨dH,t1,dm,gv⟩:=L;dsimp only at pm ft ld ⊢;rw[Array.toList_push]at pm;have km:dH.size=es.size+1:=by rw[<- Array.length_toList,pm.length_eq,Yq,Array.length_toList];rfl
  have cx:(es.toList++[((strKind P w).hash z,Value.str z tk)]).map (·.2)=strValues (l++[(z,tk)]):=by rw[Yt,hl];simp[strValues]
  obtain⟨l1,e1,q1⟩:=FO cx pm;have q2:(l1.map (·.1)).Perm (fQ ks z):=by
   refine(q1.map _).trans ?_;unfold fQ;rw[if_neg hz,Yt];exact hp.append_right _
  have Nb:dH.size<scanBound:=by rw[km,hsz];exact hr
  have qC:ElemsOf (strKind P w) dH.toList:=(he.push oH rfl).perm pm;have gw:∀(b:Bool)(s1:Shared)(Q1:Unit->Shared->Prop),Q1 () s1->wpAny (model P w) A (match b with|true=>rule "set.scan.the-table-gave-way" | false=>pure ()) Q1 E s1:=fun b s1 Q1 q=>by
   cases b
   .exact Ye q
   .exact qf q
  refine Yb (gw _ _ _ ?_);split
  .refine Yb ?_;rw[hashByValue_scannable 8 rfl];refine Ye ?_;refine M_ (P:=P) (w:=w) (fun b s1 Q1 q=>gw b s1 Q1 q) ho hx hd qC e1 q2 Nb (SetTable.fits_plain_off ft) (by rcases h1 with h1|h1;exact .inl h1;exact .inr (ld.trans h1)) rfl fun h' sb i7=>?_;exact Ye (k h' true sb i7)
  .rename_i bA;refine Yb (Ye ?_);simp only[↓reduceIte];refine M_ (P:=P) (w:=w) (fun b s1 Q1 q=>gw b s1 Q1 q) ho hx hd qC e1 q2 Nb ft (by rcases h1 with h1|h1;exact .inl h1;exact .inr (ld.trans h1)) (by simpa using bA) fun h' sb i7=>?_;exact Ye (k h' true sb i7)
def Up(hS:cN P w s.heap a ks)(hr:ks.length+1<scanBound)(k:∀h',Heap.SameBut a s.heap h'->cN P w h' a (fQ ks z)->Q .none { s with heap:=h',toks:=s.toks+1 }):
  wpAny (model P w) A (call (.builtin "set.add") [.ref a,.str z tk]) Q E s:=by
 refine Y1 F.slot_set_add hS.typeIs F.entry_set_add ?_ (F.args_set_add_2 _ _);unfold Builtin.«set.add» Builtin.Frozenset.oneOther;simp only[List.isEmpty_nil,bind_assoc];unfold Builtin.Frozenset.addrOf setAdd;refine Yb (Ye (Yb (Ye (Yb (YU (Yb ((strKind P w).pyHash (strKind_is P w z tk) ?_)))))));exact Na (s:={ s with toks:=s.toks+1 }) hS hr fun h' b sb i7=>Ye ⟨_,rfl,k h' sb i7⟩
abbrev i8(w:World):Obj:={ cls:=.type "set",dict:=none,data:=.set #[] 0 (.fresh 0 0 (!w.params.followText "set-order")) }
variable{P:Program}{w:World}{A:Around}{E:Value->Shared->Prop}{s:Shared}{a:Addr}{ks:List Str}{h:Heap}
def Nc(e:h.get? a=some (i8 w)):cN P w h a []:=by
 refine⟨_,#[],0,_,e,⟨rfl,rfl,rfl⟩,rfl,fun x hx=>absurd hx (by simp),⟨[],rfl,.nil⟩,by decide,?_,?_,.inl rfl⟩
 .cases w.params.followText "set-order" <;> rfl
 .cases e:w.params.followText "set-order"
  .exact .inr rfl
  .exact .inl rfl
def Nd(hc:checkBuiltinCall "set.__new__" ⟨.type "set"::r,[]⟩=pure ())(k:Q1 (.ref s.heap.objs.size) { s with heap:=s.heap.push (i8 w) }):
  codeAny (model P w) A (.call (.builtin "set.__new__") ⟨.type "set"::r,[]⟩) (wants Q1 E) s:=by
 refine codeAny_of_tree ?_;show wpAny _ A.in1 (do
             checkBuiltinCall "set.__new__" ⟨.type "set"::r,[]⟩;again (.builtin "set.__new__" ⟨.type "set"::r,[]⟩)) _ _ s
 refine Yb (wF hc (Ye ⟨oq F.plain_set_new _,nc F.entry_set_new ?_⟩));rw[qa F.plain_set_new _];unfold Builtin.«set.__new__» Builtin.Frozenset.newClass;have sb:=sub_set_self;obtain⟨hp,g,d,tk,os⟩:=s;dsimp only;wp_walk;refine wpAny_askSetting (Ye ?_);dsimp only;simp only[newObj];exact Yb (wpAny_alloc (Ye (Ye k)))
def Uq(k:Q (.ref s.heap.objs.size) { s with heap:=s.heap.push (i8 w) }):wpAny (model P w) A (call (.type "set") []) Q E s:=by
 obtain⟨c,tl,FP⟩:=F.called_set.mro;have q1:=F.called_set.made;have q2:=F.called_set.sub;refine kO (codeAny_of_tree ?_);show wpAny _ _ (callAny (.type "set") ⟨[],[]⟩) _ _ _;refine Ye ⟨Code.quiet_builtin _ (by decide +kernel),nc F.entry_type_call ?_⟩;rw[Around.under_plain (weight_type_call_type "set" [] []) rfl];have q3:=F.called_set.notType;have q4:=F.called_set.canCreate;have q5:=F.typeCall_set_0;repeat (any_goals (first|assumption|wp_step))
 refine kN (Nd (P:=P) (w:=w) (r:=[]) (E:=E) (Q1:=fun ob s1=>ob=.ref s.heap.objs.size/\s1={ s with heap:=s.heap.push (i8 w) }) F.newCall_set_0 ⟨rfl,rfl⟩) fun r s1 hr=>?_;cases r with
 | error e=>exact hr
 | ok fl =>
  cases fl with
  | ret ob =>
   obtain⟨rfl,rfl⟩:=hr;have hT:Shared.TypeIs { s with heap:=s.heap.push (i8 w) } (.ref s.heap.objs.size) "set":=⟨_,Yl _ rfl,rfl⟩;have q6:=F.called_set.init.lookup;have q7:=F.called_set.init.bind (.ref s.heap.objs.size);have hS:(s.heap.push (i8 w)).get? s.heap.objs.size=some (i8 w):=Yl _ rfl;repeat (any_goals (first|assumption|wp_step))
   refine kN (codeAny_call_builtin (R:=wants (fun r s2=>r=.none/\Q (.ref s.heap.objs.size) s2) E) F.called_set.init.plain F.entry_set_init (check_set_init hT ?_)) fun r2 s2 sU=>?_
   .unfold Builtin.«set.__init__» noKeywords;wp_walk;exact⟨rfl,k⟩
   .cases r2 with
    | error e=>exact sU
    | ok f2 =>
     cases f2 with
     | ret r =>
      obtain⟨rfl,hq⟩:=sU;repeat (any_goals (first|assumption|wp_step))
     | _=>exact sU.elim
  | _=>exact hr.elim
def Nf(ks:List Str)(z:Str):(fQ ks z).length<=ks.length+1:=by unfold fQ;split<;>simp
def ib(zs:List Str)(i:Nat):List Str:=(zs.take i).foldl fQ []
theorem Bx(zs:List Str):∀i,(ib zs i).length<=i
 | 0=>by simp[ib]
 | i+1=>by
  unfold ib
  rcases Nat.lt_or_ge i zs.length with h|h
  .rw[List.take_succ_eq_append_getElem h,List.foldl_append]
   exact YB (Nf _ _) (Nat.succ_le_succ (Bx zs i))
  .rw[m8 (by lia),<- m8 h]
   exact Nat.le_succ_of_le (Bx zs i)
def Ng(h:zs[i]? = some z):ib zs (i+1)=fQ (ib zs i) z:=by
 obtain⟨hl,e⟩:=Yg.mp h;unfold ib;rw[List.take_succ_eq_append_getElem hl,List.foldl_append,e];rfl
section
variable{R:Result->Shared->Prop}{I:Addr}{fp wr:List Addr}{G:Array GenState->Array GenState->Prop}{n:Nat}{Pv:Nat->Value->Prop}{St:Nat->Shared->Prop}
def cN.moved(hS:cN P w s.heap a ks)(hm:Moved wr G s s')(hn:a∉wr):cN P w s'.heap a ks:=by
 obtain⟨o,es,ep,t,ho,r⟩:=hS;exact⟨o,es,ep,t,hm.heap a _ hn ho,r⟩
theorem Ur(W:WalksS P w A.in1 I fp wr G n Pv St)(S:Addr)(hf:S∉fp)(zs:List Str)(hz:zs.length=n)(hv:∀i v,Pv i v->∃z t,zs[i]? = some z/\v=.str z t)(hb:n+1<scanBound):
  ∀(k i:Nat)(s:Shared),n-i=k->i<=n->St i s->cN P w s.heap S (ib zs i)->(∀s',Moved (S::wr) G s s'->cN P w s'.heap S (ib zs n)->R (.ok (.ret .none)) s') ->
   codeAny (model P w) A (.builtin "set.update.loop" ⟨[.ref S,.ref I],[]⟩) R s:=by
 have hw:S∉wr:=fun x=>hf (W.sub _ x);have su:∀b∈wr,b∈S::wr:=fun b x=>m9 _ x;intro k;induction k with
 | zero =>
  intro i s hk hi st hS hR;obtain rfl:i=n:=by lia
  refine nc F.entry_set_update_loop ?_;rw[qa F.plain_set_update_loop _];show wpAny _ A.in1 (pyNext (.ref I)>>=_) _ _ s;exact Yb (W.done s _ _ st fun s' hm=>Ye (hR s' (hm.mono su) (hS.moved hm hw)))
 | succ k ih =>
  intro i s hk hi st hS hR;have lt:i<n:=by lia
  refine nc F.entry_set_update_loop ?_;rw[qa F.plain_set_update_loop _];show wpAny _ A.in1 (pyNext (.ref I)>>=_) _ _ s;refine Yb (W.item i s _ _ lt st fun v s' pv dE hm=>?_);obtain⟨z,t,ez,rfl⟩:=hv i v pv;have hl:=Bx zs i;have jD:=hS.moved hm hw;refine Yb (YU ?_);unfold setAdd;refine YU (Yb ((strKind P w).pyHash (strKind_is P w z t) ?_));refine Na (s:={ s' with toks:=s'.toks+1 }) jD (by lia) fun h' b sb nR=>?_;rw[<- Ng ez]at nR;refine Ye ⟨oq F.plain_set_update_loop _,ih (i+1) _ (by lia) lt (W.frame _ s' _ _ dE (fV _) fun b hb o e=>?_) nR fun s2 hm2 Ff=>?_⟩
  .rw[sb.2 b (fun x:b=S=>hf (x▸hb))];exact e
  .refine hR s2 (Moved.trans W.gtrans ((hm.mono su).then_heap (fV _) fun b o hb e=>?_) hm2) Ff;rw[sb.2 b (fun x:b=S=>hb (x▸m_))];exact e
end
variable{P:Program}{w:World}{A:Around}{E:Value->Shared->Prop}{s:Shared}{a:Addr}{ks:List Str}{h:Heap}
theorem Us(hh:A.handled=none)(hl:s.heap.IsList l its)(hv:∀(i:Nat)(v:Value),its[i]? = some v->∃z t,zs[i]? = some z/\v=.str z t)(hz:zs.length=its.size)(hb:its.size+1<scanBound)(k:∀(h':Heap)(tk:Nat),s.toks<=tk->cN P w h' s.heap.objs.size (ib zs its.size)->(∀b o,b<s.heap.objs.size->s.heap.get? b=some o->h'.get? b=some o)->Q (.ref s.heap.objs.size) { s with heap:=h',toks:=tk }):
  wpAny (model P w) A (call (.type "set") [.ref l]) Q E s:=by
 obtain⟨c,tl,FP⟩:=F.called_set.mro;have q1:=F.called_set.made;have q2:=F.called_set.sub;refine kO (codeAny_of_tree ?_);show wpAny _ _ (callAny (.type "set") ⟨[.ref l],[]⟩) _ _ _;refine Ye ⟨Code.quiet_builtin _ (by decide +kernel),nc F.entry_type_call ?_⟩;rw[Around.under_plain (weight_type_call_type "set" [.ref l] []) rfl];have q3:=F.called_set.notType;have q4:=F.called_set.canCreate;have q5:=F.typeCall_set_1 (.ref l);repeat (any_goals (first|assumption|wp_step))
 refine kN (Nd (P:=P) (w:=w) (r:=[.ref l]) (E:=E) (Q1:=fun ob s1=>ob=.ref s.heap.objs.size/\s1={ s with heap:=s.heap.push (i8 w) }) (F.newCall_set_1 (.ref l)) ⟨rfl,rfl⟩) fun r s1 hr=>?_;cases r with
 | error e=>exact hr
 | ok fl =>
  cases fl with
  | ret ob =>
   obtain⟨rfl,rfl⟩:=hr;have hT:Shared.TypeIs { s with heap:=s.heap.push (i8 w) } (.ref s.heap.objs.size) "set":=⟨_,Yl _ rfl,rfl⟩;have q6:=F.called_set.init.lookup;have q7:=F.called_set.init.bind (.ref s.heap.objs.size);have hS:(s.heap.push (i8 w)).get? s.heap.objs.size=some (i8 w):=Yl _ rfl;repeat (any_goals (first|assumption|wp_step))
   refine kN (codeAny_call_builtin (R:=wants (fun r s2=>r=.none/\∃h' tk,s2={ s with heap:=h',toks:=tk }/\s.toks<=tk/\cN P w h' s.heap.objs.size (ib zs its.size)/\∀b o,b<s.heap.objs.size->s.heap.get? b=some o->h'.get? b=some o) E) F.called_set.init.plain F.entry_set_init (check_set_init_1 hT ?_)) fun r2 s2 sU=>?_
   .obtain⟨ol,iN,gK,nl,qI⟩:=hl;obtain⟨oc,od,Ts,os⟩:=ol;simp only at gK qI;subst gK qI;have FQ:(s.heap.push (i8 w)).get? l=some { cls:=.type "list",dict:=od,data:=.seq its nl,slots:=os }:=Yd _ iN;have z1:=F.sub_list_set;have z2:=F.sub_list_frozenset;have z3:(Value.type "list" == Value.type "dict")=false:=by decide
    have cx:(s.heap.push (i8 w)).IsList l its:=⟨_,FQ,rfl,nl,rfl⟩;unfold Builtin.«set.__init__» noKeywords Builtin.Frozenset.updateFrom;generalize Ut:pyIter=PI;wp_walk;subst Ut;refine uL cx (Yb (wpAny_runValue ?_));have lq:l<s.heap.objs.size:=Ym iN;have h3:A.in1.in1.in1.handled=none:=by simp[hh]
    have aT:l≠(s.heap.push (i8 w)).objs.size:=by rw[YK];exact Yo (YR lq)
    have nU:s.heap.objs.size∉[(s.heap.push (i8 w)).objs.size,l]:=by
     rw[YK];simp only[Yp,YN,fH,not_or];exact⟨Yo (Y7 _),lI lq⟩
    refine Ur ((wG h3 _ l aT its).toS) s.heap.objs.size nU zs hz hv hb (its.size-0) 0 _ (by lia) (Y9 _) ⟨⟨_,Yl _ rfl,rfl,rfl⟩,cx.push _⟩ (Nc (Yd _ hS)) ?_;intro s' hm i7;obtain⟨h',g',d',FT,wY⟩:=s';cases(show g'=s.gens from hm.gens);cases(show d'=s.drawn from hm.drawn);cases(show wY=s.os from hm.os);refine Ye ?_;show wpAny _ _ (ret Value.none) _ _ _;refine Ye ⟨rfl,h',FT,rfl,hm.toks,i7,fun b o hb e=>hm.heap b o ?_ (Yd _ (Yd _ e))⟩
    .rw[YK];simp only[Yp,YN,fH,not_or];exact⟨Yo hb,Yo (YR hb)⟩
   .cases r2 with
    | error e=>exact sU
    | ok f2 =>
     cases f2 with
     | ret r =>
      obtain⟨rfl,h',tk,rfl,ht,i7,Uu⟩:=sU;repeat (any_goals (first|assumption|wp_step))
      exact k _ _ ht i7 Uu
     | _=>exact sU.elim
  | _=>exact hr.elim
namespace SI
theorem sV:entryFor table "set.__iter__"=some Builtin.«frozenset.__iter__»:=entryFor_alias (id':="frozenset.__iter__") (by kernel_rfl) rfl (by decide +kernel) (by kernel_rfl)
def gj:entryFor table "set_iterator.__next__"=some Builtin.«set_iterator.__next__»:=entryFor_of_tree (by kernel_rfl)
theorem bH:Slot "set_iterator" "__next__" "set_iterator.__next__":=by
 refine .of (owner:="set_iterator") (n:="__next__") ?_ (by decide +kernel) (by decide +kernel) (by decide +kernel) ?_ ?_
 .rw[typeLookup_type,Iq];kernel_rfl
 .first|exact .inl (by decide +kernel)|exact .inr (by decide +kernel)
 .rw[isSubtype_type];kernel_rfl
def ow:Manifest.owners.lookup (String.ofList ['r','o','t','a','r','e','t','i','_','t','e','s'].reverse)=some Manifest.sig_set_iterator:=by kernel_rfl
def gm(a:Value):argsOk "set_iterator.__next__" ⟨[a],[]⟩:=by
 unfold argsOk;rw[signature?_of (id:="set_iterator.__next__") (n:=['_','_','t','x','e','n','_','_']) (o:=['r','o','t','a','r','e','t','i','_','t','e','s']) (by kernel_rfl) ow];kernel_rfl
end SI
section
variable{M:Model}{A:Around}{E:Value->Shared->Prop}
def Uv(hn:n≠0)(h:∀i d,i<n->Q i { s with drawn:=d }):wpAny M A (choose src n) Q E s:=fun Γ p hΓ=>by
 unfold choose
 rw[Sem.wp_choose]
 exact⟨hn,by rw[Sem.wp_pure];exact h _ _ (Nat.mod_lt _ (Nat.pos_of_ne_zero hn))⟩
def Nh{α:Type}{xs:List α}{x:α}(h:xs[i]? = some x):(x::xs.eraseIdx i).Perm xs:=by
 obtain⟨hl,e⟩:=Yg.mp h;rw[List.eraseIdx_eq_take_drop_succ,<- e];have:xs=xs.take i++xs[i]::xs.drop (i+1):=by rw[List.getElem_cons_drop,Iv]
 exact List.perm_middle.symm.trans (by rw[<- this])
theorem Ni:∀(n:Nat)(xs:List α)(s:Shared)(Q:List α->Shared->Prop),xs.length=n->(∀ys d,ys.Perm xs->Q ys { s with drawn:=d })->wpAny M A (drawOrder n xs) Q E s
 | 0, xs,s,Q,hn,h=>by
  have:=wt.mp hn
  subst this
  exact Ye (h [] s.drawn .nil)
 | n+1,[],s,Q,hn,h=>by cases hn
 | n+1,x::xs,s,Q,hn,h=>by
  unfold drawOrder
  refine Yb (Uv (by simp) fun i d hi=>?_)
  obtain⟨y,hy⟩:∃y,(x::xs)[i]? = some y:=⟨_,Yh hi⟩
  rw[hy]
  dsimp only
  refine Yb (Ni n _ _ _ (by rw[List.length_eraseIdx,if_pos hi];simpa using hn) fun ys d' hp=>?_)
  exact Ye (h (y::ys) d' ((hp.cons y).trans (Nh hy)))
end
theorem Nj(next:Nat->Nat):∀(n k:Nat)(l:List α)(out:Array α),l.length=n->(pickOrder.go next n k l out).toList.Perm (out.toList++l)
 | 0, k,l,out,hn=>by
  rw[wt.mp hn]
  simp[pickOrder.go]
 | n+1,k,l,out,hn=>by
  unfold pickOrder.go
  have bq:next k % l.length<l.length:=Nat.mod_lt _ (by lia)
  obtain⟨y,hy⟩:∃y,l[next k % l.length]? = some y:=⟨_,Yh bq⟩
  rw[hy]
  dsimp only
  refine(Nj next n (k+1) _ _ (by rw[List.length_eraseIdx,if_pos bq,hn];rfl)).trans ?_
  rw[Array.toList_push,wy]
  exact List.Perm.append_left _ (Nh hy)
def Bz(next:Nat->Nat)(xs:Array α):(pickOrder next xs).toList.Perm xs.toList:=by
 unfold pickOrder;exact(Nj next _ 0 xs.toList #[] (by simp)).trans (by simp)
def Uw(j:Nat):SetTable.below #[j] 0=0:=by
 simp[SetTable.below,SetTable.below.go]
def Ux(j:Nat):SetTable.below #[j] (j+1)=1:=by
 simp[SetTable.below,SetTable.below.go]
def gM(h:Heap)(I:Addr)(f:Value)(i:Nat)(a:Addr)(n ep:Nat):Prop:=∃o,h.get? I=some o/\o.cls=.type "set_iterator"/\o.data=.fields #[f,.int i 0,.ref a,.int n 0,.int ep 0]
variable{P:Program}{w:World}{A:Around}{E:Value->Shared->Prop}{s:Shared}{I a:Addr}{i n ep:Nat}{o:Obj}{es:Array (Int×Value)}{t:SetTable}
def gM.typeIs(h:gM s.heap I f i a n ep):s.TypeIs (.ref I) "set_iterator":=let⟨o,e,c,_⟩:=h;⟨o,e,c⟩
def Nk{j nx:Nat}(hit:gM s.heap I (.int j 0) i a n ep)(ho:s.heap.get? a=some o)(hd:o.data=.set es ep t)(hf:t.fits es.size=true)(hn:es.size=n)(hx:∀(A':Around)(E':Value->Shared->Prop)(Q':Option (Value×Nat)->Shared->Prop),Q' (some (x,nx)) s->wpAny (model P w) A' (setNext a j i ep) Q' E' s)(k:∀h',gM h' I (.int nx 0) (i+1) a n ep->Heap.SameBut I s.heap h'->Q (some x) { s with heap:=h' }):wpAny (model P w) A (pyNext (.ref I)) Q E s:=by
 obtain⟨oi,hi,hc,ic⟩:=id hit;unfold pyNext;refine Yb (qe (Y4 (name:=Str.ofString "__next__") hit.typeIs SI.bH (Y1 SI.bH hit.typeIs SI.gj ?_ (SI.gm _))));unfold Builtin.«set_iterator.__next__»;refine Yb (Ye ?_);dsimp only;refine Yb (wpAny_fieldsOf hi ic ?_);dsimp only;refine Yb (wpAny_setEntries_of ho hd hf ?_);rw[if_neg (by rw[hn];simp)];rw[show((j:Int)).toNat=j from rfl,show((i:Int)).toNat=i from rfl,show((ep:Int)).toNat=ep from rfl];refine Yb (hx _ _ _ ?_);dsimp only;refine Yb (wpAny_setField hi ic (by simp) ?_);have g1:=YE (Obj.mapFields (·.setIfInBounds 0 (rawInt (nx:Int)))) hi (Obj.isFreed_of_fields (YX ic _));have d1:=YX ic (·.setIfInBounds 0 (rawInt (nx:Int)));refine Yb (wpAny_setField g1 d1 (by simp) ?_);have g2:=YE (Obj.mapFields (·.setIfInBounds 1 (rawInt ((i:Int)+1)))) g1 (Obj.isFreed_of_fields (YX d1 _));have d2:=YX d1 (·.setIfInBounds 1 (rawInt ((i:Int)+1)));refine Ye ⟨x,rfl,Ye (k _ ⟨_,g2,(Obj.cls_mapFields ..).trans ((Obj.cls_mapFields ..).trans hc),?_⟩ ((lE ..).trans (lE ..)))⟩;rw[d2];simp[rawInt]
theorem Nl{j:Nat}(hh:A.handled=none)(hit:gM s.heap I (.int j 0) i a n ep)(ho:s.heap.get? a=some o)(hd:o.data=.set es ep t)(hf:t.fits es.size=true)(hn:es.size=n)(hx:∀(A':Around)(E':Value->Shared->Prop)(Q':Option (Value×Nat)->Shared->Prop),Q' none s->wpAny (model P w) A' (setNext a j i ep) Q' E' s)(k:∀h',Heap.ExtBut I s.heap h'->Q none { s with heap:=h' }):wpAny (model P w) A (pyNext (.ref I)) Q E s:=by
 obtain⟨oi,hi,hc,ic⟩:=id hit;unfold pyNext;refine Yb (qe (Y4 (name:=Str.ofString "__next__") hit.typeIs SI.bH (Y1 SI.bH hit.typeIs SI.gj ?_ (SI.gm _))));unfold Builtin.«set_iterator.__next__»;refine Yb (Ye ?_);dsimp only;refine Yb (wpAny_fieldsOf hi ic ?_);dsimp only;refine Yb (wpAny_setEntries_of ho hd hf ?_);rw[if_neg (by rw[hn];simp)];rw[show((j:Int)).toNat=j from rfl,show((i:Int)).toNat=i from rfl,show((ep:Int)).toNat=ep from rfl];refine Yb (hx _ _ _ ?_);dsimp only;refine Yb (wpAny_setField hi ic (by simp) ?_);refine Yb ?_;simp only[newExc,newTuple];refine Yb (YO ?_ (by size_fits));refine Yb (m:=firstArgMember _ _) (wF (a:=Value.none) (by first|rfl|(simp only[firstArgMember];rfl)) ?_);refine YO ?_ (by size_fits);simp only[raiseNew];refine Yb (wpAny_handled ?_);rw[show A.in1.handled=none from hh];refine Yb (Ye (wpAny_throw ?_));refine Yb (wB (T:="StopIteration") (b:=true) ⟨_,Yl _ rfl,rfl⟩ isSubtype_stop ?_);exact Ye (k _ (((lE ..).extBut.push _).push _))
def Uy{pl:List Nat}(hit:gM s.heap I (.ref T) i a n ep)(ht:∃oT m,s.heap.get? T=some oT/\oT.data=.seq (pl.map fun(z:Nat)=>rawInt (z:Int)).toArray m)(ho:s.heap.get? a=some o)(hd:o.data=.set es ep t)(hf:t.fits es.size=true)(hn:es.size=n)(hp:pl[i]? = some q)(hx:es[q]? = some (hs,x))(k:∀h',gM h' I (.ref T) (i+1) a n ep->Heap.SameBut I s.heap h'->Q (some x) { s with heap:=h' }):wpAny (model P w) A (pyNext (.ref I)) Q E s:=by
 obtain⟨oi,hi,hc,ic⟩:=id hit;obtain⟨oT,m,hT,lh⟩:=ht;unfold pyNext;refine Yb (qe (Y4 (name:=Str.ofString "__next__") hit.typeIs SI.bH (Y1 SI.bH hit.typeIs SI.gj ?_ (SI.gm _))));unfold Builtin.«set_iterator.__next__»;refine Yb (Ye ?_);dsimp only;refine Yb (wpAny_fieldsOf hi ic ?_);dsimp only;refine Yb (wpAny_setEntries_of ho hd hf ?_);rw[if_neg (by rw[hn];simp)];refine Yb ?_;unfold seqItems?;refine Yb (wpAny_load hT ?_);rw[lh];refine Ye ?_;dsimp only;rw[show((pl.map fun(z:Nat)=>rawInt (z:Int)).toArray)[((i:Int)).toNat]? = some (.int (q:Int) 0)from by rw[show((i:Int)).toNat=i from rfl,List.getElem?_toArray,Yj,hp];rfl];dsimp only;rw[show((q:Int)).toNat=q from rfl,show((ep:Int)).toNat=ep from rfl];unfold setNextDrawn;refine Yb (Yb (wpAny_setState_of ho hd hf ?_));dsimp only;rw[if_neg (by simp),hx];refine Ye ?_;refine Yb (wpAny_setField hi ic (by simp) ?_);have g2:=YE (Obj.mapFields (·.setIfInBounds 1 (rawInt ((i:Int)+1)))) hi (Obj.isFreed_of_fields (YX ic _));have d2:=YX ic (·.setIfInBounds 1 (rawInt ((i:Int)+1)));refine Ye ⟨x,rfl,Ye (k _ ⟨_,g2,(Obj.cls_mapFields ..).trans hc,?_⟩ (lE ..))⟩;rw[d2];simp[rawInt]
def Uz{pl:List Nat}(hh:A.handled=none)(hit:gM s.heap I (.ref T) i a n ep)(ht:∃oT m,s.heap.get? T=some oT/\oT.data=.seq (pl.map fun(z:Nat)=>rawInt (z:Int)).toArray m)(ho:s.heap.get? a=some o)(hd:o.data=.set es ep t)(hf:t.fits es.size=true)(hn:es.size=n)(hp:pl[i]? = none)(k:∀h',Heap.ExtBut I s.heap h'->Q none { s with heap:=h' }):wpAny (model P w) A (pyNext (.ref I)) Q E s:=by
 obtain⟨oi,hi,hc,ic⟩:=id hit;obtain⟨oT,m,hT,lh⟩:=ht;unfold pyNext;refine Yb (qe (Y4 (name:=Str.ofString "__next__") hit.typeIs SI.bH (Y1 SI.bH hit.typeIs SI.gj ?_ (SI.gm _))));unfold Builtin.«set_iterator.__next__»;refine Yb (Ye ?_);dsimp only;refine Yb (wpAny_fieldsOf hi ic ?_);dsimp only;refine Yb (wpAny_setEntries_of ho hd hf ?_);rw[if_neg (by rw[hn];simp)];refine Yb ?_;unfold seqItems?;refine Yb (wpAny_load hT ?_);rw[lh];refine Ye ?_;dsimp only;rw[show((pl.map fun(z:Nat)=>rawInt (z:Int)).toArray)[((i:Int)).toNat]? = none from by rw[show((i:Int)).toNat=i from rfl,List.getElem?_toArray,Yj,hp];rfl];dsimp only;refine Yb (wpAny_setField hi ic (by simp) ?_);have g1:=YE (Obj.mapFields (·.setIfInBounds 0 (rawInt 0))) hi (Obj.isFreed_of_fields (YX ic _));have d1:=YX ic (·.setIfInBounds 0 (rawInt 0));refine Yb (wpAny_setField g1 d1 (by simp) ?_);refine Yb ?_;simp only[newExc,newTuple];refine Yb (YO ?_ (by size_fits));refine Yb (m:=firstArgMember _ _) (wF (a:=Value.none) (by first|rfl|(simp only[firstArgMember];rfl)) ?_);refine YO ?_ (by size_fits);simp only[raiseNew];refine Yb (wpAny_handled ?_);rw[show A.in1.handled=none from hh];refine Yb (Ye (wpAny_throw ?_));refine Yb (wB (T:="StopIteration") (b:=true) ⟨_,Yl _ rfl,rfl⟩ isSubtype_stop ?_);exact Ye (k _ ((((lE ..).trans (lE ..)).extBut.push _).push _))
variable{P:Program}{w:World}{A:Around}{E:Value->Shared->Prop}{s:Shared}{I a:Addr}{i n ep:Nat}{o:Obj}{es:Array (Int×Value)}{t:SetTable}
def Nm(hb:w.params.followText "set-order"=true)(ho:s.heap.get? a=some o)(hd:o.data=.set es ep t)(hf:t.fits es.size=true)(k:Q (((pickOrder (w.params.setOrder a ep) es)[i]?).map fun e=>(e.2,j)) s):wpAny (model P w) A (setNext a j i ep) Q E s:=by
 unfold setNext;refine Yb (wpAny_setState_of ho hd hf ?_);dsimp only;unfold setsByText;refine Yb (Yb (wpAny_askSetting (Ye ?_)));rw[if_pos (show(model P w).w.params.followText "set-order"=true from hb),if_neg (by simp)];unfold setWalk;refine Yb (Yb (wpAny_setState_of ho hd hf ?_));dsimp only;unfold setsByText;refine Yb (Yb (wpAny_askSetting (Ye ?_)));rw[if_pos (show(model P w).w.params.followText "set-order"=true from hb)];exact Yb (wpAny_askSetting (Ye (Ye k)))
theorem Nn(hb:w.params.followText "set-order"=false)(ho:s.heap.get? a=some o)(hd:o.data=.set es ep t)(hf:t.fits es.size=true)(hl:t.led=true)(h1:es.size<=1)(k:Q (match es[SetTable.below t.place j]?,t.place[SetTable.below t.place j]? with|some (_,x),some q=>some (x,q+1)|_,_=>none) s):wpAny (model P w) A (setNext a j i ep) Q E s:=by
 unfold setNext;refine Yb (wpAny_setState_of ho hd hf ?_);dsimp only;unfold setsByText;refine Yb (Yb (wpAny_askSetting (Ye ?_)));rw[if_neg (show ¬(model P w).w.params.followText "set-order"=true from by rw[show(model P w).w.params.followText "set-order"=false from hb];decide)];have UA:(!t.plain&&decide (es.size>1))=false:=by rw[Yu (by lia),CC]
 show wpAny _ _ (if(!t.plain&&decide (es.size>1))=true then _ else _) _ _ _;rw[if_neg (by rw[UA];decide)];show wpAny _ _ ((if(!t.led&&!es.isEmpty)=true then _ else pure ())>>=_) _ _ _;rw[if_neg (by rw[hl];simp)];exact Yb (Ye (Ye k))
namespace SI
theorem yq:entryFor table "set_iterator.__iter__"=some Builtin.«dict_keyiterator.__iter__»:=entryFor_alias (id':="dict_keyiterator.__iter__") (by kernel_rfl) rfl (by decide +kernel) (by kernel_rfl)
theorem qJ:Slot "set_iterator" "__iter__" "set_iterator.__iter__":=by
 refine .of (owner:="set_iterator") (n:="__iter__") ?_ (by decide +kernel) (by decide +kernel) (by decide +kernel) ?_ ?_
 .rw[typeLookup_type,Iq];kernel_rfl
 .first|exact .inl (by decide +kernel)|exact .inr (by decide +kernel)
 .rw[isSubtype_type];kernel_rfl
def yr(a:Value):argsOk "set_iterator.__iter__" ⟨[a],[]⟩:=by
 unfold argsOk;rw[signature?_of (id:="set_iterator.__iter__") (n:=['_','_','r','e','t','i','_','_']) (o:=['r','o','t','a','r','e','t','i','_','t','e','s']) (by kernel_rfl) ow];kernel_rfl
end SI
def FU(hit:gM s.heap I f i a n ep)(k:Q (.ref I) s):wpAny (model P w) A (pyIter (.ref I)) Q E s:=by
 refine wpAny_pyIter_slot hit.typeIs SI.qJ (Y1 SI.qJ hit.typeIs SI.yq ?_ (SI.yr _));show wpAny _ _ (ret (.ref I)) _ _ s;exact Ye ⟨_,rfl,"set_iterator",_,hit.typeIs,SI.bH.lookup,k⟩
def gM.at(x:gM h I f i a n ep)(e:∀o,h.get? I=some o->h'.get? I=some o):gM h' I f i a n ep:=let⟨o,g,r⟩:=x;⟨o,e o g,r⟩
abbrev vG:Array GenState->Array GenState->Prop:=fun a b=>b=a
def FV(sb:Heap.SameBut I s.heap h'):Moved [I] vG s { s with heap:=h' }:=⟨fun b o hb e=>by rw[sb.2 b (fun z=>hb (by simp[z]))];exact e,rfl,rfl,rfl,Yk _⟩
def FW(sb:Heap.ExtBut I s.heap h'):Moved [I] vG s { s with heap:=h' }:=⟨fun b o hb e=>sb b o (fun z=>hb (by simp[z])) e,rfl,rfl,rfl,Yk _⟩
theorem UB(hh:A.handled=none)(hb:w.params.followText "set-order"=true)(aT:a≠I)(hd:o.data=.set es ep t)(hf:t.fits es.size=true)(hn:es.size=n):
  WalksS P w A I [I,a] [I] vG n (fun i v=>((pickOrder (w.params.setOrder a ep) es).toList.map (·.2))[i]? = some v) (fun i s=>gM s.heap I (.int (0:Nat) 0) i a n ep/\s.heap.get? a=some o) where
 sub:=fun b hb=>by simp at hb;simp[hb]
 grefl:=fun _=>rfl
 gtrans:=fun _ _ _ h1 h2=>h2.trans h1
 frame:=fun i s h' tk st _ hk=>⟨st.1.at fun o e=>hk I (by simp) o e,hk a (by simp) _ st.2⟩
 item:=fun i s Q E hi st k=>by
  have hz:(pickOrder (w.params.setOrder a ep) es).size=n:=by rw[<- Array.length_toList,(Bz _ es).length_eq,Array.length_toList,hn]
  obtain⟨x,hx⟩:∃x,(pickOrder (w.params.setOrder a ep) es)[i]? = some x:=⟨_,wo (by lia)⟩
  refine Nk (x:=x.2) (nx:=0) st.1 st.2 hd hf hn (fun A' E' Q' q=>Nm hb st.2 hd hf (by rw[hx];exact q)) fun h' hit sb=>k x.2 _ (by rw[Yj,rn,hx];rfl) ⟨hit,by rw[<- st.2];exact sb.2 a aT⟩ (FV sb)
 done:=fun s Q E st k=>by
  have hz:(pickOrder (w.params.setOrder a ep) es).size=n:=by rw[<- Array.length_toList,(Bz _ es).length_eq,Array.length_toList,hn]
  exact Nl hh st.1 st.2 hd hf hn (fun A' E' Q' q=>Nm hb st.2 hd hf (by rw[Array.getElem?_eq_none (by lia)];exact q)) fun h' sb=>k _ (FW sb)
 self:=fun i s Q E st q=>FU st.1 q
theorem UC(hh:A.handled=none)(hb:w.params.followText "set-order"=false)(aT:a≠I)(hd:o.data=.set es ep t)(hf:t.fits es.size=true)(hl:t.led=true)(h1:es.size<=1)(hn:es.size=n):
  WalksS P w A I [I,a] [I] vG n (fun i v=>(es.toList.map (·.2))[i]? = some v) (fun i s=>∃j:Nat,gM s.heap I (.int j 0) i a n ep/\s.heap.get? a=some o/\(i=0->j=0)/\(i=1->∃q,t.place=#[q]/\j=q+1)) where
 sub:=fun b hb=>by simp at hb;simp[hb]
 grefl:=fun _=>rfl
 gtrans:=fun _ _ _ h1 h2=>h2.trans h1
 frame:=fun i s h' tk ⟨j,st,fe,r⟩ _ hk=>⟨j,st.at fun o e=>hk I (by simp) o e,hk a (by simp) _ fe,r⟩
 item := fun i s Q E hi aD k=>by
  obtain⟨j,st,fe,r0,r1⟩:=aD
  obtain rfl:i=0:=by lia
  obtain rfl:=r0 rfl
  have vH:t.place.size=1:=by
   simp only[SetTable.fits,YQ,beq_iff_eq]at hf;lia
  obtain⟨q,hq⟩:∃q,t.place=#[q]:=⟨t.place[0],by apply Array.ext;simp[vH];intro i h1 h2;simp at h2;simp[h2]⟩;obtain⟨x,hx⟩:∃x,es[0]? = some x:=⟨_,wo (by lia)⟩;refine Nk (x:=x.2) (nx:=q+1) st fe hd hf hn (fun A' E' Q' z=>Nn hb fe hd hf hl h1 (by rw[hq,Uw,hx];exact z)) fun h' hit sb=>k x.2 _ (by rw[Yj,rn,hx];rfl) ⟨q+1,hit,by rw[<- fe];exact sb.2 a aT,fun z=>absurd z (by decide),fun _=>⟨q,hq,rfl⟩⟩ (FV sb)
 done := fun s Q E aD k=>by
  obtain⟨j,st,fe,r0,r1⟩:=aD;refine Nl hh st fe hd hf hn (fun A' E' Q' z=>Nn hb fe hd hf hl h1 ?_) fun h' sb=>k _ (FW sb);rcases Nat.eq_zero_or_pos n with e|e
  .rw[Array.getElem?_eq_none (by lia)];exact z
  .obtain⟨q,hq,rfl⟩:=r1 (by lia);rw[hq,Ux,Array.getElem?_eq_none (by lia)];exact z
 self:=fun i s Q E ⟨j,st,_⟩ q=>FU st q
theorem UD{pl:List Nat}(hh:A.handled=none)(aT:a≠I)(UE:T≠I)(hT:oT.data=.seq (pl.map fun(z:Nat)=>rawInt (z:Int)).toArray m)(hp:pl.Perm (List.range n))(hd:o.data=.set es ep t)(hf:t.fits es.size=true)(hn:es.size=n):
  WalksS P w A I [I,a,T] [I] vG n (fun i v=>(pl.map fun q=>(es.getD q (0,.none)).2)[i]? = some v) (fun i s=>gM s.heap I (.ref T) i a n ep/\s.heap.get? a=some o/\s.heap.get? T=some oT) where
 sub:=fun b hb=>by simp at hb;simp[hb]
 grefl:=fun _=>rfl
 gtrans:=fun _ _ _ h1 h2=>h2.trans h1
 frame:=fun i s h' tk st _ hk=>⟨st.1.at fun o e=>hk I (by simp) o e,hk a (by simp) _ st.2.1,hk T (by simp) _ st.2.2⟩
 item:=fun i s Q E hi st k=>by
  have hl:pl.length=n:=by rw[hp.length_eq,qd]
  obtain⟨q,hq⟩:∃q,pl[i]? = some q:=⟨_,Yh (by lia)⟩
  have Np:q<es.size:=by rw[hn];exact oj.mp (hp.mem_iff.mp (Yi hq))
  refine Uy (q:=q) (hs:=(es[q]).1) (x:=(es[q]).2) st.1 ⟨oT,m,st.2.2,hT⟩ st.2.1 hd hf hn hq (by rw[wo Np]) fun h' hit sb=>k _ _ (by rw[Yj,hq];simp[Array.getD,Np]) ⟨hit,by rw[<- st.2.1];exact sb.2 a aT,by rw[<- st.2.2];exact sb.2 T UE⟩ (FV sb)
 done:=fun s Q E st k=>by
  have hl:pl.length=n:=by rw[hp.length_eq,qd]
  exact Uz hh st.1 ⟨oT,m,st.2.2,hT⟩ st.2.1 hd hf hn (Y3 (by lia)) fun h' sb=>k _ (FW sb)
 self:=fun i s Q E st q=>FU st.1 q
variable{P:Program}{w:World}{A:Around}{E:Value->Shared->Prop}{s:Shared}{I a:Addr}{i n ep:Nat}{o:Obj}{es:Array (Int×Value)}{t:SetTable}{ks:List Str}
def FX(P:Program)(w:World)(s:Shared)(a:Addr)(vs:List Value)(I:Addr)(s':Shared):Prop :=
 ∃(fp:List Addr)(St:Nat->Shared->Prop)(l:List Value),(∀A:Around,A.handled=none->WalksS P w A I fp [I] vG l.length (fun i v=>l[i]? = some v) St)/\St 0 s'/\l.Perm vs/\(∀b o,s.heap.get? b=some o->s'.heap.get? b=some o)/\s'.gens=s.gens/\s'.os=s.os/\s'.toks=s.toks/\(∀b∈fp,b=a\/s.heap.objs.size<=b)/\(∀b∈fp,b<s'.heap.objs.size)/\s.heap.objs.size<=I/\s.heap.objs.size<=s'.heap.objs.size/\s'.TypeIs (.ref I) "set_iterator"
abbrev FY(f:Value)(a:Addr)(n ep:Nat):Obj:={ cls:=.type "set_iterator",data:=.fields #[f,rawInt 0,.ref a,rawInt n,rawInt ep] }
def UG(es:Array (Int×Value)):(List.range es.size).map (fun q=>(es.getD q (0,.none)).2)=es.toList.map (·.2):=by
 apply IX
 .simp
 .intro i h1 h2;simp at h1;simp[Array.getD,h1]
def UH{pl:List Nat}(ho:s.heap.get? a=some o)(hd:o.data=.set es ep t)(hf:t.fits es.size=true)(hp:pl.Perm (List.range es.size)):
  FX P w s a (es.toList.map (·.2)) (s.heap.objs.size+1) { s with heap:=(s.heap.push { cls:=.type "tuple",data:=.seq (pl.map fun(z:Nat)=>rawInt (z:Int)).toArray }).push (FY (.ref s.heap.objs.size) a es.size ep),drawn:=d }:=by
 have lq:a<s.heap.objs.size:=Ym ho;have hsz:(s.heap.push { cls:=.type "tuple",data:=.seq (pl.map fun(z:Nat)=>rawInt (z:Int)).toArray }).objs.size=s.heap.objs.size+1:=YK ..;have hl:(pl.map fun q=>(es.getD q (0,.none)).2).length=es.size:=by rw[Yc,hp.length_eq,qd]
 refine⟨[s.heap.objs.size+1,a,s.heap.objs.size],fun i s'=>gM s'.heap (s.heap.objs.size+1) (.ref s.heap.objs.size) i a es.size ep/\s'.heap.get? a=some o/\s'.heap.get? s.heap.objs.size=some { cls:=.type "tuple",data:=.seq (pl.map fun(z:Nat)=>rawInt (z:Int)).toArray },pl.map fun q=>(es.getD q (0,.none)).2,fun A hA=>?_,⟨?_,Yd _ (Yd _ ho),Yd _ (Yl _ rfl)⟩,(hp.map _).trans (by rw[UG]),fun b o e=>Yd _ (Yd _ e),rfl,rfl,rfl,?_,?_,fV _,?_,?_⟩
 .rw[hl];exact UD hA (Yo (YR lq)) (Yo (Y7 _)) rfl hp hd hf rfl
 .rw[<- hsz];exact⟨_,Yl _ rfl,rfl,rfl⟩
 .intro b hb;simp only[Yp,YN,fH]at hb;rcases hb with rfl|rfl|rfl
  .exact .inr (fV _)
  .exact .inl rfl
  .exact .inr (Yk _)
 .intro b hb;simp only[Yp,YN,fH]at hb;rw[YK,hsz];rcases hb with rfl|rfl|rfl
  .exact Y7 _
  .exact YR (YR lq)
  .exact YR (Y7 _)
 .rw[YK,hsz];exact Nat.le_succ_of_le (fV _)
 .rw[<- hsz];exact⟨_,Yl _ rfl,rfl⟩
theorem UI(ho:s.heap.get? a=some o)(hd:o.data=.set es ep t)(hf:t.fits es.size=true)(h1:w.params.followText "set-order"=true\/t.led=true)(h2:es.size=0\/t.plain=false)(hc:¬(!w.params.followText "set-order" && (!t.plain&&decide (es.size>1)))=true):
  FX P w s a (es.toList.map (·.2)) s.heap.objs.size { s with heap:=s.heap.push (FY (rawInt 0) a es.size ep) }:=by
 have lq:a<s.heap.objs.size:=Ym ho;have Nq:∀b∈[s.heap.objs.size,a],b=a\/s.heap.objs.size<=b:=fun b hb=>by
  simp only[Yp,YN,fH]at hb;rcases hb with rfl|rfl
  .exact .inr (Yk _)
  .exact .inl rfl
 have FZ:∀b∈[s.heap.objs.size,a],b<(s.heap.push (FY (rawInt 0) a es.size ep)).objs.size:=fun b hb=>by
  rw[YK];simp only[Yp,YN,fH]at hb;rcases hb with rfl|rfl
  .exact Y7 _
  .exact YR lq
 cases hb:w.params.followText "set-order" with
 | true =>
  have hl:((pickOrder (w.params.setOrder a ep) es).toList.map (·.2)).length=es.size:=by rw[Yc,(Bz _ es).length_eq,Array.length_toList]
  refine⟨[s.heap.objs.size,a],fun i s'=>gM s'.heap s.heap.objs.size (.int (0:Nat) 0) i a es.size ep/\s'.heap.get? a=some o,(pickOrder (w.params.setOrder a ep) es).toList.map (·.2),fun A hA=>?_,⟨⟨_,Yl _ rfl,rfl,rfl⟩,Yd _ ho⟩,(Bz _ es).map _,fun b o e=>Yd _ e,rfl,rfl,rfl,Nq,FZ,Yk _,by rw[YK];exact fV _,⟨_,Yl _ rfl,rfl⟩⟩;rw[hl];exact UB hA hb (Yo lq) hd hf rfl
 | false =>
  have se:t.led=true:=by
   rcases h1 with h|h
   .rw[hb]at h;cases h
   .exact h
  have km:es.size<=1:=by
   rcases h2 with h|h
   .lia
   .rw[hb,h]at hc;simp at hc;lia
  refine⟨[s.heap.objs.size,a],fun i s'=>∃j:Nat,gM s'.heap s.heap.objs.size (.int j 0) i a es.size ep/\s'.heap.get? a=some o/\(i=0->j=0)/\(i=1->∃q,t.place=#[q]/\j=q+1),es.toList.map (·.2),fun A hA=>?_,⟨0,⟨_,Yl _ rfl,rfl,rfl⟩,Yd _ ho,fun _=>rfl,fun z=>absurd z (by decide)⟩,.refl _,fun b o e=>Yd _ e,rfl,rfl,rfl,Nq,FZ,Yk _,by rw[YK];exact fV _,⟨_,Yl _ rfl,rfl⟩⟩;rw[Yc,Array.length_toList];exact UC hA hb (Yo lq) hd hf se km rfl
theorem UJ(ho:s.heap.get? a=some o)(hx:o.ExactSet)(hd:o.data=.set es ep t)(hf:t.fits es.size=true)(hz:es.size<scanBound)(h1:w.params.followText "set-order"=true\/t.led=true)(h2:es.size=0\/t.plain=false)(k:∀I s',FX P w s a (es.toList.map (·.2)) I s'->Q (.ref I) s'):wpAny (model P w) A (pyIter (.ref a)) Q E s:=by
 have hT:s.TypeIs (.ref a) "set":=⟨o,ho,hx.1⟩;refine wpAny_pyIter_slot hT F.slot_set_iter (Y1 F.slot_set_iter hT SI.sV ?_ (F.args_set_iter_1 _));unfold Builtin.«frozenset.__iter__»;refine Yb (m:=Builtin.Frozenset.slot0 "__iter__" _) (Ye ?_);unfold Builtin.Frozenset.sizeOf;refine Yb (Yb (wpAny_setEntries_of ho hd hf (Ye ?_)));refine Yb ?_;unfold setDrawn;refine Yb (wpAny_setState_of ho hd hf ?_);dsimp only;unfold setsByText;refine Yb (Yb (wpAny_askSetting (Ye (Ye ?_))));show wpAny _ _ (if(!w.params.followText "set-order" && (!t.plain&&decide (es.size>1)))=true then _ else _) _ _ _;by_cases hc:(!w.params.followText "set-order" && (!t.plain&&decide (es.size>1)))=true
 .rw[if_pos hc];refine Yb (Ni _ _ _ _ (by simp) fun pl d hp=>?_);unfold newTuple;refine Yb (YO ?_ ?_)
  .refine Yb (wpAny_setEpoch_of (o:=o) (Yd _ ho) hd hf ?_);unfold newFields;refine Yb (YO ?_ (by size_fits));refine Ye ⟨_,rfl,"set_iterator",_,⟨_,Yl _ rfl,rfl⟩,SI.bH.lookup,k _ _ ?_⟩;have:=UH (P:=P) (w:=w) (d:=d) ho hd hf hp;have hsz:(s.heap.push { cls:=.type "tuple",data:=.seq (pl.map fun(z:Nat)=>rawInt (z:Int)).toArray }).objs.size=s.heap.objs.size+1:=YK ..;rw[<- hsz]at this;exact this
  .show(pl.map fun(i:Nat)=>rawInt (i:Int)).toArray.size<=sizeLine;rw[Ys,Yc,hp.length_eq,qd];exact fits_of_scanBound hz
 .rw[if_neg hc];refine Yb (Ye (Yb (wpAny_setEpoch_of ho hd hf ?_)));unfold newFields;refine Yb (YO ?_ (by size_fits));exact Ye ⟨_,rfl,"set_iterator",_,⟨_,Yl _ rfl,rfl⟩,SI.bH.lookup,k _ _ (UI ho hd hf h1 h2 hc)⟩
variable{P:Program}{w:World}{A:Around}{E:Value->Shared->Prop}{s:Shared}{I a:Addr}{ks:List Str}
def cN.sW(hS:cN P w h a ks):cN P w (h.push ob) a ks:=by
 obtain⟨o,es,ep,t,ho,r⟩:=hS;exact⟨o,es,ep,t,Yd _ ho,r⟩
def UK(h:ItemsOf (fun i v=>l[i]? = some v) acc l.length):acc.toList=l:=by
 apply IS;intro i;rw[rn];rcases Nat.lt_or_ge i l.length with g|g
 .have:=h.2 i (acc[i]'(by rw[h.1];exact g)) (by rw[wo]);rw[this,wo]
 .rw[Y3 g,Array.getElem?_eq_none (by rw[h.1];exact g)]
def UL(p:vs.Perm (strValues l)):∃l',vs=strValues l'/\l'.Perm l:=by
 have e:∀us:List Value,(us.map fun v=>((0:Int),v)).map (·.2)=us:=fun us=>by rw[jk];exact List.map_id _
 obtain⟨l',h1,h2⟩:=FO (es':=vs.map fun v=>((0:Int),v)) (es:=(strValues l).map fun v=>((0:Int),v)) (l:=l) (e _) (p.map _);exact⟨l',(e vs).symm.trans h1,h2⟩
theorem UM(hh:A.handled=none)(hS:cN P w s.heap a ks)(k:∀s' (l:List (Str×Tok)),(l.map (·.1)).Perm ks->(∀b o,s.heap.get? b=some o->s'.heap.get? b=some o)->s'.gens=s.gens->s'.os=s.os->s.toks<=s'.toks->s.heap.objs.size<=s'.heap.objs.size->Q (strValues l) s'):wpAny (model P w) A (collect (.ref a)) Q E s:=by
 have jD:cN P w (s.heap.push { cls:=.type "list",data:=.seq ([]:List Value).toArray }) a ks:=hS.sW;obtain⟨o,es,ep,t,ho,hx,hd,he,⟨l,hl,hp⟩,hz,hf,h1,h2⟩:=jD;have lq:a<s.heap.objs.size:=let⟨_,_,_,_,e,_⟩:=hS;Ym e;have hT:∀s1:Shared,s1.heap.get? a=some o->s1.TypeIs (.ref a) "set":=fun s1 e=>⟨o,e,hx.1⟩;unfold collect;refine Yb (wpAny_runValue (nc F.entry_proto_collect ?_));rw[qa F.plain_proto_collect _];show wpAny _ A.in1 (newList []>>=fun z=>again (.builtin "list.__iadd__" ⟨[z,.ref a],[]⟩)) _ _ s;refine Yb (YO ?_);refine Ye ⟨oq IU _,nc F.entry_list_iadd ?_⟩;rw[qa IU _];show wpAny _ A.in1 (Builtin.List.listExtendWith (.ref s.heap.objs.size) (.ref a) (.ref s.heap.objs.size)) _ _ _;unfold Builtin.List.listExtendWith;refine Yb (rD (hT _ ho) ?_);have z1:Builtin.List.listSameRef (.ref s.heap.objs.size) (.ref a)=false:=by simp[Builtin.List.listSameRef,lI lq]
 have z2:(Value.type "set" == Value.type "list")=false:=by decide
 have z3:(Value.type "set" == Value.type "tuple")=false:=by decide
 simp only[z1,z2,z3,Bool.or_false,kM,fW];refine Yb (UJ ho hx hd hf hz h1 h2 fun I s' hm=>?_);obtain⟨fp,St,vs,W,st,pv,hk,hg,gW,oI,UN,FZ,hI,hsz,hIt⟩:=hm;have gO:=hk _ _ ho;refine Yb (YU ?_);unfold Builtin.List.listLengthHint;refine Yb (wpAny_specialOf (hT _ gO) F.slot_set_len.lookup ?_);wp_delta;refine Yb (wB (b:=true) (hT _ gO) (by rw[isSubtype_type];kernel_rfl) ?_);show wpAny _ A.in1 (typeOf (Value.ref a)>>=_) _ _ _;refine Yb (rD (hT _ gO) ?_);refine Ye ?_;rw[if_pos (by decide)];refine Yb (qf ?_);generalize hH:s.heap.push { cls:=.type "list",data:=.seq ([]:List Value).toArray }=H at *;have Nr:H.objs.size=s.heap.objs.size+1:=by rw[<- hH,YK]
 have cE:s'.heap.get? s.heap.objs.size=some { cls:=.type "list",data:=.seq ([]:List Value).toArray }:=hk _ _ (hH▸Yl _ rfl);have nU:s.heap.objs.size∉fp:=fun m=>by
  rcases UN _ m with e|e
  .exact lI lq e
  .exact absurd e (by show ¬H.objs.size<=_;rw[Nr];exact Nat.not_succ_le_self _)
 have eZ:vs.length<=sizeLine:=by
  rw[pv.length_eq,Yc,Array.length_toList];exact fits_of_scanBound hz
 refine Yb ?_;show wpAny _ A.in1 (updateSeq s.heap.objs.size (fun z=>z.push .none)>>=fun _=>updateSeq s.heap.objs.size (fun z=>z.pop)) _ _ _;refine Yb (oh cE rfl ?_);have u1:=YE (Obj.mapSeq (fun z=>z.push Value.none)) cE rfl;refine oh u1 rfl ?_;have u2:=YE (Obj.mapSeq (fun z=>z.pop)) u1 rfl;have cZ:∀b o,b≠s.heap.objs.size->s'.heap.get? b=some o->((s'.heap.update s.heap.objs.size (Obj.mapSeq (fun z=>z.push Value.none))).update s.heap.objs.size (Obj.mapSeq (fun z=>z.pop))).get? b=some o:=fun b o hb e=>by
  rw[YF _ _ (Ne.symm hb),YF _ _ (Ne.symm hb)];exact e
 have fe:=(W A.in1 hh).frame 0 s' ((s'.heap.update s.heap.objs.size (Obj.mapSeq (fun z=>z.push Value.none))).update s.heap.objs.size (Obj.mapSeq (fun z=>z.pop))) s'.toks st (Yk _) fun b hb o e=>cZ b o (fun z=>nU (z▸hb)) e;refine Ye ⟨oq IC _,Iy (W A.in1 hh) eZ _ nU _ vs.length 0 _ _ _ rfl (Y9 _) fe u2 (ItemsOf.nil _) fun s2 acc c hm nR sX=>?_⟩;show wpAny _ A (load s.heap.objs.size>>=_) _ _ s2;refine Yb (wpAny_load nR ?_);obtain⟨l',e1,p1⟩:=UL (hl▸pv);have ea:=UK sX;refine Ye ?_;rw[ea,e1];refine k s2 l' ((p1.map _).trans hp) (fun b o e=>?_) (hm.gens.trans hg) (hm.os.trans gW) (by rw[<- oI];exact hm.toks) (lH (Ym nR));have BA:b<s.heap.objs.size:=Ym e;refine hm.heap b o (fun m=>?_) (cZ b o (Yo BA) (hk b o (hH▸Yd _ e)));rcases Yp.mp m with z|z
 .exact Yo BA z
 .have:=Yn.mp z;rw[this]at BA;exact absurd hI (by show ¬H.objs.size<=I;rw[Nr];exact Nat.not_le_of_lt (YR BA))
variable{P:Program}{w:World}{A:Around}{E:Value->Shared->Prop}{s:Shared}{I a:Addr}{ks:List Str}
theorem F0:∀l:List (Str×Tok),StrsAre (strValues l) (l.map (·.1))
 | []=>.nil
 | p::l=>.cons p.1 p.2 (F0 l)
def UO(hh:A.handled=none)(hS:cN P w s.heap a ks)(qK:ks.length<64)(k:∀s' D (out:Array Value) (zs:List Str) n,s.heap.objs.size<=D->StrsAre out.toList zs->zs.Perm ks->sortedS zs=true->s'.heap.get? D=some (seqObj "list" out n)->(∀b o,s.heap.get? b=some o->s'.heap.get? b=some o)->s'.gens=s.gens->s'.os=s.os->s.toks<=s'.toks->Q (.ref D) s'):
  wpAny (model P w) A (call (.builtin "sorted") [.ref a]) Q E s:=by
 refine Calls.call_function_entry kind_sorted plain_sorted entry_sorted (args_sorted1 _) ?_;unfold Builtin.«sorted»;refine Yb (m:=checkCount "sorted" 1 1 _) (Ye ?_);refine Yb (UM hh hS fun s1 l hp hk hg gW oI pw=>?_);have jD:=F0 l;have hlen:(strValues l).length<64:=by
  rw[strValues,Yc,<- Yc (f:=(·.1)),hp.length_eq];exact qK
 refine Yb (CD ?_ (by exact YB (lH hlen) (by decide)));have nh:(s1.heap.push (seqObj "list" (strValues l).toArray 0)).get? s1.heap.objs.size=some (seqObj "list" (strValues l).toArray 0):=Yl _ rfl;refine Yb (YU (Y1 slot_list_sort ⟨_,nh,rfl⟩ entry_list_sort (list_sort_treeK strKind_oneLt nh jD.keysOf (fun v1 v2 r e=>keyKind_strs (by rw[<- e];exact jD)) hlen fun dE a1 a2=>⟨_,rfl,?_⟩) (args_list_sort _)));obtain⟨zs,b1,b2,b3⟩:=sorted_out_str jD a1 a2;obtain⟨n,hn⟩:=sortedHeap_at (out:=(arrOf dE).map (·.2)) nh;refine Ye ⟨_,rfl,k _ s1.heap.objs.size _ zs n pw b1 (b2.trans hp) b3 hn (fun b o e=>?_) hg gW oI⟩;have e1:=hk b o e;have lt:=Ym e1;show(sortedHeap (s1.heap.push (seqObj "list" (strValues l).toArray 0)) s1.heap.objs.size (strValues l) _).get? b=some o;rw[sortedHeap_old (Yo lt) (by rw[size_push'];exact YR lt)];exact Yd _ e1
def UP{a b c:List Nat}(h:a<b)(k:¬c<b):a<c:=by
 rcases Decidable.em (a<c)with g|g
 .exact g
 .exact absurd (List.lt_of_le_of_lt (List.not_lt.mp g) h) k
theorem F1:∀(l:List Str)(p:Str),risingS p l=true->∀x∈l,ltCps x.cps.toList p.cps.toList=false
 | [],p,_,x,hx=>by cases hx
 | y :: l,p,h,x,hx=>by
  have h':(!ltCps y.cps.toList p.cps.toList&&risingS y l)=true:=h
  rw[YQ,Bool.not_eq_true']at h'
  rcases Yp.mp hx with rfl|hx
  .exact h'.1
  .have h3:=F1 l y h'.2 x hx
   rw[ltCps_eq]at h3 h' ⊢
   simp only[zC]at h3 h' ⊢
   exact fun z=>h3 (UP z h'.1)
def UQ:∀ {l:List Str},risingS x l=true->sortedS l=true
 | [],_=>rfl
 | y :: l,h=>by
  have h':(!ltCps y.cps.toList x.cps.toList&&risingS y l)=true:=h
  rw[YQ]at h'
  exact h'.2
def jG(P:Program)(w:World)(a:Addr)(ks:List Str):HO:=.ext fun h=>cN P w h a ks
def F2(q:cN P w h a ks):dD P w H h a (jG P w a ks) :=
 ⟨q,let⟨o,_,_,_,e,_⟩:=q;⟨o,e⟩,fun h1 h2 ⟨o,es,ep,t,e,r⟩ k=>⟨o,es,ep,t,k o e,r⟩⟩
section
variable{X:Cx}
def Nt(P:Program)(w:World):List V->Hp->VK->Prop:=fun xs H Q=>xs=[]/\∀p,H p=none->Q (.ref p) (upd H p (jG P w p []))
def Nu:Z4 X (.type "set") (Nt X.prog X.w):=by
 intro pins s σ H xs us Q I r h;obtain⟨rfl,q⟩:=h;cases r;exact Uq ⟨.ref s.heap.objs.size,_,I.laid (t':=s.toks) (fun _ _ e=>Yd _ e) (Yk _) (F2 (Nc (Yl _ rfl))),rfl,q _ I.fresh⟩
def F3(P:Program)(w:World):List V->Hp->VK->Prop:=fun xs H Q=>∃l zs,xs=[.ref l]/\H l=some (.lst (zs.map V.str))/\zs.length+1<scanBound/\∀p,H p=none->Q (.ref p) (upd H p (jG P w p (ib zs zs.length)))
def Nv(hc:X.calm=true):Z4 X (.type "set") (F3 X.prog X.w):=by
 intro pins s σ H xs us Q I r h;obtain⟨l,zs,rfl,hl,hz,q⟩:=h;obtain⟨u,rfl,ru⟩:=r.one;cases ru;obtain⟨hle,its,n,rv,hlen,e⟩:=I.eh hl;rw[Yc]at hlen;obtain⟨tl,e1,e2⟩:=AV rv;subst e1;have hsz:(strValues tl).toArray.size=zs.length:=by rw[Ys,<- hlen]
 refine Us (I.ok.hd hc) (its:=(strValues tl).toArray) (zs:=zs) ⟨_,e,rfl,n,rfl⟩ (fun i v hv=>?_) hsz.symm (by rw[hsz];exact hz) fun h' tk ht hS hk=>⟨.ref s.heap.objs.size,_,I.laid (t':=tk) (fun b o z=>hk b o (Ym z) z) (Yk _) (F2 (by rw[hsz]at hS;exact hS)),rfl,q _ I.fresh⟩;rw[List.getElem?_toArray,strValues,Yj]at hv;obtain⟨p,hp,rfl⟩:=YM.mp hv;exact⟨p.1,p.2,by rw[<- e2,Yj,hp];rfl,rfl⟩
def UR(d:Drawn)(I:Inv X pins σ H s):Inv X pins σ H { s with drawn:=d }:=⟨I.ok,I.os,I.bare,I.base,I.loc,I.cell,I.free,I.bz,I.pin,I.aE,I.len⟩
theorem F4:∀ {vs:List Value} {zs:List Str},StrsAre vs zs->ZU (zs.map V.str) vs
 | _,_,.nil=>.nil
 | _,_,.cons y t h=>.cons ⟨t,rfl⟩ (F4 h)
def F5(P:Program)(w:World):List V->Hp->VK->Prop:=fun xs H Q=>∃a ks,xs=[.ref a]/\H a=some (jG P w a ks)/\ks.length<64/\∀D zs,H D=none->zs.Perm ks->sortedS zs=true->Q (.ref D) (upd H D (.lst (zs.map V.str)))
def F6(hc:X.calm=true):Z4 X (.builtin "sorted") (F5 X.prog X.w):=by
 intro pins s σ H xs us Q I r h;obtain⟨a,ks,rfl,ha,qK,q⟩:=h;obtain⟨u,rfl,ru⟩:=r.one;cases ru;have hS:cN X.prog X.w s.heap a ks:=(I.aE a _ ha).1;refine UO (I.ok.hd hc) hS qK fun s' D out zs n hD hv hp hs hd hk hg gW oI=>?_;obtain⟨h',g',d',FT,wY⟩:=s';cases(show g'=s.gens from hg);cases(show wY=s.os from gW);refine⟨.ref D,upd H D (.lst (zs.map V.str)),?_,rfl,q D zs (I.aE.fresh hD) hp hs⟩;have I2:=I.laid (a:=D) (o:=.lst (zs.map V.str)) (h':=h') (t':=FT) hk hD ⟨by rw[Yc,hp.length_eq];exact YB (lH qK) (by decide),out.toList,n,F4 hv,by rw[Array.toArray_toList];exact hd⟩;exact UR d' I2
variable{o e:Expr}{es:List Expr}{apos aM:Pos}{to:TE}{t:TA}
def Nw(P:Program)(w:World)(to:TE)(t:TA):TE:=fun σ H Q=>to σ H fun x H1=>∃a ks,x=.ref a/\H1 a=some (jG P w a ks)/\t σ H1 fun vs H2=>∃z gL,vs=[.str z]/\H2 a=some (jG P w a gL)/\gL.length+1<scanBound/\Q .ay (upd H2 a (jG P w a (fQ gL z)))
def Nx(ho:PE X o to)(ha:PA X (e::es) t)(h1:attributeBase o "add" X.env (eval o X.env)=eval o X.env:=by rfl)(h2:((backTo aM (starEach (e::es) X.env)).all (fun x=>!x.1)&&(backToKw aM (keywordEach [] X.env)).all (fun x=>x.1.isSome)&&decide ((e::es).length+([]:List Keyword).length+(if([]:List Keyword).isEmpty then 0 else 1)<30))=true:=by rfl)(h3:(apos.endLine==aM.line)=true:=by rfl)(h4:starEach (e::es) X.env=(false,eval e X.env)::starEach es X.env:=by rfl)(h5:(backTo aM (starEach es X.env)).any (·.1)=false:=by rfl):
  PE X (.Call (.Attribute o "add" apos) (e::es) [] aM) (Nw X.prog X.w to t):=by
 intro pins s σ H Q I h;refine wpAny_Call_method_late h1 h2 h3 rfl (aK (ho pins s σ H _ I h) fun v s1 aH=>?_);obtain⟨x,H1,I1,r1,a,ks,ex,sQ,q1⟩:=aH;subst ex;cases r1;have hS:cN X.prog X.w s1.heap a ks:=(I1.aE a _ sQ).1;refine⟨"set","set.add",F.plainAttrs_set,F.slot_set_add,F.type_set_add,hS.typeIs,fun b z=>?_,?_⟩
 .cases z;obtain⟨ob,_,_,_,eo,hx,_⟩:=hS;exact⟨ob,eo,hx.2.1⟩
 .have hA:=ha aM pins s1 σ H1 _ I1 q1;rw[h4]at hA ⊢;refine p9 (by show(false||(backTo aM (starEach es X.env)).any (·.1))=false;rw[h5]<;>rfl) (Calls.evalArgs_plain (aK hA fun us s2 aH=>?_));obtain⟨vs,H2,I2,r2,z,gL,ev,i4,hr,q2⟩:=aH;subst ev;obtain⟨u,rfl,ru⟩:=r2.one;obtain⟨tk,rfl⟩:=ru;have nR:cN X.prog X.w s2.heap a gL:=(I2.aE a _ i4).1;refine Up nR hr fun h' sb i7=>⟨.ay,_,?_,rfl,q2⟩;refine I2.write (x:=a) (e:=a) (by rw[i4];exact trivial) (.inl rfl) (fun b o hb ho=>(sb.2 b hb).trans ho) ?_ (F2 i7);obtain⟨ob,_,_,_,eo,_⟩:=i7;exact⟨ob,eo⟩
end
section
variable{K:au}{P:Program}{w:World}
def tS(P:Program)(w:World)(ks:List Str):AO:=.cZ fun _ H a=>H a=some (jG P w a ks)
def HR.set{A:aw}(g:HR K H A)(e:A a=some (tS P w ks)):H a=some (jG P w a ks):=(g a _ e).2.1
def Ny(e:H a=some (jG P w a ks)):RO K H a (tS P w ks):=⟨⟨_,e⟩,e,fun H1 H2 h1 _ h2=>h2.trans h1⟩
def HR.newSet{A:aw}(g:HR K H A)(e:H a=Option.none):HR K (upd H a (jG P w a ks)) (af A a (tS P w ks)):=g.dO (a_.az e).kp (Ny Zs)
def Nz(P:Program)(w:World):List U->aw->bc->Prop:=fun us A Q=>us=[]/\∀p,A p=none->Q (.ref p) (af A p (tS P w []))
def ZtZ:hG K (Nt P w) (Nz P w):=fun xs us A H Q' Q r g h k=>by
 obtain⟨rfl,q⟩:=h
 cases r
 exact⟨rfl,fun p hp=>k _ _ _ _ (a_.az hp).kp (g.newSet hp) (.ref p) (q p (g.none hp))⟩
def NA(P:Program)(w:World):List U->aw->bc->Prop:=fun us A Q=>∃l zs,us=[.ref l]/\A l=some (.lst (zs.map U.str))/\zs.length+1<scanBound/\∀p,A p=none->Q (.ref p) (af A p (tS P w (ib zs zs.length)))
def Zrd:hG K (F3 P w) (NA P w):=fun xs us A H Q' Q r g h k=>by
 obtain⟨l,zs,rfl,hl,hz,q⟩:=h
 obtain⟨v,rfl,rv⟩:=r.inv1
 cases rv
 obtain⟨vs,h1,r1⟩:=g.list hl
 exact⟨l,zs,rfl,by rw[h1,r1.strs],hz,fun p hp=>k _ _ _ _ (a_.az hp).kp (g.newSet hp) (.ref p) (q p (g.none hp))⟩
def NB(P:Program)(w:World):List U->aw->bc->Prop:=fun us A Q=>∃a ks,us=[.ref a]/\A a=some (tS P w ks)/\ks.length<64/\∀D zs,A D=none->zs.Perm ks->sortedS zs=true->Q (.ref D) (af A D (.lst (zs.map U.str)))
def ZfF:hG K (F5 P w) (NB P w):=fun xs us A H Q' Q r g h k=>by
 obtain⟨a,ks,rfl,ha,hz,q⟩:=h
 obtain⟨v,rfl,rv⟩:=r.inv1
 cases rv
 exact⟨a,ks,rfl,g.set ha,hz,fun D zs hD hp hs=>k _ _ _ _ (a_.az hD).kp (g.fj hD aJ.cY) (.ref D) (q D zs (g.none hD) hp hs)⟩
def NC(P:Program)(w:World)(ao:AE)(l:AA):AE:=fun ρ A Q=>ao ρ A fun x A1=>∃a ks,x=.ref a/\A1 a=some (tS P w ks)/\l ρ A1 fun us A2=>∃z gL,us=[.str z]/\A2 a=some (tS P w gL)/\gL.length+1<scanBound/\Q .ay (af A2 a (tS P w (fQ gL z)))
def ZnC{t:TA}(ho:aV K to ao)(hl:fk K t l):aV K (Nw P w to t) (NC P w ao l):=fun ρ A σ H Q' Q hs g wh k =>
 ho ρ A σ H _ _ hs g wh fun x A1 v1 H1 k1 g1 r1 aD=>by
  obtain⟨a,ks,e1,e2,q⟩:=aD
  subst e1
  cases r1
  refine⟨a,ks,rfl,g1.set e2,hl ρ A1 σ H1 _ _ (hs.same k1) g1 q fun us A2 vs H2 k2 g2 r2 aH=>?_⟩
  obtain⟨z,gL,e3,e4,hz,q2⟩:=aH
  subst e3
  obtain⟨v,rfl,rv⟩:=r2.inv1
  cases rv
  have h4:=g2.set e4
  have kp:Kp K H2 (upd H2 a (jG P w a (fQ gL z))):=Kp.ext h4
  exact⟨z,gL,rfl,h4,hz,k _ _ _ _ (k1.trans (k2.trans kp)) (g2.dO kp (Ny Zs)) .ay q2⟩
variable{A:aw}{Q:bc}
def ZvF:Nz P w [] A Q=∀p,A p=none->Q (.ref p) (af A p (tS P w [])):=propext ⟨fun h=>h.2,fun h=>⟨rfl,h⟩⟩
def ZvE:NA P w [.ref l] A Q=∃zs,A l=some (.lst (zs.map U.str))/\zs.length+1<scanBound/\∀p,A p=none->Q (.ref p) (af A p (tS P w (ib zs zs.length))):=propext ⟨fun aD=>by obtain⟨_,zs,e,h⟩:=aD;cases e;exact⟨zs,h⟩,fun⟨zs,h⟩=>⟨l,zs,rfl,h⟩⟩
def Zh7:NB P w [.ref a] A Q=∃ks,A a=some (tS P w ks)/\ks.length<64/\∀D zs,A D=none->zs.Perm ks->sortedS zs=true->Q (.ref D) (af A D (.lst (zs.map U.str))):=propext ⟨fun aD=>by obtain⟨_,ks,e,h⟩:=aD;cases e;exact⟨ks,h⟩,fun⟨ks,h⟩=>⟨a,ks,rfl,h⟩⟩
def ZlY:NC P w ao l ρ A Q=ao ρ A fun x A1=>∃a ks,x=.ref a/\A1 a=some (tS P w ks)/\l ρ A1 fun us A2=>∃z gL,us=[.str z]/\A2 a=some (tS P w gL)/\gL.length+1<scanBound/\Q .ay (af A2 a (tS P w (fQ gL z))):=rfl
end
def ND:List V->Hp->VK->Prop:=fun xs H Q=>∃a ys,xs=[.ref a,.ty "list"]/\H a=some (.lst ys)/\Q (.bl true) H
def US:Z4 X (.builtin "isinstance") ND:=by
 intro pins s σ H xs us Q I r h;obtain⟨a,ys,rfl,hH,q⟩:=h;obtain⟨u,v,rfl,ru,rv⟩:=r.two;cases ru;cases(show v=Value.type "list" from rv);obtain⟨z,its,n,rr,hl,e⟩:=I.eh hH;exact Y5 Cv I.br ⟨_,e,rfl⟩ (b:=true) (by unfold PySem.W.kitOne;rw[if_pos (by decide)]) (fun z=>nomatch z) fun tk=>⟨.bl true,H,I.tok _,rfl,q⟩
section
variable{K:au}
def NF:List U->aw->bc->Prop:=fun us A Q=>∃a ys,us=[.ref a,.ty "list"]/\A a=some (.lst ys)/\Q (.bl true) A
def Zsx:hG K ND NF:=fun xs us A H Q' Q r g h k=>by
 obtain⟨a,ys,rfl,e,q⟩:=h
 cases r with
 | cons r1 r=>cases r with
  | cons r2 r =>
   cases r;cases r1;cases r2
   obtain⟨vs,h1,_⟩:=g.list e
   exact⟨a,vs,rfl,h1,k _ _ _ _ (.refl H) g (.bl true) q⟩
variable{A:aw}{Q:bc}
def Zpa:NF [.ref a,.ty "list"] A Q=∃ys,A a=some (.lst ys)/\Q (.bl true) A:=propext ⟨fun aD=>by obtain⟨_,ys,e,h⟩:=aD;cases e;exact⟨ys,h⟩,fun⟨ys,h⟩=>⟨a,ys,rfl,h⟩⟩
end
def Rl.bb:Rl->List Str
 | .nothing=>[]
 | .bead _=>[]
 | .named c=>[c]
 | .or x y=>x.bb++y.bb
 | .bh x y=>x.bb++y.bb
 | .hold _ x=>x.bb
def Rl.kids:Rl->List Rl
 | .or x y=>[x,y]
 | .bh x y=>[x,y]
 | .hold _ x=>[x]
 | _=>[]
theorem Rl.bL:∀r:Rl,r.bb.length<=r.size
 | .nothing=>by simp[Rl.bb]
 | .bead _=>by simp[Rl.bb]
 | .named _=>by simp[Rl.bb,Rl.size]
 | .or x y=>by have:=x.bL;have:=y.bL;simp only[Rl.bb,Rl.size,Yq];lia
 | .bh x y=>by have:=x.bL;have:=y.bL;simp only[Rl.bb,Rl.size,Yq];lia
 | .hold _ x=>by have:=x.bL;simp only[Rl.bb,Rl.size];lia
def Rl.ie{r:Rl}(h:r.ci≠2):r.bb=(r.kids.map Rl.bb).flatten:=by cases r<;>simp_all [Rl.bb,Rl.kids,Rl.ci]
theorem Rl.ck{r x:Rl}(h:x∈r.kids):x.dep+1<=r.dep/\x.size+1<=r.size:=by
 cases r<;>simp only[Rl.kids,Yp,YN,fH]at h<;>simp only[Rl.dep,Rl.size]
 .rcases h with rfl|rfl<;>lia
 .rcases h with rfl|rfl<;>lia
 .subst h;lia
def ig(cs:Nat->Addr)(A:aw):List Addr->List Rl->Prop
 | [],[]=>True
 | a::as,r::rs=>bZ cs A a r/\ig cs A as rs
 | _,_=>False
theorem ig.ext{A A':aw}(e:Ext A A'):∀ {as:List Addr} {rs:List Rl},ig cs A as rs->ig cs A' as rs
 | [],[],_=>trivial
 | _::_,_::_,h=>⟨h.1.ext e,h.2.ext e⟩
theorem ig.get{A:aw}:∀ {as:List Addr} {rs:List Rl} {k:Nat} {a:Addr},ig cs A as rs->as[k]? = some a->∃r,rs[k]? = some r/\bZ cs A a r
 | a::as,r::rs,0,b,h,e=>by simp at e;subst e;exact⟨r,rfl,h.1⟩
 | a::as,r::rs,k+1,b,h,e=>ig.get (k:=k) h.2 e
theorem ig.len{A:aw}:∀ {as:List Addr} {rs:List Rl},ig cs A as rs->as.length=rs.length
 | [],[],_=>rfl
 | _::_,_::_,h=>congrArg (·+1) h.2.len
structure BB (r:Rl) (zs:List Str):Prop where
 so:sortedS zs=true
 nd:zs.Nodup
 mem:∀z,z∈zs↔z∈r.bb
 len:zs.length<=r.bb.length
def NG:x∈fQ ks z↔x∈ks\/x=z:=by
 unfold fQ;split
 .rename_i h;exact⟨.inl,fun q=>q.elim id fun e=>e▸h⟩
 .simp
def NH(h:ks.Nodup):(fQ ks z).Nodup:=by
 unfold fQ;split
 .exact h
 .rename_i g;rw[List.nodup_append];exact⟨h,by simp,fun a ha b hb e=>g (by rw[Yn.mp hb]at e;exact e▸ha)⟩
theorem F7(zs:List Str):∀i,i<=zs.length->(ib zs i).Nodup/\∀x,x∈ib zs i↔x∈zs.take i
 | 0,_=>by simp[ib]
 | i+1,h=>by
  obtain⟨h1,h2⟩:=F7 zs i (by lia)
  have e:zs[i]? = some (zs[i]'(by lia)):=Yh (by lia)
  rw[Ng e]
  refine⟨NH h1,fun x=>?_⟩
  rw[NG,h2,List.take_succ_eq_append_getElem (by lia),Yv,Yn]
theorem NI:∀ {a b:List Str},a.Nodup->b.Nodup->(∀z,z∈a↔z∈b)->a.Perm b
 | [],b,_,_,h=>by
  cases b with
  | nil=>exact .nil
  | cons y b=>exact absurd ((h y).mpr m_) (by simp)
 | x :: a,b,ha,hb,h=>by
  have hx:x∈b:=(h x).mp m_
  rw[jV]at ha
  have p1:=List.perm_cons_erase hx
  refine((NI ha.2 (hb.erase x) fun z=>?_).cons x).trans p1.symm
  rw[hb.mem_erase_iff]
  constructor
  .exact fun hz=>⟨fun e=>ha.1 (e▸hz),(h z).mp (m9 _ hz)⟩
  .rintro⟨yd,UT⟩
   exact(Yp.mp ((h z).mpr UT)).resolve_left yd
open PySem PySem.Spec PySem.W PyProof.Rows
section
variable{K:au}
open Classical in
def yt (h:Heap) (d:PyData) (y:Value):Bool:=if q:∃ e as,Reads h y e as then PyData.eqv q.choose d else false
def NJ(r:Reads h y e as):yt h d y=PyData.eqv e d:=by
 have q:∃e as,Reads h y e as:=⟨e,as,r⟩;unfold yt;rw[dif_pos q];obtain⟨bs,r2⟩:=q.choose_spec;rw[(reads_det (fun _ _ z _=>z) r r2).1]
end
def NK(neg:Bool)(K:au):R2:=fun x y H Q=>∃(l:Addr)(vs:List V)(ds:List PyData)(d:PyData),y=.ref l/\H l=some (.lst vs)/\gH K H ds vs/\Rep K H d x/\(∀e∈ds,e.canLay0=true/\e.depth<=190)/\d.canLay0=true/\Q (.bl (if neg then !ds.any (fun e=>PyData.eqv e d)else ds.any fun e=>PyData.eqv e d)) H
def UU:∀(its:List Value)(ds:List PyData),its.length=ds.length->(∀(i:Nat)(y:Value),its[i]? = some y->∃e as,ds[i]? = some e/\Reads h y e as)->its.any (yt h d)=ds.any fun e=>PyData.eqv e d:=by
 intro its;induction its with
 | nil=>intro ds hl _;cases ds with|nil=>rfl|cons _ _=>simp at hl
 | cons y ys ih =>
  intro ds hl ho;cases ds with
  | nil=>simp at hl
  | cons e es =>
   obtain⟨e',as,h1,ra⟩:=ho 0 y rfl;simp at h1;subst h1;rw[List.any_cons,List.any_cons,NJ ra,ih es (by simpa using hl) fun i y' hy=>ho (i+1) y' (by simpa using hy)]
section
variable{X:Cx}{pins:List (Addr×Obj)}{σ:St}{H:Hp}{s:Shared}
theorem UW(hr:bW (k+1) X.A)(I:Inv X pins σ H s)(rx:aX x v)(hH:H l=some (.lst vs))(lU:gH X.K H ds vs)(hd:Rep X.K H d x)(ho:∀e∈ds,e.canLay0=true/\e.depth<=190)(F8:d.canLay0=true):
  ∃its:List Value,s.heap.IsList l its.toArray/\(∀y,y∈its.toArray->SeqAt.EqAt X.A.in1 s y v (yt s.heap d y))/\its.toArray.any (yt s.heap d)=ds.any fun e=>PyData.eqv e d:=by
 obtain⟨z,its,n,r,hl,e⟩:=I.eh hH;obtain⟨bs,rb⟩:=Rep.reads I hd rx;have hun:=hr.un;have one:∀ {i:Nat} {y:Value},its[i]? = some y->∃e as,ds[i]? = some e/\Reads s.heap y e as:=by
  intro i y hy;obtain⟨w,hw,rel⟩:=Lo r hy;obtain⟨e,h1,h2⟩:=lU.at hw;obtain⟨as,ra⟩:=Rep.reads I h2 rel;exact⟨e,as,h1,ra⟩
 refine⟨its,⟨_,e,rfl,_,rfl⟩,fun y hy=>?_,?_⟩
 .have u3:y∈its:=by simpa using hy
  obtain⟨i,hi⟩:=Ir.mp u3;obtain⟨e1,as,h1,ra⟩:=one hi;have hm:=ho e1 (Yi h1);rw[NJ ra];exact SeqAt.eqAt_reads e1 d _ s _ _ _ _ ra rb hm.1 F8 (by show X.A.units+1+_<cLine;have:=hm.2;lia)
 .rw[List.any_toArray];exact UU its ds (by rw[<- r.length,lU.len]) fun i y=>one
def UX(hr:bW (k+1) X.A):a8 X (compareOp .In) (NK false X.K):=by
 intro pins s σ H x y v u Q I rx ry h;obtain⟨l,vs,ds,d,rfl,hH,lU,hd,ho,F8,q⟩:=h;cases ry;obtain⟨its,h1,h2,h3⟩:=UW hr I rx hH lU hd ho F8;refine SeqAt.in_listAt _ h1 h2 ?_;rw[h3];exact⟨.bl _,H,I,rfl,q⟩
end
section
variable{K:au}
def F9(neg:Bool):fo:=fun w u A Q=>match u with
 | .ref l=>∃(xs:List U)(ds:List PyData)(d:PyData),A l=some (.lst xs)/\hX A xs ds/\DU A w d/\(∀e∈ds,e.canLay0=true/\e.depth<=190)/\d.canLay0=true/\Q (.bl (if neg then !ds.any (fun e=>PyData.eqv e d)else ds.any fun e=>PyData.eqv e d)) A
 | _=>False
def ZmZ:ei K (NK neg K) (F9 neg):=fun x y u w A H Q' Q hu hw g h k=>by
 unfold F9 at h
 split at h
 .cases hw
  obtain⟨zs,ds,d,e,h1,h2,h3,h4,q⟩:=h
  obtain⟨vs,hH,r1⟩:=g.list e
  exact⟨_,vs,ds,d,rfl,hH,hX.mq g h1 r1,DU.rep g h2 hu,h3,h4,k _ _ _ _ (.refl H) g (.bl _) q⟩
 .exact h.elim
end
section
variable{X:Cx}(P:Program)(w:World)(hP:X.prog=P)(hw:X.w=w)
include hP hw
def UY(hc:X.calm=true):Z4 X (.type "set") (F3 P w):=by subst hP hw;exact Nv hc
def UZ(hc:X.calm=true):Z4 X (.builtin "sorted") (F5 P w):=by subst hP hw;exact F6 hc
end
def ZmW{bx:List (Str×Nat)}{A:aw}:Mp P w nt bx wi g tt tk tv ρ A Q=wi ρ A fun J A1=>∀l,A1 l=none->Bd P w J g tt tk tv l Q (aCompStart nt bx ρ) (af A1 l (dS P w 0 [])):=rfl
section
variable{α:Type}[DecidableEq α]
theorem Z2:∀ {l m:List α},l.Nodup->(∀y∈l,y∈m)->l.length<=m.length
 | [],m,_,_=>Y9 _
 | a :: l,m,nd,h=>by
  rw[jV]at nd
  have ha:a∈m:=h a (m_ ..)
  have:=Z2 (m:=m.erase a) nd.2 fun y hy=>(List.mem_erase_of_ne (fun e=>nd.1 (by rw[<- e];exact hy))).mpr (h y (m9 _ hy))
  rw[List.length_erase_of_mem ha]at this
  have:0<m.length:=List.length_pos_of_mem ha
  simp only[List.length_cons];lia
variable{r:α->α->Prop}{stp:α->List α}{w x o:α}{all d ini:List α}{s:List α×List α}
end
abbrev On:=Option Nat
def mC:On->On->On
 | none,y=>y
 | x,none=>x
 | some a,some b=>some (min a b)
def vI:On->On->On
 | some a,some b=>some (a+b)
 | _,_=>none
def dq(x y:On):Prop:=∀b,y=some b->∃a,x=some a/\a<=b
def sY(x:On):dq x x:=fun b h=>⟨b,h,Yk b⟩
def vJ(h:dq x y)(k:dq y z):dq x z:=fun c hc=>by
 obtain⟨b,hb,l⟩:=k c hc
 obtain⟨a,ha,m⟩:=h b hb
 exact⟨a,ha,YB m l⟩
def BC(h:dq x y)(k:dq y x):x=y:=by
 cases x with
 | none=>cases y with
  | none=>rfl
  | some b=>obtain⟨a,e,_⟩:=h b rfl;cases e
 | some a =>
  obtain⟨b,e,l⟩:=k a rfl;obtain⟨a',e',l'⟩:=h b e;cases e';rw[e,Nat.le_antisymm l' l]
def F_(x:On):dq x none:=fun _ h=>nomatch h
def F'(x y:On):dq (mC x y) x:=fun b h=>by
 subst h
 cases y with
 | none=>exact⟨b,rfl,Yk _⟩
 | some c=>exact⟨_,rfl,CB _ _⟩
def Ga(x y:On):dq (mC x y) y:=fun b h=>by
 subst h
 cases x with
 | none=>exact⟨b,rfl,Yk _⟩
 | some c=>exact⟨_,rfl,Nat.min_le_right _ _⟩
def NL(h:dq z x)(k:dq z y):dq z (mC x y):=fun b e=>by
 cases x with
 | none=>exact k b e
 | some a=>cases y with
  | none=>exact h b e
  | some c =>
   cases e
   rcases Nat.le_total a c with l|l
   .rw[rB l];exact h a rfl
   .rw[Nat.min_eq_right l];exact k c rfl
def ij(h:mC x y=some b):x=some b\/y=some b:=by
 cases x with
 | none=>exact .inr h
 | some a=>cases y with
  | none=>exact .inl h
  | some c =>
   injection h with h
   rcases Nat.le_total a c with l|l
   .rw[rB l]at h;exact .inl (by rw[h])
   .rw[Nat.min_eq_right l]at h;exact .inr (by rw[h])
def NM(h:vI x y=some b):∃a c,x=some a/\y=some c/\a+c=b:=by
 cases x with
 | none=>cases h
 | some a=>cases y with
  | none=>cases h
  | some c=>exact⟨a,c,rfl,rfl,by injection h⟩
def Rl.lst(e:Str->On):Rl->On
 | .nothing=>some 0
 | .bead _=>some 1
 | .named z=>e z
 | .or x y=>mC (x.lst e) (y.lst e)
 | .bh x y=>vI (x.lst e) (y.lst e)
 | .hold k x=>if k<3 then some 0 else x.lst e
theorem Rl.cm(h:∀z,dq (e z) (f z))(r:Rl):dq (r.lst e) (r.lst f):=by
 induction r with
 | nothing=>exact sY _
 | bead c=>exact sY _
 | named z=>exact h z
 | or x y i j=>exact NL (vJ (F' _ _) i) (vJ (Ga _ _) j)
 | bh x y i j =>
  intro b hb;obtain⟨a,c,e1,e2,l⟩:=NM hb;obtain⟨a',e3,l3⟩:=i a e1;obtain⟨c',e4,l4⟩:=j c e2;exact⟨a'+c',by simp only[Rl.lst,e3,e4,vI],by lia⟩
 | hold k x i =>
  simp only[Rl.lst];split
  .exact sY _
  .exact i
theorem Rl.pA(h:∀z,dq (e z) (f z)):∀ {r:Rl} {b:Nat},r.lst e=some b->r.lst e≠r.lst f->∃z a,e z=some a/\a<=b/\e z≠f z:=by
 intro r;induction r with
 | nothing=>intro b _ n;exact(n rfl).elim
 | bead c=>intro b _ n;exact(n rfl).elim
 | named z=>intro b hb n;exact⟨z,b,hb,Yk b,n⟩
 | or x y i j =>
  intro b hb n;by_cases hx:x.lst e=x.lst f
  .by_cases hy:y.lst e=y.lst f
   .exact(n (by simp only[Rl.lst,hx,hy])).elim
   .rcases ij hb with h1|h1
    .exfalso;refine n (BC ((Rl.or x y).cm h) ?_);show dq (mC (x.lst f) (y.lst f)) ((Rl.or x y).lst e);rw[hb,<- h1,hx];exact F' _ _
    .exact j h1 hy
  .rcases ij hb with h1|h1
   .exact i h1 hx
   .by_cases hy:y.lst e=y.lst f
    .exfalso;refine n (BC ((Rl.or x y).cm h) ?_);show dq (mC (x.lst f) (y.lst f)) ((Rl.or x y).lst e);rw[hb,<- h1,hy];exact Ga _ _
    .exact j h1 hy
 | bh x y i j =>
  intro b hb n;obtain⟨a,c,e1,e2,l⟩:=NM hb;by_cases hx:x.lst e=x.lst f
  .by_cases hy:y.lst e=y.lst f
   .exact(n (by simp only[Rl.lst,hx,hy])).elim
   .obtain⟨z,d,g1,g2,g3⟩:=j e2 hy;exact⟨z,d,g1,by lia,g3⟩
  .obtain⟨z,d,g1,g2,g3⟩:=i e1 hx;exact⟨z,d,g1,by lia,g3⟩
 | hold k x i =>
  intro b hb n;simp only[Rl.lst]at hb n;split at hb
  .rename_i hk;simp[hk]at n
  .rename_i hk;simp only[hk,fW]at n;exact i hb n
def lv(F:Str->Option Rl):Nat->Str->On
 | 0,_=>none
 | t+1,z=>match F z with
  | some r=>r.lst (lv F t)
  | none=>none
theorem yu(F:Str->Option Rl):∀t z,dq (lv F (t+1) z) (lv F t z)
 | 0,z=>F_ _
 | t+1,z=>by
  show dq (match F z with|some r=>r.lst (lv F (t+1))|none=>none) (match F z with|some r=>r.lst (lv F t)|none=>none)
  cases F z with
  | none=>exact sY _
  | some r=>exact r.cm (yu F t)
def U0(F:Str->Option Rl)(z:Str):∀t,i<=t->dq (lv F t z) (lv F i z):=fun t h=>by
 induction h with
 | refl=>exact sY _
 | step _ ih=>exact vJ (yu F _ z) ih
theorem U1(F:Str->Option Rl):∀t z b,lv F (t+1) z=some b->lv F (t+1) z≠lv F t z->∃l:List Str,l.length=t+1/\l.Nodup/\∀y∈l,(∃r,F y=some r)/\∃i a,i<=t/\a<=b/\lv F (i+1) y=some a:=by
 intro t;induction t with
 | zero =>
  intro z b hb n;refine⟨[z],rfl,by simp,fun y hy=>?_⟩;rw[Yn.mp hy];refine⟨?_,0,b,Yk _,Yk _,hb⟩;cases h:F z with
  | some r=>exact⟨r,rfl⟩
  | none=>simp only[lv,h]at hb;cases hb
 | succ t ih =>
  intro z b hb n;cases h:F z with
  | none=>simp only[lv,h]at hb;cases hb
  | some r =>
   have e1:∀s,lv F (s+1) z=r.lst (lv F s):=fun s=>by simp only[lv,h]
   have nM:=hb;have n':=n;rw[e1]at nM n';rw[e1]at n';obtain⟨y,a,g1,g2,g3⟩:=Rl.pA (yu F t) nM n';obtain⟨l,l1,l2,l3⟩:=ih y a g1 g3;refine⟨z::l,by simp[l1],jV.mpr ⟨fun hz=>?_,l2⟩,fun x hx=>?_⟩
   .obtain⟨_,i,c,hi,hc,hv⟩:=l3 z hz;have h1:=U0 F (i:=i+1) z (t+1) (by lia);obtain⟨d,hd,fb⟩:=h1 c hv;refine n (BC (yu F (t+1) z) ?_);rw[hb,hd];intro q e;cases e;exact⟨d,rfl,by lia⟩
   .rcases Yp.mp hx with rfl|hx
    .exact⟨⟨r,h⟩,t+1,b,Yk _,Yk _,hb⟩
    .obtain⟨q,i,c,hi,hc,hv⟩:=l3 x hx;exact⟨q,i,c,by lia,by lia,hv⟩
theorem Gb(F:Str->Option Rl){ns:List Str}(h:∀z r,F z=some r->z∈ns)(z:Str):lv F (ns.length+1) z=lv F ns.length z:=by
 refine Classical.byContradiction fun n=>?_;cases hb:lv F (ns.length+1) z with
 | none =>
  have:=yu F ns.length z;rw[hb]at this n;cases hc:lv F ns.length z with
  | none=>exact n hc.symm
  | some b=>obtain⟨a,e,_⟩:=this b hc;cases e
 | some b =>
  obtain⟨l,l1,l2,l3⟩:=U1 F ns.length z b hb n;have:=Z2 l2 (m:=ns) fun y hy=>by obtain⟨⟨r,e⟩,_⟩:=l3 y hy;exact h y r e
  lia
theorem NN{t:Nat}(h:∀z,lv F (t+1) z=lv F t z):∀s,lv F (t+s)=lv F t
 | 0=>rfl
 | s+1=>by
  funext z
  have ih:=NN h s
  show lv F (t+s+1) z=_
  rw[<- h z]
  simp only[lv,ih]
def lV(F:Str->Option Rl)(n:Nat):Str->On:=lv F n
def U2{ns:List Str}(h:∀z r,F z=some r->z∈ns)(hz:F z=some r):r.lst (lV F ns.length)=lV F ns.length z:=by
 have:=Gb F h z;simp only[lv,hz]at this;exact this
def U3{ns:List Str}(h:∀z r,F z=some r->z∈ns){t:Nat}(ht:t<=ns.length)(e:∀z,lv F (t+1) z=lv F t z):lv F t=lV F ns.length:=by
 have:=NN e (ns.length-t);rw[Nat.add_sub_cancel' ht]at this;exact this.symm
def lr(A:aw)(f:Addr):aw:=fun x=>if x=f then none else A x
def vK{A:aw}:lr A f f=none:=if_pos rfl
def pB{A:aw}(h:x≠f):lr A f x=A x:=if_neg h
def vL{A:aw}{o:AO}:af (lr A f) f o=af A f o:=by
 funext x;by_cases e:x=f
 .rw[e,Zb,Zb]
 .rw[Zi e,Zi e,pB e]
def NO{A:aw}{o:AO}(h:A f=some o):af (lr A f) f o=A:=by
 funext x;by_cases e:x=f
 .rw[e,Zb,h]
 .rw[Zi e,pB e]
def vM{B A:aw}(e:Ext B A)(h:B f=none):Ext B (lr A f):=fun x o q=>by
 rw[pB (fun z=>by rw[z,h]at q;cases q)]
 exact e x o q
def iO{A B:aw}(e:Ext A B)(h:B x=none):A x=none:=by
 cases q:A x with
 | none=>rfl
 | some o=>rw[e x o q]at h;cases h
section
variable{J:dk}{g:AG}{tt:AT}{te tk tv:AE}{l:Addr}{Q:bc}{τ:aQ}{A:aw}
def yw(items:List U)(p:Nat->Bool)(f:Nat->U)(T:aQ->Prop)(h0:T τ)(hl:A l=none)(hn:items.length<=100000)(hJ:∀ k A2,k<=items.length->Ext A A2->J k A2 items[k]?)(hs : ∀ k u τ A2,items[k]? = some u->T τ->Ext A A2->∀ (Cy:aQ->U->aw->Prop) (Cn:aQ->aw->Prop),(p k=true->∀ aR A3,T aR->Ext A2 A3->Cy aR (f k) A3)->(p k=false->∀ aR A3,T aR->Ext A2 A3->Cn aR A3) ->
   g u τ A2 fun aR A3=>tt aR A3 fun ok A4=>if ok=true then te aR A4 (Cy aR)else Cn aR A4)(hd:∀B,Ext A B->B l=none->Q (.ref l) (af B l (.lst (((List.range items.length).filter p).map f)))):nH J g tt te l Q τ (af A l (.lst [])):=by
 refine⟨fun i m τ A2=>m=items.length-i/\i<=items.length/\T τ/\∃B,Ext A B/\B l=none/\A2=af B l (.lst (((List.range i).filter p).map f)),⟨_,rfl,Y9 _,h0,A,Ext.refl A,hl,rfl⟩,?_⟩;rintro i m τ A2 ⟨rfl,hi,ht,B,eB,hB,rfl⟩;have e2:Ext A (af B l (.lst (((List.range i).filter p).map f))):=eB.trans (Ext.new hB);have j:=hJ i _ hi e2;by_cases bq:i<items.length
 .have hu:items[i]? = some items[i]:=Yh bq;rw[hu]at j;refine .inr ⟨_,j,hs i _ τ _ hu ht e2 _ _ (fun hp aR A3 kf e3=>⟨_,e3 _ _ Zb,?_,_,?_,rfl,bq,kf,lr A3 l,vM (e2.trans e3) hl,vK,?_⟩) (fun hp aR A3 kf e3=>⟨_,?_,rfl,bq,kf,lr A3 l,vM (e2.trans e3) hl,vK,?_⟩)⟩
  .have:(((List.range i).filter p).map f).length<=i:=by rw[Yc];exact YB (List.length_filter_le ..) (by simp)
   have:(100000:Nat)<sizeLine:=by decide
   lia
  .lia
  .rw[vL,List.range_succ,zG,Yt];simp[hp]
  .lia
  .rw[vL,List.range_succ,zG,Yt];simp only[hp,List.filter_cons,List.filter_nil,kM,fW,Ya4,YW];exact((vL (A:=A3)).symm.trans (NO (e3 _ _ Zb))).symm
 .have e:i=items.length:=by lia
  subst e;rw[Y3 (Yk _)]at j;exact .inl ⟨j,hd B eB hB⟩
theorem Gd(items:List U)(W:Nat->U->aw->Prop)(T:aQ->Prop)(h0:T τ)(hl:A l=none)(hn:items.length<=100000)(hJ:∀k A2,k<=items.length->Ext A A2->J k A2 items[k]?)(hW:∀k v A1 B,(A1 l=none\/∃ys,A1 l=some (.lst ys))->(∀x o,x≠l->A1 x=some o->B x=some o)->W k v A1->W k v B)(hs:∀k u τ A2,items[k]? = some u->T τ->Ext A A2->∀Cy:aQ->U->aw->Prop,(∀aR v A3,T aR->Ext A2 A3->W k v A3->Cy aR v A3)->g u τ A2 fun aR A3=>te aR A3 (Cy aR))(hd:∀B ys,Ext A B->B l=none->ys.length=items.length->(∀k y,ys[k]? = some y->W k y B)->Q (.ref l) (af B l (.lst ys))):nH J g qq te l Q τ (af A l (.lst [])):=by
 refine⟨fun i m τ A2=>m=items.length-i/\i<=items.length/\T τ/\∃B ys,Ext A B/\B l=none/\ys.length=i/\(∀k y,ys[k]? = some y->W k y B)/\A2=af B l (.lst ys),⟨_,rfl,Y9 _,h0,A,[],Ext.refl A,hl,rfl,fun k y h=>by simp at h,rfl⟩,?_⟩;rintro i m τ A2 ⟨rfl,hi,ht,B,ys,eB,hB,hy,hw,rfl⟩;have e2:Ext A (af B l (.lst ys)):=eB.trans (Ext.new hB);have j:=hJ i _ hi e2;by_cases bq:i<items.length
 .have hu:items[i]? = some items[i]:=Yh bq;rw[hu]at j;refine .inr ⟨_,j,hs i _ τ _ hu ht e2 _ fun aR v A3 kf e3 w3=>⟨ys,e3 _ _ Zb,?_,items.length-(i+1),by lia,rfl,bq,kf,lr A3 l,ys++[v],vM (e2.trans e3) hl,vK,by simp[hy],fun k y hk=>?_,vL.symm⟩⟩
  .have:(100000:Nat)<sizeLine:=by decide
   lia
  .by_cases mD:k<ys.length
   .rw[Y6 mD]at hk;exact hW k y B _ (.inl hB) (fun x o hx q=>by rw[pB hx];exact e3 _ _ (by rw[Zi hx];exact q)) (hw k y hk)
   .rw[YZ (by lia)]at hk;obtain⟨h1,h2⟩:=Yg.mp hk;have sj:k=i:=by simp at h1;lia
    subst sj;simp only[hy,uO,List.getElem_cons_zero]at h2;subst h2;exact hW k v A3 _ (.inr ⟨ys,e3 _ _ Zb⟩) (fun x o hx q=>by rw[pB hx];exact q) w3
 .have e:i=items.length:=by lia
  subst e;rw[Y3 (Yk _)]at j;exact .inl ⟨j,hd B ys eB hB hy hw⟩
theorem lu:∀ {kus:List (Str×U)},k∉kus.map (·.1)->a7 k u kus=kus++[(k,u)]
 | [],_=>rfl
 | (a,b)::r,h=>by
  rw[Yr,Yp,not_or]at h
  show(if a=k then(a,u)::r else(a,b)::a7 k u r)=_
  rw[if_neg (Ne.symm h.1),lu h.2]
  rfl
theorem lx{α β:Type}:∀ {xs:List α} {ys:List β},xs.length=ys.length->(xs.zip ys).map (·.1)=xs
 | [],[],_=>rfl
 | x::xs,y::ys,h=>by rw[List.zip_cons_cons,Yr,lx (by simpa using h)]
theorem yx(items:List U)(keys:List Str)(hk:keys.length=items.length)(nd:keys.Nodup)(W:Nat->U->aw->Prop)(T:aQ->Prop)(h0:T τ)(hl:A l=none)(hn:items.length<=1000)(hJ:∀k A2,k<=items.length->Ext A A2->J k A2 items[k]?)(hW:∀k v A1 B,(A1 l=none\/∃ep kus,A1 l=some (dS P w ep kus))->(∀x o,x≠l->A1 x=some o->B x=some o)->W k v A1->W k v B)(hs:∀k u z τ A2,items[k]? = some u->keys[k]? = some z->T τ->Ext A A2->∀Cy:aQ->U->U->aw->Prop,(∀aR v A3,T aR->Ext A2 A3->W k v A3->Cy aR (.str z) v A3)->g u τ A2 fun aR A3=>tk aR A3 fun y A4=>tv aR A4 (Cy aR y))(hd:∀B vs ep,Ext A B->B l=none->vs.length=items.length->(∀k y,vs[k]? = some y->W k y B)->Q (.ref l) (af B l (dS P w ep (keys.zip vs)))):Bd P w J g qq tk tv l Q τ (af A l (dS P w 0 [])):=by
 refine S1 items T h0 (fun i A2=>∃B vs ep,Ext A B/\B l=none/\vs.length=i/\(∀k y,vs[k]? = some y->W k y B)/\A2=af B l (dS P w ep ((keys.take i).zip vs))) ⟨A,[],0,Ext.refl A,hl,rfl,fun k y h=>by simp at h,rfl⟩ (fun k A2 h1 ⟨B,vs,ep,eB,hB,_,_,e⟩=>hJ k A2 h1 (by rw[e];exact eB.trans (Ext.new hB))) ?_ ?_
 .rintro i u τ A2 hu ht ⟨B,vs,ep,eB,hB,hv,hw,rfl⟩ Cy hC;have hi:i<keys.length:=by rw[hk];exact(Yg.mp hu).1
  have hz:keys[i]? = some keys[i]:=Yh hi;have e2:Ext A (af B l (dS P w ep ((keys.take i).zip vs))):=eB.trans (Ext.new hB);have hlen:(keys.take i).length=vs.length:=by rw[YD];lia
  refine hs i u keys[i] τ _ hu hz ht e2 _ fun aR v A3 kf e3 w3=>hC aR _ v A3 ep _ kf (e3 _ _ Zb) ?_ fun aF=>⟨lr A3 l,vs++[v],aF,vM (e2.trans e3) hl,vK,by simp[hv],fun k y hk=>?_,?_⟩
  .rw[List.length_zip,hlen,Nat.min_self,hv,Y2];lia
  .by_cases mD:k<vs.length
   .rw[Y6 mD]at hk;exact hW k y B _ (.inl hB) (fun x o hx q=>by rw[pB hx];exact e3 _ _ (by rw[Zi hx];exact q)) (hw k y hk)
   .rw[YZ (by lia)]at hk;obtain⟨h1,h2⟩:=Yg.mp hk;have sj:k=i:=by simp at h1;lia
    subst sj;simp only[hv,uO,List.getElem_cons_zero]at h2;subst h2;exact hW k v A3 _ (.inr ⟨_,_,e3 _ _ Zb⟩) (fun x o hx q=>by rw[pB hx];exact q) w3
  .rw[vL,lu,List.take_succ_eq_append_getElem hi,List.zip_append hlen]
   .rfl
   .rw[lx hlen];intro hm;obtain⟨j,hj,e⟩:=p_.mp hm;rw[YD]at hj;rw[List.getElem_take]at e;have:=Z7 nd (i:=j) (j:=i) (Yh (by lia)) (by rw[hz,e]);lia
 .rintro A2 ⟨B,vs,ep,eB,hB,hv,hw,rfl⟩;rw[<- hk,YV];exact hd B vs ep eB hB hv hw
end
theorem NP(hc:X.calm=true):Z4 X (.builtin "any") (fun xs H Q=>∃(p:Addr)(bs:List Bool),xs=[.ref p]/\aZ X.K H p (bs.map V.bl)/\Q (.bl (bs.any id)) H):=by
 intro pins s σ H xs us Q I r h;obtain⟨p,bs,rfl,hl,q⟩:=h;obtain⟨u,rfl,ru⟩:=r.one;cases ru;obtain⟨its,rv,pl,hz⟩:=I.list hl;have hlen:its.toArray.size=bs.length:=by have:=rv.length;simp at this;simp;lia
 refine call_any_walk (uL pl.isList ?_);have aT:p≠s.heap.objs.size:=Yo (by obtain⟨o,n,e,_⟩:=pl;exact Ym e);refine⟨s.heap.objs.size,_,_,_,_,_,fun i=>bs.getD i false,rfl,wG (show X.A.in1.handled=none from I.ok.hd hc) s.heap.objs.size p aT its.toArray,⟨⟨_,Yl _ rfl,rfl,rfl⟩,pl.isList.at fun o e=>Yd _ e⟩,fun i v s' Q' E' hv Ge=>?_,fun h' tk hk=>?_⟩
 .have jY:its[i]? = some v:=by simpa using hv
  have hi:i<bs.length:=by rw[<- hlen];simpa using(Yg.mp jY).1
  obtain⟨u,hu,ru⟩:=rv.get (show(bs.map V.bl)[i]? = some (.bl bs[i]) by rw[Yj,Yh hi];rfl);rw[jY]at hu;cases hu;cases ru;dsimp only at Ge;rw[Y0,Yh hi]at Ge;exact rp Ge
 .have e:(List.range its.toArray.size).any (fun i=>bs.getD i false)=bs.any id:=by
   rw[hlen,wC,List.any_eq_true,List.any_eq_true];constructor
   .rintro⟨i,hi,e⟩;rw[Y0,Yh (oj.mp hi)]at e;exact⟨_,rq _,e⟩
   .rintro⟨b,hb,e⟩;obtain⟨i,hi,rfl⟩:=p_.mp hb;exact⟨i,oj.mpr hi,by rw[Y0,Yh hi];exact e⟩
  rw[e];exact⟨.bl _,H,I.kept (t':=tk) fun b o e=>hk b o (by simp;exact Yo (Ym e)) (Yd _ e),rfl,q⟩
def NQ:List U->aw->bc->Prop:=fun us A Q=>∃a bs,us=[.ref a]/\A a=some (.lst (List.map U.bl bs))/\Q (.bl (bs.any id)) A
def ZsD{K:au}:hG K (fun xs H Q=>∃(p:Addr)(bs:List Bool),xs=[.ref p]/\aZ K H p (bs.map V.bl)/\Q (.bl (bs.any id)) H) NQ:=fun xs us A H Q' Q r g h k=>by
 obtain⟨a,bs,rfl,e,h⟩:=h
 obtain⟨v,rfl,r'⟩:=r.inv1
 cases r'
 obtain⟨vs,h1,r1⟩:=g.list e
 exact⟨_,bs,rfl,aZ.of (by rw[h1,r1.KJ]),k _ _ _ _ (.refl H) g (.bl _) h⟩
def Zt3{A:aw}:NQ [.ref a] A Q=∃bs,A a=some (.lst (List.map U.bl bs))/\Q (.bl (bs.any id)) A:=propext ⟨fun aD=>by obtain⟨_,bs,e,h⟩:=aD;cases e;exact⟨bs,h⟩,fun⟨bs,h⟩=>⟨a,bs,rfl,h⟩⟩
def mE{t e:AS}{A:aw}(k:Bool)(h1:∀B:Bool->aw->Prop,(∀A',Ext A A'->B k A')->c ρ A B)(h2:∀A',Ext A A'->if k=true then t D ρ A' else e D ρ A'):nN c t e D ρ A:=h1 _ h2
def cN.of(hS:cN P w h a ks):∃n,h.SetOf (strKind P w) a (fun z=>decide (z∈ks)) n:=by
 obtain⟨o,es,ep,t,e1,e2,e3,e4,⟨l,e5,pl⟩,e6,e7,_⟩:=hS;exact⟨_,o,es,ep,t,e1,e2,e3,e4,fun z=>by rw[wz,<- pl.mem_iff,<- FN e5 z];rfl,e6,e7,rfl⟩
section
variable{X:Cx}
def NR(P:Program)(w:World):R2:=fun x y H Q=>∃z a ks,x=.str z/\y=.ref a/\H a=some (jG P w a ks)/\Q (.bl (!decide (z∈ks))) H
def U4:a8 X (compareOp .NotIn) (NR X.prog X.w):=by
 intro pins s σ H x y v u Q I rx ry h;obtain⟨z,a,ks,rfl,rfl,e,q⟩:=h;obtain⟨t,rfl⟩:=rx;cases ry;obtain⟨n,hS⟩:=cN.of (I.aE a _ e).1;exact wpAny_notInSet_of (strKind_is X.prog X.w z t) rfl hS ⟨.bl _,H,I.tok _,rfl,q⟩
end
def NS(P:Program)(w:World):fo:=fun x y A Q=>∃z a ks,x=.str z/\y=.ref a/\A a=some (tS P w ks)/\Q (.bl (!decide (z∈ks))) A
def ZnK{K:au}:ei K (NR P w) (NS P w):=fun x y u v A H Q' Q hu hw g h k=>by
 obtain⟨z,a,ks,rfl,rfl,e,q⟩:=h
 cases hu;cases hw
 exact⟨z,a,ks,rfl,rfl,g.set e,k _ _ _ _ (.refl H) g (.bl _) q⟩
def Zpy{A:aw}:NS P w (.str z) (.ref a) A Q=∃ks,A a=some (tS P w ks)/\Q (.bl (!decide (z∈ks))) A:=propext ⟨fun aD=>by obtain⟨_,_,ks,x,y,h⟩:=aD;cases x;cases y;exact⟨ks,h⟩,fun⟨ks,h⟩=>⟨_,_,ks,rfl,rfl,h⟩⟩
def kh.NT{K:au}(h:kh K l rt)(hL:∀c∈l,eX K c)(hi:i<9)(js:List Nat)(hj:∀j∈js,j<9)(hn:l.length=9:=by rfl):AW K (jB l i) (js.map (jB l)) (js.any (i==·)):=by
 rw[<- hn]at hi;refine⟨hL _ (sM hi),AZ h.fi (sM hi),h.sp,h.tk,AZ h.mr (sM hi),?_⟩;induction js with
 | nil=>rfl
 | cons j js ih =>
  have ih:=ih fun k hk=>hj k (.tail _ hk);simp only[Yr,kitAny,h.LG hi (by rw[hn];exact hj j (.head _)),List.any_cons];cases(i==j)
  .exact ih
  .rfl
def kh.no{K:au}(h:kh K l rt)(hL:∀c∈l,eX K c)(hi:i<9)(hj:j<9)(n:i≠j)(hn:l.length=9:=by rfl):vn K (jB l i) (jB l j) false:=by
 have:=h.LH hL hi hj hn;rwa [Yx.mpr n]at this
def kh.yes{K:au}(h:kh K l rt)(hL:∀c∈l,eX K c)(hi:i<9)(hj:j<9)(n:i=j)(hn:l.length=9:=by rfl):vn K (jB l i) (jB l j) true:=by
 have:=h.LH hL hi hj hn;rwa [beq_iff_eq.mpr n]at this
def d8{α:Type}{a b c d:α}:[a,b,c,d].length<=sizeLine:=by show 4<=sizeLine;decide
def oU:On->U
 | none=>.ay
 | some n=>.int n
def U5:∀ {x y:On},oU x=oU y->x=y
 | none,none,_=>rfl
 | none,some b,h=>nomatch h
 | some a,none,h=>nomatch h
 | some a,some b,h=>by injection h with h;rw[Int.ofNat.inj h]
def U6(x:On):lb (oU x):=by cases x with|none=>exact .inl rfl|some n=>exact .inr ⟨_,rfl⟩
def ik(ns:List Str)(e:Str->On):List (Str×U):=ns.map fun z=>(z,oU (e z))
theorem NU{α:Type}(f:Str->α):∀ {ns:List Str},z∈ns->(ns.map fun z=>(z,f z)).lookup z=some (f z)
 | a :: ns,h=>by
  by_cases e:z=a
  .rw[e,Yr,List.lookup_cons_self]
  .rw[Yr,List.lookup_cons,Yx.mpr e]
   exact NU f ((Yp.mp h).resolve_left e)
def U7(h:z∈ns):(ik ns e).lookup z=some (oU (e z)):=NU (fun z=>oU (e z)) h
theorem BD{α:Type}:∀ {kus:List (Str×α)},z∉kus.map (·.1)->kus.lookup z=none
 | [],_=>rfl
 | (a,b)::r,h=>by
  rw[Yr,Yp,not_or]at h
  rw[List.lookup_cons,Yx.mpr h.1]
  exact BD h.2
def U8:ik ns e=ik ns f↔∀z∈ns,e z=f z:=by
 unfold ik;rw[List.map_inj_left];exact⟨fun h z hz=>U5 (Prod.mk.inj (h z hz)).2,fun h z hz=>by rw[h z hz]⟩
def NV:(ik ns e).map (·.1)=ns:=by
 unfold ik;rw[jk];exact List.map_id ns
def NW:∀p∈ik ns e,lb p.2:=fun p hp=>by
 obtain⟨z,_,rfl⟩:=YL.mp hp
 exact U6 _
def Rl.gn{r x:Rl}(h:x∈r.kids)(hz:z∈x.bb):z∈r.bb:=by
 cases r with
 | nothing=>cases h
 | bead c=>cases h
 | named c=>cases h
 | or a b =>
  rcases Yp.mp h with rfl|h
  .exact YY _ hz
  .rw[Yn.mp h]at hz;exact Yy _ hz
 | bh a b =>
  rcases Yp.mp h with rfl|h
  .exact YY _ hz
  .rw[Yn.mp h]at hz;exact Yy _ hz
 | hold k a=>rw[Yn.mp h]at hz;exact hz
def Rl.hp(e:Str->On):Rl->Bool
 | .or x y=>x.hp e||y.hp e
 | .bh x y=>x.hp e||y.hp e
 | .hold _ x=>decide (x.lst e=some 0)||x.hp e
 | _=>false
def Rl.lean(e:Str->On):Rl->List Str
 | .named z=>[z]
 | .or x y=>x.lean e++y.lean e
 | .bh x y=>(if y.lst e=some 0 then x.lean e else[])++(if x.lst e=some 0 then y.lean e else[])
 | .hold _ x=>x.lean e
 | _=>[]
def Rl.eE:∀ {r:Rl},z∈r.lean e->z∈r.bb:=by
 intro r;induction r with
 | nothing=>exact id
 | bead c=>exact id
 | named c=>exact id
 | or x y i j=>exact fun h=>(Yv.mp h).elim (fun h=>YY _ (i h)) fun h=>Yy _ (j h)
 | bh x y i j =>
  intro h;refine(Yv.mp h).elim (fun h=>?_) fun h=>?_
  .split at h
   .exact YY _ (i h)
   .cases h
  .split at h
   .exact Yy _ (j h)
   .cases h
 | hold k x i=>exact i
theorem Rl.bp:∀r:Rl,(r.lean e).length<=r.size:=by
 intro r;induction r with
 | nothing=>exact Y9 _
 | bead c=>exact Y9 _
 | named c=>exact Yk _
 | or x y i j=>simp only[Rl.lean,Rl.size,Yq];lia
 | bh x y i j =>
  simp only[Rl.lean,Rl.size,Yq];have h1:(if y.lst e=some 0 then x.lean e else[]).length<=(x.lean e).length:=by split<;>simp
  have h2:(if x.lst e=some 0 then y.lean e else[]).length<=(y.lean e).length:=by split<;>simp
  lia
 | hold k x i=>simp only[Rl.lean,Rl.size];lia
def Rl.il(r:Rl):r.kids.length<=2:=by cases r<;>simp[Rl.kids]
def Gf{α β:Type}(f:α->β)(xs:List α)(d:α):(List.range xs.length).map (fun k=>f (xs[k]?.getD d))=xs.map f:=by
 apply IS;intro k;rw[Yj,Yj];by_cases h:k<xs.length
 .rw[Cq h,Yh h];simp[Yh h]
 .rw[Y3 (by simpa using h),Y3 (by simpa using h)];rfl
def fN:On->Bool:=fun x=>x.isSome
theorem U9:∀x y:On,∃ns:List Int,((List.range 2).filter fun k=>fN (([x,y][k]?).getD none)).map (fun k=>oU (([x,y][k]?).getD none))=ns.map U.int/\(ns=[]->oU (mC x y)=.ay)/\∀m,m∈ns->(∀z∈ns,m<=z)->oU (mC x y)=.int m
 | none,none=>⟨[],rfl,fun _=>rfl,fun m h=>by cases h⟩
 | some a,none=>⟨[(a:Int)],rfl,(fun h=>by cases h),fun m h _=>by rw[Yn.mp h];rfl⟩
 | none,some a=>⟨[(a:Int)],rfl,(fun h=>by cases h),fun m h _=>by rw[Yn.mp h];rfl⟩
 | some a,some b=>by
  refine⟨[(a:Int),(b:Int)],rfl,(fun h=>by cases h),fun m h hm=>?_⟩
  have h1:=hm a (.head _)
  have h2:=hm b (.tail _ (.head _))
  show U.int ((min a b:Nat):Int)=_
  rcases Yp.mp h with rfl|h
  .rw[rB (by lia)]
  .rw[Yn.mp h]at h1 ⊢
   rw[Nat.min_eq_right (by lia)]
def NX{A:aw}{Q:bc}(hl:A l=none)(hJ:∀k A2,k<=2->Ext A A2->J k A2 [oU x,oU y][k]?)(q:∀B,Ext A B->Q (oU (mC x y)) B):
  nH J (ml 0) (aB (ka Ew (gh 0) (aC U.ay))) (gh 0) l (fun v A1=>∃p ns,v=.ref p/\A1 p=some (.lst (List.map U.int ns))/\(ns=[]->Q .ay A1)/\∀m,m∈ns->(∀x∈ns,m<=x)->Q (.int m) A1) [none] (af A l (.lst [])):=by
 obtain⟨ns,h1,h2,h3⟩:=U9 x y;refine Lh [oU x,oU y] (fun k=>fN (([x,y][k]?).getD none)) (fun k=>oU (([x,y][k]?).getD none)) hl (show 2<=100000 by decide) hJ ?_ ⟨l,ns,rfl,by rw[Zb];exact congrArg (fun z=>some (AO.lst z)) h1,fun h=>h2 h▸q _ (Ext.new hl),fun m h4 h5=>h3 m h4 h5▸q _ (Ext.new hl)⟩;intro k u A2 hu e2 Cy Cn hy hn;obtain⟨v,hv,rfl⟩:∃v,[x,y][k]? = some v/\u=oU v:=by
  rcases k with _|_|k
  .exact⟨x,rfl,(YA hu).symm⟩
  .exact⟨y,rfl,(YA hu).symm⟩
  .cases hu
 rw[hv]at hy hn;refine⟨rfl,!(oU v).c5,rfl,?_⟩;cases v with
 | none=>exact jw (by decide) (hn rfl)
 | some n=>exact gI rfl (hy rfl)
def qL(vs:List On):On:=vs.foldr vI (some 0)
theorem NY:∀ {vs:List On},vs.any (·.isNone)=true->qL vs=none
 | none::vs,_=>rfl
 | some a::vs,h=>by
  show vI (some a) (qL vs)=none
  rw[NY (vs:=vs) h];rfl
theorem NZ:∀ {vs:List On},vs.any (·.isNone)=false->∃ns:List Int,vs.map oU=ns.map U.int/\oU (qL vs)=.int ns.sum
 | [],_=>⟨[],rfl,rfl⟩
 | none::vs,h=>nomatch h
 | some a::vs,h=>by
  obtain⟨ns,h1,h2⟩:=NZ (vs:=vs) h
  refine⟨(a:Int)::ns,by rw[Yr,Yr,h1];rfl,?_⟩
  show oU (vI (some a) (qL vs))=_
  cases e:qL vs with
  | none=>rw[e]at h2;cases h2
  | some b =>
   rw[e]at h2
   injection h2 with h2
   show U.int ((a+b:Nat):Int)=_
   rw[List.sum_cons,<- h2];rfl
def oD:On->PyData
 | none=>.none
 | some n=>.int n
def U_{A:aw}{vs:List On}(h:A l=some (.lst (vs.map oU)))(q:Q (.bl (vs.any (·.isNone))) A):F9 false .ay (.ref l) A Q:=by
 have h1:∀vs:List On,hX A (vs.map oU) (vs.map oD)/\(∀e∈vs.map oD,e.canLay0=true/\e.depth<=190)/\((vs.map oD).any fun e=>PyData.eqv e .none)=vs.any (·.isNone):=fun vs=>by
  induction vs with
  | nil=>exact⟨.nil,by simp,rfl⟩
  | cons v vs ih =>
   obtain⟨i1,i2,i3⟩:=ih;cases v with
   | none=>exact⟨.cons .ay i1,by rw[Yr];exact List.forall_mem_cons.mpr ⟨⟨rfl,by decide⟩,i2⟩,by rw[Yr,List.any_cons,List.any_cons,i3];rfl⟩
   | some n=>exact⟨.cons (.int _) i1,by rw[Yr];exact List.forall_mem_cons.mpr ⟨⟨rfl,by simp[PyData.depth,oD]⟩,i2⟩,by rw[Yr,List.any_cons,List.any_cons,i3];rfl⟩
 obtain⟨g1,g2,g3⟩:=h1 vs;refine⟨_,_,_,h,g1,.ay,g2,rfl,?_⟩;rw[if_neg (by decide),g3];exact q
def Rl.jH(e:Str->On):Rl->Bool
 | .hold _ x=>decide (x.lst e=some 0)
 | _=>false
def Rl.pC(e:Str->On)(r:Rl):r.hp e=(r.jH e||(r.kids.map fun x=>x.hp e).any id):=by
 cases r<;>simp[Rl.hp,Rl.jH,Rl.kids]
def N0:R2:=fun x y H Q=>∃i,y=.int i/\(x=.ay/\Q (.bl false) H\/∃j,x=.int j/\Q (.bl (decide (j=i))) H)
def yy:a8 X (compareOp .Eq) N0:=by
 intro pins s σ H x y v u Q I rx ry h;obtain⟨i,rfl,h⟩:=h;rcases h with⟨rfl,q⟩|⟨j,rfl,q⟩
 .cases rx;obtain⟨t,rfl⟩:=ry;exact PySem.EqNone.eq_none_int (ZL I q rfl)
 .exact Kq pins s σ H (.int j) (.int i) v u Q I rx ry q
def N1:fo:=fun u w A Q=>∃(v:On)(n:Nat),u=oU v/\w=.int n/\Q (.bl (decide (v=some n))) A
def ZrC{K:au}:ei K N0 N1:=fun x y u w A H Q' Q hu hw g h k=>by
 obtain⟨v,n,rfl,rfl,q⟩:=h
 cases hw
 cases v with
 | none=>cases hu;exact⟨_,rfl,.inl ⟨rfl,k _ _ _ _ (.refl H) g (.bl _) q⟩⟩
 | some m =>
  cases hu
  refine⟨_,rfl,.inr ⟨_,rfl,k _ _ _ _ (.refl H) g (.bl _) ?_⟩⟩
  have e:decide ((m:Int)=(n:Int))=decide (some m=some n):=decide_eq_decide.mpr ⟨fun h=>by rw[Int.ofNat.inj h],fun h=>by rw[YA h]⟩
  rw[e]
  exact q
def sZ{A:aw}(q:Q (.bl (decide (v=some 0))) A):N1 (oU v) (.int 0) A Q:=⟨v,0,rfl,rfl,q⟩
open PySem PySem.W
theorem U'{A:aw}(items:List U)(Pv:Nat->List U->aw->Prop)(h0:Pv 0 [] A)(hn:items.length<=100000)(hl:∀k ys A2,Pv k ys A2->ys.length<=k)(hJ:∀k ys A2,k<=items.length->Pv k ys A2->J k A2 items[k]?)(hs:∀k u ys A2,items[k]? = some u->Pv k ys A2->∀(Cy:bc)(Cn:aw->Prop),(∀y A3,A3 l=some (.lst ys)->Pv (k+1) (ys++[y]) (af A3 l (.lst (ys++[y])))->Cy y A3)->(∀A3,Pv (k+1) ys A3->Cn A3)->tt (some u::fr) A2 fun ok A3=>if ok=true then te (some u::fr) A3 Cy else Cn A3)(hd:∀ys A2,Pv items.length ys A2->Q (.ref l) A2):nH J (ml 0) tt te l Q (x0::fr) A:=by
 refine⟨fun i m τ A2=>m=items.length-i/\i<=items.length/\(∃x,τ=x::fr)/\∃ys,Pv i ys A2,⟨_,rfl,Y9 _,⟨_,rfl⟩,_,h0⟩,?_⟩;rintro i m τ A2 ⟨rfl,hi,⟨x,rfl⟩,ys,hp⟩;have j:=hJ i ys A2 hi hp;by_cases bq:i<items.length
 .have hu:items[i]? = some items[i]:=Yh bq;rw[hu]at j;refine .inr ⟨_,j,?_⟩;rw[Zr4];exact hs i _ ys A2 hu hp _ _ (fun y A3 h1 h2=>⟨ys,h1,ZT (by have:=hl i ys A2 hp;lia),items.length-(i+1),by lia,rfl,bq,⟨_,rfl⟩,_,h2⟩) fun A3 h2=>⟨items.length-(i+1),by lia,rfl,bq,⟨_,rfl⟩,_,h2⟩
 .have e:i=items.length:=by lia
  subst e;rw[Y3 (Yk _)]at j;exact .inl ⟨j,hd ys A2 hp⟩
open PySem PySem.W PySem.Spec PyProof.Rows
structure TX0 (HK:Params->au) (P:Program) (w:World) (K:au) (mg:Str->Option Value) (base:Heap):Prop where
 eK:K=HK w.params
 ns:∃h:Heap,K.In h/\h.Ns mainGlobals mg
def s_(st:Stmt)(x q:Str)(pm:Value)(c:Nat):FuncData:=fnOf x q (Ae st) (kW st) (ZI st) .none .none .none pm none (.ref c) .none
def hF(f t ln ac fl m:Nat)(b:Bool)(st:Stmt)(x q:Str)(pm:Value):List (Addr×Obj) :=
 [(f-1,bif b then Kj x q t ln ac fl (f-6) (f-5) (some (f-4)) (some (f-3)) (f-2) m (m+1)else Kj x q t ln ac fl (f-4) (f-3) none none (f-2) m (m+1)),(f,⟨.type "function",none,.func (s_ st x q pm (f-1)),#[]⟩)]
def iP(a:Nat)(x:Str)(mro subs:List Value)(d:Option Value)(t:Nat)(b:String):Addr×Obj :=
 (a,Obj.mk (.type "type") none (.cls (ClassData.mk x (mro.take 1) (.ref a::mro) (a-1) x true [] subs false none false)) #[d,none,some (.str x t),some (.str x (t+8)),some (.builtin b),some (.bool true)])
structure FR (P:Program) (w:World) (K:au) (mg:Str->Option Value) (base:Heap) (fa:Addr) (d:FuncData) (st:Stmt) (x q:Str) (ps N:List Str):Prop where
 f : iW K x q st fa d
 b : kT K d ps []
 s : gU N ps (ZI st)
structure FM (P:Program) (w:World) (K:au) (mg:Str->Option Value) (base:Heap) (fa:Addr) (d:FuncData) (st:Stmt) (x q:Str) (ps N:List Str):Prop extends FR P w K mg base fa d st x q ps N where
 m : mg x=some (.ref fa)
def Gg{α:Type}{P:List α->Prop}(h:∀a b c d e,P [a,b,c,d,e]):∀us:List α,us.length=5->P us:=fun us e=>by
 cases us with
 | nil=>simp at e
 | cons a us=>exact E2 (P:=fun us=>P (a::us)) (h a) us (by simpa using e)
def N3{α:Type}{P:List α->Prop}(h:∀a b c d e f,P [a,b,c,d,e,f]):∀us:List α,us.length=6->P us:=fun us e=>by
 cases us with
 | nil=>simp at e
 | cons a us=>exact Gg (P:=fun us=>P (a::us)) (h a) us (by simpa using e)
section
variable{HK:Params->au}{P:Program}{w:World}{K:au}{mg:Str->Option Value}{base:Heap}
def TX0.mp(T:TX0 HK P w K mg base){φ:au->Prop}(h:∀p,φ (HK p)):φ K:=T.eK▸h _
def TX0.g(T:TX0 HK P w K mg base)(n:Str)(v:Value)(h:∀p,nsIn (HK p) mainGlobals n=some (some v):=by intro;kernel_rfl):mg n=some v:=by
 obtain⟨_,X,G⟩:=T.ns;exact mg_of X G (T.mp (φ:=fun K=>nsIn K mainGlobals n=_) h)
def TX0.no(T:TX0 HK P w K mg base)(n:Str)(h:∀p,nsIn (HK p) mainGlobals n=some none:=by intro;kernel_rfl):mg n=none:=by
 obtain⟨_,X,G⟩:=T.ns;exact mg_none_of X G (T.mp (φ:=fun K=>nsIn K mainGlobals n=_) h)
def TX0.fr(T:TX0 HK P w K mg base)(f:Addr)(st:Stmt)(x q:Str)(pm:Value)(ps N:List Str)(h:∀p,((HK p).lookup f,codeIn (HK p) (.ref (f-1)) q,keepIn (HK p) (.ref f))=(some ⟨.type "function",none,.func (s_ st x q pm (f-1)),#[]⟩,true,true):=by intro;kernel_rfl)(hb:∀us:List Value,us.length=ps.length->bindArgs (s_ st x q pm (f-1)) ⟨us,[]⟩=pure (ps.zip us):=by first|(refine EY ?_;intros;rfl)|(refine EZ ?_;intros;rfl)|(refine E1 ?_;intros;rfl)|(refine E2 ?_;intros;rfl)|(refine Gg ?_;intros;rfl)|(refine N3 ?_;intros;rfl)|(refine EX ?_;rfl))(s:gU N ps (ZI st):=by exact⟨rfl,rfl,rfl,by decide +kernel,rfl,by decide +kernel,by decide +kernel⟩):FR P w K mg base f (s_ st x q pm (f-1)) st x q ps N:=by
 have e:=T.mp (φ:=fun K=>(K.lookup f,codeIn K (.ref (f-1)) q,keepIn K (.ref f))=_) h;rw[Prod.mk.injEq,Prod.mk.injEq]at e;exact⟨Q6 e.1 e.2.1 e.2.2,.all hb,s⟩
def TX0.fm(T:TX0 HK P w K mg base)(f:Addr)(st:Stmt)(x:Str)(pm:Value)(ps N:List Str)(h:∀p,((HK p).lookup f,codeIn (HK p) (.ref (f-1)) x,keepIn (HK p) (.ref f))=(some ⟨.type "function",none,.func (s_ st x x pm (f-1)),#[]⟩,true,true):=by intro;kernel_rfl)(hm:∀p,nsIn (HK p) mainGlobals x=some (some (.ref f)):=by intro;kernel_rfl)(hb:∀us:List Value,us.length=ps.length->bindArgs (s_ st x x pm (f-1)) ⟨us,[]⟩=pure (ps.zip us):=by first|(refine EY ?_;intros;rfl)|(refine EZ ?_;intros;rfl)|(refine E1 ?_;intros;rfl)|(refine E2 ?_;intros;rfl)|(refine Gg ?_;intros;rfl)|(refine N3 ?_;intros;rfl)|(refine EX ?_;rfl))(s:gU N ps (ZI st):=by exact⟨rfl,rfl,rfl,by decide +kernel,rfl,by decide +kernel,by decide +kernel⟩):FM P w K mg base f (s_ st x x pm (f-1)) st x x ps N:=⟨T.fr f st x x pm ps N h hb s,T.g x _ hm⟩
def TX0.na(T:TX0 HK P w K mg base)(C:Addr)(x:Str)(h:∀p,findIn (HK p) (.ref C) x=some none:=by intro;kernel_rfl):f7 K C x:=T.mp (φ:=fun K=>f7 K C x) h
def TX0.me(T:TX0 HK P w K mg base)(C:Addr)(x:Str)(f:Addr)(h:∀p,(findIn (HK p) (.ref C) x,isFn (HK p) (.ref f),keepIn (HK p) (.ref f))=(some (some (.ref f)),true,true):=by intro;kernel_rfl):z7 K C x f:=by
 have e:=T.mp (φ:=fun K=>(findIn K (.ref C) x,isFn K (.ref f),keepIn K (.ref f))=_) h;rw[Prod.mk.injEq,Prod.mk.injEq]at e;exact⟨e.1,e.2.1,e.2.2⟩
def TX0.cl(T:TX0 HK P w K mg base)(C:Addr)(h:∀p,(plainGet (HK p) C Str.empty,hasDictIn (HK p) C,plainOver (HK p) C,findIn (HK p) (.ref C) "__setattr__")=(true,true,true,some (some (.builtin "object.__setattr__"))):=by intro;kernel_rfl):eX K C:=by
 have e:=T.mp (φ:=fun K=>(plainGet K C Str.empty,hasDictIn K C,plainOver K C,findIn K (.ref C) "__setattr__")=_) h;rw[Prod.mk.injEq,Prod.mk.injEq,Prod.mk.injEq]at e;exact⟨e.1,e.2.1,e.2.2.1,e.2.2.2⟩
def TX0.mk'(T:TX0 HK P w K mg base)(C f:Addr)(h:∀p,(makesIn (HK p) C,findIn (HK p) (.ref C) "__init__",isFn (HK p) (.ref f),keepIn (HK p) (.ref C))=(true,some (some (.ref f)),true,true):=by intro;kernel_rfl):Mk K C f:=by
 have e:=T.mp (φ:=fun K=>(makesIn K C,findIn K (.ref C) "__init__",isFn K (.ref f),keepIn K (.ref C))=_) h;rw[Prod.mk.injEq,Prod.mk.injEq,Prod.mk.injEq]at e;exact⟨e.1,e.2.1,e.2.2.1,e.2.2.2⟩
def TX0.Va(T:TX0 HK P w K mg base)(C:Addr)(h:∀p,(makesIn (HK p) C,findIn (HK p) (.ref C) "__init__",keepIn (HK p) (.ref C))=(true,some (some (.builtin "object.__init__")),true):=by intro;kernel_rfl):ES K C:=by
 have e:=T.mp (φ:=fun K=>(makesIn K C,findIn K (.ref C) "__init__",keepIn K (.ref C))=_) h;rw[Prod.mk.injEq,Prod.mk.injEq]at e;exact⟨e.1,e.2.1,e.2.2⟩
def TX0.kt(T:TX0 HK P w K mg base)(C:Addr)(v:Value)(b:Bool)(h:∀p,kitOne (HK p) (.ref C) v=some b:=by intro;kernel_rfl):kitOne K (.ref C) v=some b:=T.mp (φ:=fun K=>kitOne K (.ref C) v=some b) h
def TX0.xc(T:TX0 HK P w K mg base)(C f:Addr)(h:∀p,qF (HK p) C f:=by exact fun _=>⟨by kernel_rfl,by kernel_rfl,by kernel_rfl,by kernel_rfl,by kernel_rfl,by kernel_rfl,by kernel_rfl,by kernel_rfl,by kernel_rfl,by kernel_rfl⟩):qF K C f:=T.mp (φ:=fun K=>qF K C f) h
def TX0.xb(T:TX0 HK P w K mg base)(C:Addr)(h:∀p,Bl (HK p) C:=by exact fun _=>⟨by kernel_rfl,by kernel_rfl,by kernel_rfl⟩):Bl K C:=T.mp (φ:=fun K=>Bl K C) h
def TX0.xg(T:TX0 HK P w K mg base)(C:Addr)(h:∀p,nY (HK p) C:=by exact fun _=>⟨by kernel_rfl,by kernel_rfl,by kernel_rfl,by kernel_rfl,by kernel_rfl,by kernel_rfl,by kernel_rfl,by kernel_rfl⟩):nY K C:=T.mp (φ:=fun K=>nY K C) h
def TX0.ca(T:TX0 HK P w K mg base)(C D:Addr)(b:Bool)(h:∀p,i6 (HK p) C D b:=by exact fun _=>⟨by kernel_rfl,by kernel_rfl,by kernel_rfl,by kernel_rfl,by kernel_rfl⟩):i6 K C D b:=T.mp (φ:=fun K=>i6 K C D b) h
def TX0.it(T:TX0 HK P w K mg base)(l:List Addr)(C:Addr)(h:∀p,kh (HK p) l C:=by exact fun _=>⟨by kernel_rfl,by kernel_rfl,by kernel_rfl,by kernel_rfl,by kernel_rfl,by kernel_rfl⟩):kh K l C:=T.mp (φ:=fun K=>kh K l C) h
variable{f:Addr}{d:FuncData}{st:Stmt}{x q:Str}{ps N:List Str}
abbrev FR.Ok(_:FR P w K mg base f d st x q ps N)(CX:lQ)(k:Nat)(sp:Sp):Prop:=cz P w K mg base CX k f d ps sp
def FR.bG(F:FR P w K mg base f d st x q ps N)(hs:ZI st=sc)(hb:kW st=body)(hB : ∀ {bf:Value} {A:Around} {outer:List Env} {s:Shared} {H:Hp} {E:XK},gU N ps sc->bW k (A.deeper (envOfC q sc s.heap.objs.size f bf)) ->
   ∃t,d0 (ff aP P w K mg base N q sc f bf A outer s H E).nj body t/\df K t as)(hS:∀us A Q,bg us A Q->us.length=ps.length/\as { nx:=fun _ A'=>Fg Q .ay A',rt:=Fg Q } (aStart N us) A):cz P w K mg base aP (k+1) f d ps (aW K bg) :=
 iW.bG F.f hs hb F.s (fun S _ _ _ _ _ _ r=>hB S r) hS
def FR.vD{as:ko->AS}(F:FR P w K mg base f d st x q ps N)(hs:ZI st=sc)(hb:kW st=body)(hB : ∀ {bf:Value} {A:Around} {outer:List Env} {s:Shared} {H:Hp} {E:XK} {X':ko},gU N ps sc->bW k (A.deeper (envOfC q sc s.heap.objs.size f bf))->mB K H X' E ->
   ∃t,d0 ((ff (gi P w) P w K mg base N q sc f bf A outer s H E).bN (XF (ff (gi P w) P w K mg base N q sc f bf A outer s H E) E)) body t/\df K t (as X'))(hS:∀us A Q X',bg us A Q X'->us.length=ps.length/\as X' { nx:=fun _ A'=>Fg Q .ay A',rt:=Fg Q } (aStart N us) A):cz P w K mg base (gi P w) (k+1) f d ps (qG K bg) :=
 iW.vD F.f hs hb F.s (fun S _ _ _ _ _ _ _ r e=>hB S r e) hS
end
section
variable{X:Cx}{fa:Addr}{fd:FuncData}{st:Stmt}{x q:Str}{ps N:List Str}{j k:Nat}{sp:Sp}{t:TA}{e:Expr}{es:List Expr}{p pos:Pos}{r:List V->Hp->VK->Prop}{id ty:String}
def FM.pc(F:FM X.prog X.w X.K X.mg X.base fa fd st x q ps N)(G:cz X.prog X.w X.K X.mg X.base aP j fa fd ps sp)(hr:bW k X.A)(ha:PA X (e::es) t)(Vb:j<=k:=by first|decide|lia)(hg:Gl X x:=by rfl)(cK:(x==("__debug__":Str))=false:=by decide)(he:starEach (e::es) X.env=(false,eval e X.env)::starEach es X.env:=by rfl)(bA:(backTo pos (starEach es X.env)).any (·.1)=false:=by rfl):
  PE X (.Call (.Name x p) (e::es) [] pos) (Dc sp [] E0 t):=Qp (G.mono Vb) hr hg F.m F.f.kp F.b .nil gY ha cK he bA
def ZX(hc:Z4 X (.builtin id) r)(hm:X.mg x=none)(ha:PA X (e::es) t)(hg:Gl X x:=by rfl)(hv:bootBuiltins x=some (.builtin id):=by decide +kernel)(hn:x≠"__name__":=by decide)(cK:(x==("__debug__":Str))=false:=by decide)(he:starEach (e::es) X.env=(false,eval e X.env)::starEach es X.env:=by rfl)(bA:(backTo pos (starEach es X.env)).any (·.1)=false:=by rfl):PE X (.Call (.Name x p) (e::es) [] pos) (rU r t):=Qs hc hg hm hv ha hn cK he bA
def yz(hc:Z4 X (.type ty) r)(hm:X.mg x=none)(ha:PA X (e::es) t)(hg:Gl X x:=by rfl)(hv:bootBuiltins x=some (.type ty):=by decide +kernel)(hn:x≠"__name__":=by decide)(cK:(x==("__debug__":Str))=false:=by decide)(he:starEach (e::es) X.env=(false,eval e X.env)::starEach es X.env:=by rfl)(bA:(backTo pos (starEach es X.env)).any (·.1)=false:=by rfl):PE X (.Call (.Name x p) (e::es) [] pos) (rU r t):=Qt hc hg hm hv ha hn cK he bA
def k9.mn{K:au}(F:k9 P w K mg base CX j m dZ)(h:j<=k:=by first|decide|lia):k9 P w K mg base CX k m dZ:=F.mono h
def cz.mn{K:au}(F:cz P w K mg base CX j fa fd ps sp)(h:j<=k:=by first|decide|lia):cz P w K mg base CX k fa fd ps sp:=F.mono h
end
section
variable{P:Program}{w:World}{A:Around}{E:Value->Shared->Prop}{s:Shared}
theorem Vc(hl:s.heap.IsList l (strValues tl).toArray)(qK:tl.length<64)(k:∀h' D (out:Array Value) (zs:List Str) n,s.heap.objs.size<=D->StrsAre out.toList zs->zs.Perm (tl.map (·.1))->sortedS zs=true->h'.get? D=some (seqObj "list" out n)->(∀b o,s.heap.get? b=some o->h'.get? b=some o)->Q (.ref D) { s with heap:=h' }):
  wpAny (model P w) A (call (.builtin "sorted") [.ref l]) Q E s:=by
 refine Calls.call_function_entry kind_sorted plain_sorted entry_sorted (args_sorted1 _) ?_;unfold Builtin.«sorted»;refine Yb (m:=checkCount "sorted" 1 1 _) (Ye ?_);have jD:=F0 tl;have hlen:(strValues tl).length<64:=by rw[strValues,Yc];exact qK
 refine Yb (collect_list hl (show _ from ?_) (by rw[Y2];lia));refine Yb (CD (show _ from ?_) (by exact YB (lH hlen) (by decide)));have s0:=lE (s.heap.push (seqObj "list" #[] 0)) s.heap.objs.size (Obj.mapSeq (·++(strValues tl).toArray));have N4:∀p o,s.heap.get? p=some o->((s.heap.push (seqObj "list" #[] 0)).update s.heap.objs.size (Obj.mapSeq (·++(strValues tl).toArray))).get? p=some o:=fun p o q =>
  (s0.2 p (Yo (Ym q))).trans (Yd _ q)
 have hsz:s.heap.objs.size<=((s.heap.push (seqObj "list" #[] 0)).update s.heap.objs.size (Obj.mapSeq (·++(strValues tl).toArray))).objs.size:=by
  rw[s0.1,size_push'];lia
 generalize(s.heap.push (seqObj "list" #[] 0)).update s.heap.objs.size (Obj.mapSeq (·++(strValues tl).toArray))=h1 at N4 hsz ⊢;have nh:(h1.push (seqObj "list" (strValues tl).toArray 0)).get? h1.objs.size=some (seqObj "list" (strValues tl).toArray 0):=Yl _ rfl;refine Yb (YU (Y1 slot_list_sort ⟨_,nh,rfl⟩ entry_list_sort (list_sort_treeK strKind_oneLt nh jD.keysOf (fun v1 v2 r e=>keyKind_strs (by rw[<- e];exact jD)) hlen fun dE a1 a2=>⟨_,rfl,?_⟩) (args_list_sort _)));obtain⟨zs,b1,b2,b3⟩:=sorted_out_str jD a1 a2;obtain⟨n,hn⟩:=sortedHeap_at (out:=(arrOf dE).map (·.2)) nh;refine Ye ⟨_,rfl,k _ h1.objs.size _ zs n hsz b1 b2 b3 hn (fun b o e=>?_)⟩;have e1:=N4 b o e;have lt:=Ym e1;show(sortedHeap (h1.push (seqObj "list" (strValues tl).toArray 0)) h1.objs.size (strValues tl) _).get? b=some o;rw[sortedHeap_old (Yo lt) (by rw[size_push'];exact YR lt)];exact Yd _ e1
end
section
variable{X:Cx}
def N5:List V->Hp->VK->Prop:=fun xs H Q=>∃l ks,xs=[.ref l]/\H l=some (.lst (ks.map V.str))/\ks.length<64/\∀D zs,H D=none->zs.Perm ks->sortedS zs=true->Q (.ref D) (upd H D (.lst (zs.map V.str)))
theorem Vd:Z4 X (.builtin "sorted") N5:=by
 intro pins s σ H xs us Q I r h;obtain⟨l,ks,rfl,hl,qK,q⟩:=h;obtain⟨u,rfl,ru⟩:=r.one;cases ru;obtain⟨hle,its,n,rv,hlen,e⟩:=I.eh hl;rw[Yc]at hlen;obtain⟨tl,e1,e2⟩:=AV rv;subst e1;have hsz:tl.length=ks.length:=by rw[<- e2,Yc]
 refine Vc (tl:=tl) ⟨_,e,rfl,n,rfl⟩ (by lia) fun h' D out zs n hD hv hp hs hd hk=>?_;rw[e2]at hp;exact⟨.ref D,upd H D (.lst (zs.map V.str)),I.laid (a:=D) (o:=.lst (zs.map V.str)) (h':=h') (t':=s.toks) hk hD ⟨by rw[Yc,hp.length_eq];exact YB (lH qK) (by decide),out.toList,n,F4 hv,by rw[Array.toArray_toList];exact hd⟩,rfl,q D zs (I.aE.fresh hD) hp hs⟩
end
section
variable{K:au}
def N6:List U->aw->bc->Prop:=fun us A Q=>∃l ks,us=[.ref l]/\A l=some (.lst (List.map U.str ks))/\ks.length<64/\∀D zs,A D=none->zs.Perm ks->sortedS zs=true->Q (.ref D) (af A D (.lst (zs.map U.str)))
def Zkg:hG K N5 N6:=fun xs us A H Q' Q r g h k=>by
 obtain⟨l,ks,rfl,hl,hz,q⟩:=h
 obtain⟨v,rfl,rv⟩:=r.inv1
 cases rv
 obtain⟨vs,h1,r1⟩:=g.list hl
 exact⟨l,ks,rfl,by rw[h1,r1.strs],hz,fun D zs hD hp hs=>k _ _ _ _ (a_.az hD).kp (g.fj hD aJ.cY) (.ref D) (q D zs (g.none hD) hp hs)⟩
def Zn3{A:aw}:N6 [.ref l] A Q=∃ks,A l=some (.lst (List.map U.str ks))/\ks.length<64/\∀D zs,A D=none->zs.Perm ks->sortedS zs=true->Q (.ref D) (af A D (.lst (zs.map U.str))):=propext ⟨fun aD=>by obtain⟨_,ks,e,h⟩:=aD;cases e;exact⟨ks,h⟩,fun⟨ks,h⟩=>⟨l,ks,rfl,h⟩⟩
end
def Gh(K:au)(C:Addr)(f:Str):Sp:=fun vs H Q _=>∃x p ys,vs=[.ref x,.ref p]/\H x=some (XO x C none)/\Sq K H p ys/\∀l,H l=none->∀dx,upd H l (.lst ys) dx=none->dx≠x->Q .ay (upd (upd (upd H l (.lst ys)) dx (.xd [(f,.ref l)])) x (XO x C (some dx)))
def N7(C:Addr)(f:Str)(X':ko)(l:AA):AS:=fun _ ρ A=>l ρ A fun us A1=>∃p zs,us=[.ref p]/\A1 p=some (.lst zs)/\∀l',A1 l'=none->X' C [(f,.ref l')] (af A1 l' (.lst zs))
section
variable{P:Program}{w:World}{K:au}{mg:Str->Option Value}{base:Heap}
def Ve{st:Stmt}(X:qF K C g)(n:f7 K C fl)(hp:ps.length=2)(hN:N=ps)(h : ∀ bf A outer s H E,bW 0 (A.deeper (envOfC qual sc s.heap.objs.size f bf))->d0 (ff aP P w K mg base N qual sc f bf A outer s H E).nj (kW st)
   (zW (zX (Fu K (cR (lL 0) (cR (tC (.str m)) f9)))) (Fv K (lL 0) (rU (D5 K) (cR (lL 1) f9)) fl)))(Fn:iW K x qual st f fd)(hs:ZI st=sc)(S:gU N ps (ZI st)):
  cz P w K mg base aP 1 f fd ps (Gh K C fl):=by
 have FL:∀a b:V,L2.start N [a,b]=[some a,some b]:=fun a b=>by
  unfold L2.start;rw[hN,hp];rfl
 refine Fn.DJ hs rfl S (fun vs H Q E aD=>by obtain⟨x,p,ys,e,_⟩:=aD;rw[e,hp];rfl) fun _ bf A outer s H vs Q E hr ⟨y,p,ys,e,hx,hq,q⟩=>⟨_,h bf A outer s H E hr,?_⟩;subst e;rw[FL];refine⟨_,rfl,⟨y,C,g,_,rfl,hx,X,⟨_,rfl,ys,hq,fun l hl=>⟨_,rfl,y,C,g,rfl,?_,X,n,fun dx hd aT=>q l hl dx hd aT⟩⟩⟩⟩;rw[Zn fun e=>by rw[e,hl]at hx;cases hx];exact hx
def Ze3{E:XK}{t:TA}(hE:mB K H0 X' E)(hl:fk K t l):df K (Fw K H0 C (Gh K C f) E t) (N7 C f X' l):=fun ρ A σ H D' D hs g h k=>by
 refine hl ρ A σ H _ _ hs g h fun us A1 vs H1 k1 g1 r1 ⟨p,zs,e,hp,hx⟩ k0 x hn=>?_
 subst e
 obtain⟨v,rfl,rv⟩:=r1.inv1
 cases rv
 obtain⟨ys,h1,r2⟩:=g1.list hp
 have Vf:p≠x:=fun e=>by rw[e,hn]at h1;cases h1
 refine⟨x,p,ys,rfl,Zs,.inl (aZ.of (by rw[Zn Vf];exact h1)),fun l hl dx hd aT=>⟨rfl,dx,Zs,?_⟩⟩
 have Gi:l≠x:=fun e=>by rw[e,Zs]at hl;cases hl
 rw[Zn Gi]at hl
 have qI:dx≠l:=fun e=>by rw[e,Zs]at hd;cases hd
 rw[Zn qI,Zn aT]at hd
 have e : qE (upd (upd (upd (upd H1 x (XO x C none)) l (.lst ys)) dx (.xd [(f,.ref l)])) x (XO x C (some dx))) x=upd (upd H1 l (.lst ys)) dx (.xd [(f,.ref l)]):=by
  funext b;by_cases h1:b=x
  .rw[h1,yf,Zn aT.symm,Zn Gi.symm,hn]
  .rw[yg h1,Zn h1];by_cases h2:b=dx
   .rw[h2,Zs,Zs]
   .rw[Zn h2,Zn h2];by_cases h3:b=l
    .rw[h3,Zs,Zs]
    .rw[Zn h3,Zn h3,Zn h1]
 rw[e];have sl:=a_.az (o:=.lst ys) hl;have fb:upd H1 l (.lst ys) dx=none:=by rw[Zn qI];exact hd
 have sm:=a_.az (o:=.xd [(f,.ref l)]) fb;have gl:=g1.fj hl r2;exact hE C dx [(f,.ref l)] [(f,.ref l)] (af A1 l (.lst zs)) _ ((k0.trans sl.kp).trans sm.kp) (gl.grow sm) (gl.none fb) Zs ⟨rfl,.one (.ref l)⟩ (hx l (g1.none hl))
def Zlj{A:aw}:N7 C f X' l D ρ A=l ρ A fun us A1=>∃p zs,us=[.ref p]/\A1 p=some (.lst zs)/\∀l',A1 l'=none->X' C [(f,.ref l')] (af A1 l' (.lst zs)):=rfl
end
section
variable{P:Program}{w:World}{A:Around}{E:Value->Shared->Prop}{s:Shared}{env:Env}{e C D:Addr}{t:Expr}{b0:Stmt}{su:List Stmt}{pos:Pos}{rest:List ExceptHandler}{Q:Flow->Shared->Prop}
def Vg{n:Option Str}(h:wpAny (model P w) (A.mark (some (.ref e))) (eval t env) (fun c s1=>c=.ref D/\(∃ ob,s1.heap.get? e=some ob/\ob.cls=.ref C)/\Bi (model P w) s1.heap C D false /\
   wpAny (model P w) A (handleBy (.ref e) env rest) Q E s1) (fun _ _=>False) s):
  wpAny (model P w) A (handleBy (.ref e) env (.ExceptHandler (some t) n (b0::su) pos::rest)) Q E s:=by
 refine wpAny_handleBy_cons (codeAny_handlers_test (YH h (fun c s1 q=>?_) fun _ _ x=>x.elim)) (by intro q;cases q);obtain⟨rfl,⟨ob,he,hc⟩,hx,hk⟩:=q;exact Mw he hc hx hk
end
abbrev TH:=kR->St->Hp->Addr->Addr->Prop
def N8:TH:=fun _ _ _ _ _=>False
def N9(K:au)(D:Addr)(j:Nat)(th:TS)(r:TH):TH:=fun Dn σ H' C dx=>i6 K C D true/\(∀a,H' a=none->th (Dn.bS j) (σ.set j (some (.ref a))) (upd H' a (XT a C dx)))\/i6 K C D false/\r Dn σ H' C dx
def N_(tb:pf)(r:TH):TS:=fun Dn σ H=>tb Dn σ H fun c sT H'=>∃C dx,c=.ref C/\sT=some dx/\r Dn σ H' C dx
def PH(X:Cx)(hs:List ExceptHandler)(r:TH):Prop:=∀(pins:List (Addr×Obj))(σ:St)(Dn:kR)(R:Value->Prop)(a:Addr)(s3:Shared),lj X pins σ (fun c sT H'=>∃C dx,c=.ref C/\sT=some dx/\r Dn σ H' C dx) False R a s3->wpAny (model X.prog X.w) X.A (handleBy (.ref a) X.env hs) (SP X pins Dn) X.xe s3
section
variable{X:Cx}{k:Nat}{f C D:Addr}{j:Nat}{fd:FuncData}{ps:List Str}{sp:Sp}{x n:Str}{p px hp pos:Pos}{e:Expr}{es:List Expr}{t:TA}{tb:pf}{th:TS}{r:TH}{b0:Stmt}{sS su:List Stmt}{hs:List ExceptHandler}
def Vh:PH X [] N8:=by
 rintro pins σ Dn R a s3 ⟨H3,I3,C,dx,ob,vs,g1,g2,g3,g4,g5,g6,st,C',M4,ec,ed,q⟩;exact q.elim
def BE(B:nV X)(hN:X.N.Nodup)(hj:X.N[j]? = some n)(hk:X.env.kindOf n=some .local)(hg:Gl X x)(hm:X.mg x=some (.ref D))(FE:∀a,d0 (X.jF a) (b0::su) th)(hr:PH X hs r)(cK:(x==("__debug__":Str))=false:=by decide):
  PH X (.ExceptHandler (some (.Name x px)) (some n) (b0::su) hp::hs) (N9 X.K D j th r):=by
 intro pins σ Dn R a s3 f3;have M3:=f3;obtain⟨H3,I3,C,dx,ob,vs,g1,g2,g3,g4,g5,g6,st,C',M4,ec,ed,q⟩:=f3;cases ec;cases ed;rcases q with⟨kQ,q⟩|⟨kQ,q⟩
 .refine Mx (C:=C) (lM (X:=X.jF a) I3.jF hg hm ⟨rfl,⟨ob,g3,g4⟩,kQ.at I3.br,?_⟩ cK);have Gj:lj X pins σ (fun c sT H'=>∃C dx,c=.ref C/\sT=some dx/\∀a,H' a=none->th (Dn.bS j) (σ.set j (some (.ref a))) (upd H' a (XT a C dx))) False R a s3:=⟨H3,I3,C,dx,ob,vs,g1,g2,g3,g4,g5,g6,st,C,dx,rfl,rfl,q⟩;refine vC B Gj fun s4 f4=>?_;obtain⟨H4,I4,C4,Ue,Ug,Uh,n4,yp,o4,c4,d4,w4,_,Ui,FG,FH,FI,q⟩:=f4;cases FH;cases FI;have I5:=I4.ia yp n4 o4 c4 d4 w4;exact zT (v:=.ref a) I5 hN hj (.inl hk) rfl (fun s5 I6=>YH (FE a pins s5 _ _ (Dn.bS j) I6.jF (q a yp)) (fun f s' z=>(z.eD I3.ok).bS hN hj hk) fun _ _ z=>False.elim z) (.inr hk)
 .exact Vg (C:=C) (lM (X:=X.jF a) I3.jF hg hm ⟨rfl,⟨ob,g3,g4⟩,kQ.at I3.br,hr pins σ Dn R a s3 ⟨H3,I3,C,dx,ob,vs,g1,g2,g3,g4,g5,g6,st,C,dx,rfl,rfl,q⟩⟩ cK)
def Vi(B:nV X)(hb:FD X sS tb)(hh:PH X (h0::hs) r):PS X (.Try sS (h0::hs) [] [] pos) (N_ tb r):=by
 intro pins s σ H Dn I h;refine wpAny_Try_except (YH (hb pins s σ H _ _ I h) (fun fl s1 q1=>?_) fun ev s1 hx=>?_)
 .cases fl with
  | next=>exact rz q1
  | brk=>exact q1
  | cont=>exact q1
  | ret u=>exact q1
 .obtain⟨H1,s0,I0,a,H',rfl,gW,FF,u,aE,f⟩:=hx;have I1:=I0.jm (ch:=[]) gW u aE FF fun b hb=>absurd hb (by simp);have f1:lj X pins σ _ False (yi X) a s1:=⟨H',I1,f.weak (fun b hb=>I0.my hb) (fun z=>z) fun v hv=>.inl hv⟩;exact Bp B f1 fun s2 f2=>vC B f2 fun s3 f3=>hh pins σ Dn _ a s3 f3
def N'(C:Addr)(sp:Sp)(t:TA):TX:=fun σ H Q E=>t σ H fun vs H1=>∀x dx,H1 x=none->H1 dx=none->dx≠x->sp (.ref x::vs) (upd (upd H1 dx (.own x)) x (.ins C dx [])) (fun v H2=>v=.ay/\Q (.ref x) H2) E
def Oa(M:Mk X.K C f)(F:cz X.prog X.w X.K X.mg X.base (gi X.prog X.w) k f fd ps sp)(hr:bW (k+1) X.A)(hg:Gl X x)(hm:X.mg x=some (.ref C))(hb:kT X.K fd ps [])(ha:PA X.nj (e::es) t)(cK:(x==("__debug__":Str))=false:=by decide)(he:starEach (e::es) X.env=(false,eval e X.env)::starEach es X.env:=by rfl)(bA:(backTo pos (starEach es X.env)).any (·.1)=false:=by rfl):
  MI X (.Call (.Name x p) (e::es) [] pos) (N' C sp t):=by
 intro pins s σ H Q E I h;refine lF (lM I hg hm (wu (h₀:=X.base) I.ok.mod.rH M.kp (YH (ha pos pins s σ H _ (I.bN _) h) (fun us s1 ⟨vs,H1,I1,r,q⟩=>⟨I1.br,?_⟩) fun _ _ z=>False.elim z) he bA) cK);have I1:=I1.ba;have hq:=q (s1.heap.objs.size+1) s1.heap.objs.size (I1.aE.fresh (fV _)) (I1.aE.fresh (Yk _)) (Yo (Y7 _));have I2:=Inv.made (C:=C) I1;have r2:ZU (V.ref (s1.heap.objs.size+1)::vs) (Value.ref (s1.heap.objs.size+1)::us):=.cons rfl r;have hl:(Value.ref (s1.heap.objs.size+1)::us).length=ps.length:=by
  have e:=r2.length;rw[F.len _ _ _ _ hq]at e;exact e.symm
 refine kO (JC (f:=f) I1.br M.makes M.init (beq_iff_eq.mp M.fn) (kN (F.run _ X.stack _ _ ⟨Value.ref (s1.heap.objs.size+1)::us,[]⟩ (Value.ref (s1.heap.objs.size+1)::us) _ _ E (hr.make C us [])
  (I2.oJ.make C us []) (by have:=hb _ (Value.ref (s1.heap.objs.size+1)::us) I2.br (by rw[YW];exact hl);rwa [YW]at this) r2 hq) fun r s' gT=>?_))
 cases r with
 | error e=>exact⟨_,_,I2,gT⟩
 | ok fl =>
  cases fl with
  | ret u =>
   obtain⟨v,H',I3,rv,ev,q3⟩:=I2.after gT;subst ev;exact⟨rv,⟨V.ref (s1.heap.objs.size+1),H',I3,rfl,q3⟩⟩
  | next=>exact False.elim gT
  | brk=>exact False.elim gT
  | cont=>exact False.elim gT
end
abbrev vN:=jy->aQ->aw->Addr->List (Str×U)->Prop
def Ob:vN:=fun _ _ _ _ _=>False
def Oc(K:au)(D:Addr)(j:Nat)(ah:AS)(r:vN):vN:=fun Dn ρ A' C fs=>i6 K C D true/\(∀a dx,A' a=none->A' dx=none->a≠dx->ah (Dn.bS j) (ρ.set j (some (.ref a))) (af (af A' dx (iM fs)) a (oX C dx)))\/i6 K C D false/\r Dn ρ A' C fs
def Od(ab:vF)(r:vN):AS:=fun Dn ρ A=>ab Dn ρ A fun C fs A'=>r Dn ρ A' C fs
def BF(K:au)(t:TH)(r:vN):Prop:=∀ρ A' σ H' D' Dn C dx fs gs,aU K H' ρ σ->HR K H' A'->A' dx=none->H' dx=some (.xd gs)->cb K H' fs gs->oV K H' D' Dn->r D' ρ A' C fs->t Dn σ H' C dx
def Oe(C:Addr)(bg:pd)(l:AA):AX:=fun ρ A Q X'=>l ρ A fun us A1=>∀x dx,A1 x=none->bg (.ref x::us) (af A1 x (.ins C dx [])) (fun u A2=>u=.ay/\Q (.ref x) A2) X'
section
variable{K:au}{C D:Addr}{bg:pd}{j:Nat}{t:TA}{l:AA}{tb:pf}{ab:vF}{th:TS}{ah:AS}{r:TH}{ar:vN}
def ZqD:BF K N8 Ob:=fun _ _ _ _ _ _ _ _ _ _ _ _ _ _ _ _ q=>q
def Ziz(hh:df K th ah)(hr:BF K r ar):BF K (N9 K D j th r) (Oc K D j ah ar):=fun ρ A' σ H' D' Dn C dx fs gs hs g n' d' rf k q=>by
 rcases q with⟨c,q⟩|⟨c,q⟩
 .refine .inl ⟨c,fun a ha=>?_⟩
  have aT:a≠dx:=fun e=>by rw[e,d']at ha;cases ha
  have sm:=a_.az (o:=XT a C dx) ha
  have k2:Kp K H' _:=sm.kp
  exact hh _ _ _ _ _ _ (aU.set (.ref a) j (hs.same k2)) (g.newX d' rf ha) (q a dx (g.none ha) n' aT) ((k.same k2).bS j)
 .exact .inr ⟨c,hr ρ A' σ H' D' Dn C dx fs gs hs g n' d' rf k q⟩
def Zh0(hx:FJ K tb ab)(hr:BF K r ar):df K (N_ tb r) (Od ab ar):=fun ρ A σ H D' Dn hs g w k =>
 hx ρ A σ H _ _ _ _ hs g w k fun C dx fs gs A' H' k' g' n' d' rf q=>⟨C,dx,rfl,rfl,hr ρ A' σ H' D' Dn C dx fs gs (hs.same k') g' n' d' rf (k.same k') q⟩
def ZdS(hl:fk K t l):MJ K (N' C (qG K bg) t) (Oe C bg l):=fun ρ A σ H Q' X' Q E hs g w k kx =>
 hl ρ A σ H _ _ hs g w fun us A1 vs H1 k1 g1 r1 q1 x dx hx xT aT=>by
  have s1:a_ H1 (upd H1 dx (.own x)):=a_.az xT
  have sd:upd H1 dx (.own x) x=none:=by rw[Zn (Ne.symm aT)];exact hx
  have s2:a_ (upd H1 dx (.own x)) (upd (upd H1 dx (.own x)) x (.ins C dx [])):=a_.az sd
  have g2:HR K (upd (upd H1 dx (.own x)) x (.ins C dx [])) (af A1 x (.ins C dx [])):=(g1.grow s1).dO s2.kp ⟨[],Zs,rfl,.nil⟩
  refine⟨.ref x::us,_,_,X',.cons (.ref x) (r1.same (s1.kp.trans s2.kp)),g2,q1 x dx (g1.none hx),fun u A3 v3 H3 k3 g3 r3 ⟨e,q3⟩=>?_,kx.same (k1.trans (s1.kp.trans s2.kp))⟩
  subst e
  cases r3
  exact⟨rfl,k _ _ _ _ (k1.trans ((s1.kp.trans s2.kp).trans k3)) g3 (.ref x) q3⟩
variable{Dn:jy}{ρ:aQ}{A:aw}{X':ko}{Q:bc}{fs:List (Str×U)}
def Zqz:Oe C bg l ρ A Q X'=l ρ A fun us A1=>∀x dx,A1 x=none->bg (.ref x::us) (af A1 x (.ins C dx [])) (fun u A2=>u=.ay/\Q (.ref x) A2) X':=rfl
def ZrV:Od ab ar Dn ρ A=ab Dn ρ A fun C fs A'=>ar Dn ρ A' C fs:=rfl
def Zwz:Ob Dn ρ A C fs=False:=rfl
def Zws:Oc K D j ah ar Dn ρ A C fs=(i6 K C D true/\(∀a dx,A a=none->A dx=none->a≠dx->ah (Dn.bS j) (ρ.set j (some (.ref a))) (af (af A dx (iM fs)) a (oX C dx)))\/i6 K C D false/\ar Dn ρ A C fs):=rfl
end
def jI{α:Type}(z:Str)(aq:List (Str×α)):List (Str×α):=aq.filter fun p=>decide (p.1≠z)
def Vj(z:Str)(aq:List (Str×α)):(jI z aq).length<=aq.length:=List.length_filter_le _ _
def KV.rm(r:KV aq vs)(k:Str):KV (jI k aq) (without vs k):=by
 unfold KV at r;induction r with
 | nil=>exact .nil
 | @cons p q ps qs h t ih =>
  obtain⟨p1,p2⟩:=p;obtain⟨q1,q2⟩:=q;obtain⟨h1,h2⟩:=h;simp only at h1 h2;subst h1;unfold jI without at ih ⊢;by_cases e:p1=k
  .rw[List.filter_cons_of_neg (by simp[e]),List.filter_cons_of_neg (by simp[e])];exact ih
  .rw[List.filter_cons_of_pos (by simp[e]),List.filter_cons_of_pos (by simp[e])];exact .cons ⟨rfl,h2⟩ ih
theorem cb.rm{K:au}:∀ {kus:List (Str×U)} {aq:List (Str×V)},cb K H kus aq->cb K H (jI k kus) (jI k aq)
 | [],[],_=>⟨rfl,.nil⟩
 | [],_::_,h=>nomatch h.1
 | _::_,[],h=>nomatch h.1
 | (a, u)::kus,(b,v)::aq,⟨h1,h2⟩=>by
  rw[Yr,Yr]at h1
  injection h1 with h3 h4
  simp only at h3
  subst h3
  cases h2 with
  | cons r1 r2 =>
  have ih:=cb.rm (k:=k) (K:=K) (H:=H) ⟨h4,r2⟩
  unfold jI at ih ⊢
  by_cases e:a=k
  .rw[List.filter_cons_of_neg (by simp[e]),List.filter_cons_of_neg (by simp[e])]
   exact ih
  .rw[List.filter_cons_of_pos (by simp[e]),List.filter_cons_of_pos (by simp[e])]
   exact⟨by rw[Yr,Yr,ih.1],.cons r1 ih.2⟩
section
variable{X:Cx}{o e:Expr}{es:List Expr}{apos aM:Pos}{to:TE}{t:TA}
def Of(P:Program)(w:World)(to:TE)(t:TA):TE:=fun σ H Q=>to σ H fun x H1=>∃a ep aq,x=.ref a/\H1 a=some (DQ P w a ep aq)/\t σ H1 fun vs H2=>∃z aF cA v,vs=[.str z]/\H2 a=some (DQ P w a aF cA)/\cA.lookup z=some v/\∀bJ,Q v (upd H2 a (DQ P w a bJ (jI z cA)))
def Vk(ho:PE X o to)(ha:PA X (e::es) t)(h1:attributeBase o "pop" X.env (eval o X.env)=eval o X.env:=by rfl)(h2:((backTo aM (starEach (e::es) X.env)).all (fun x=>!x.1)&&(backToKw aM (keywordEach [] X.env)).all (fun x=>x.1.isSome)&&decide ((e::es).length+([]:List Keyword).length+(if([]:List Keyword).isEmpty then 0 else 1)<30))=true:=by rfl)(h3:(apos.endLine==aM.line)=true:=by rfl)(h4:starEach (e::es) X.env=(false,eval e X.env)::starEach es X.env:=by rfl)(h5:(backTo aM (starEach es X.env)).any (·.1)=false:=by rfl):
  PE X (.Call (.Attribute o "pop" apos) (e::es) [] aM) (Of X.prog X.w to t):=by
 intro pins s σ H Q I h;refine wpAny_Call_method_late h1 h2 h3 rfl (aK (ho pins s σ H _ I h) fun v s1 aH=>?_);obtain⟨x,H1,I1,r1,a,ep,aq,ex,sQ,q1⟩:=aH;subst ex;cases r1;obtain⟨_,_,SG,_,dd⟩:=dP I1 sQ;refine⟨"dict","dict.pop",F.plainAttrs_dict,F.slot_dict_pop,F.type_dict_pop,dd.dictOf.typeIs,dd.dictOf.mapOf.noDict,?_⟩;have hA:=ha aM pins s1 σ H1 _ I1 q1;rw[h4]at hA ⊢;refine p9 (by show(false||(backTo aM (starEach es X.env)).any (·.1))=false;rw[h5]<;>rfl) (Calls.evalArgs_plain (aK hA fun us s2 aH=>?_));obtain⟨vs,H2,I2,r2,z,aF,cA,v,ev,i4,hv,q2⟩:=aH;subst ev;obtain⟨h0,hz,nQ,r,kU⟩:=dP I2 i4;obtain⟨u,rfl,ru⟩:=r2.one;obtain⟨tk,rfl⟩:=ru;have hl:=r.look z;rw[hv]at hl;obtain⟨v',jY,rv⟩:∃v',valueAt nQ z=some v'/\aX v v':=by
  cases hx:valueAt nQ z with
  | none=>rw[hx]at hl;exact(show False from hl).elim
  | some w'=>rw[hx]at hl;exact⟨w',rfl,hl⟩
 refine call_meetsIn F.slot_dict_pop kU.dictOf.typeIs F.entry_dict_pop (F.args_dict_pop_2 _ _) (meets_dict_pop_there (strKind X.prog X.w) a (strKind_is X.prog X.w z tk) [] (.inl rfl) rfl) ⟨_,v',kU.dictOf,by rw[<- Paired.length r];exact hz,jY,fun h' jC hs=>?_⟩;obtain⟨bJ,jC⟩:=jC.dictAt;have e1:∃o,h'.get? a=some o:=let⟨o,_,e,_⟩:=jC;⟨o,e⟩;exact⟨v,_,I2.write (x:=a) (e:=a) (by rw[i4];trivial) (.inl rfl) (fun c u hc z=>(hs.2 c hc).trans z) e1 (o8.ok ⟨⟨h0,YB (Vj z cA) hz⟩,_,r.rm z,jC⟩),rv,q2 bJ⟩
end
section
variable{P:Program}{w:World}{K:au}
def Og(P:Program)(w:World)(ao:AE)(l:AA):AE:=fun ρ A Q=>ao ρ A fun x A1=>∃a ep kus,x=.ref a/\A1 a=some (dS P w ep kus)/\l ρ A1 fun us A2=>∃z aF cB u,us=[.str z]/\A2 a=some (dS P w aF cB)/\cB.lookup z=some u/\∀bJ,Q u (af A2 a (dS P w bJ (jI z cB)))
def Zka{t:TA}(ho:aV K to ao)(hl:fk K t l):aV K (Of P w to t) (Og P w ao l):=fun ρ A σ H Q' Q hs g wh k =>
 ho ρ A σ H _ _ hs g wh fun x A1 v1 H1 k1 g1 r1 aD=>by
  obtain⟨a,ep,kus,e1,e2,q⟩:=aD
  subst e1
  cases r1
  obtain⟨aq,h1,rr⟩:=fO g1 e2
  refine⟨a,ep,aq,rfl,h1,hl ρ A1 σ H1 _ _ (hs.same k1) g1 q fun us A2 vs H2 k2 g2 r2 aH=>?_⟩
  obtain⟨z,aF,cB,u,e3,e4,hu,q2⟩:=aH
  subst e3
  obtain⟨v,rfl,rv⟩:=r2.inv1
  cases rv
  obtain⟨cA,h2,yb⟩:=fO g2 e4
  obtain⟨v,hv,rv⟩:=yb.look hu
  refine⟨z,aF,cA,v,rfl,h2,hv,fun bJ=>?_⟩
  have kp:Kp K H2 (upd H2 a (DQ P w a bJ (jI z cA))):=Kp.ext h2
  exact k _ _ _ _ (k1.trans (k2.trans kp)) (g2.dO kp (xX Zs (yb.rm.same kp))) (rv.same kp) (q2 bJ)
def Znt{A:aw}:Og P w ao l ρ A Q=ao ρ A fun x A1=>∃a ep kus,x=.ref a/\A1 a=some (dS P w ep kus)/\l ρ A1 fun us A2=>∃z aF cB u,us=[.str z]/\A2 a=some (dS P w aF cB)/\cB.lookup z=some u/\∀bJ,Q u (af A2 a (dS P w bJ (jI z cB))):=rfl
end
section
variable{X:Cx}
def Oh(P:Program)(w:World):List V->Hp->VK->Prop:=fun xs H Q=>∃a ks,xs=[.ref a]/\H a=some (jG P w a ks)/\Q (.int ks.length) H
theorem Vl:Z4 X (.builtin "len") (Oh X.prog X.w):=by
 intro pins s σ H xs us Q I r h;obtain⟨a,ks,rfl,ha,q⟩:=h;obtain⟨u,rfl,ru⟩:=r.one;cases ru;have hS:cN X.prog X.w s.heap a ks:=(I.aE a _ ha).1;obtain⟨o,es,ep,t,e1,ex,ed,el,⟨l,cx,dj⟩,hsz,hf,_⟩:=hS;have hn:es.size=ks.length:=by
  have:=congrArg List.length cx;rw[Yc,strValues,Yc,Array.length_toList]at this;rw[this,<- dj.length_eq,Yc]
 refine call_len_set e1 ex ed hf (by rw[show scanBound=4096 from rfl]at hsz;lia) ⟨.int _,H,I.tok _,⟨_,rfl⟩,?_⟩;rw[hn];exact q
end
section
variable{P:Program}{w:World}{K:au}
def Oi(P:Program)(w:World):List U->aw->bc->Prop:=fun us A Q=>∃a ks,us=[.ref a]/\A a=some (tS P w ks)/\Q (.int ks.length) A
def ZnF:hG K (Oh P w) (Oi P w):=fun xs us A H Q' Q r g h k=>by
 obtain⟨a,ks,rfl,ha,q⟩:=h
 obtain⟨v,rfl,rv⟩:=r.inv1
 cases rv
 exact⟨a,ks,rfl,g.set ha,k _ _ _ _ (.refl H) g (.int _) q⟩
def ZpG{A:aw}:Oi P w [.ref a] A Q=∃ks,A a=some (tS P w ks)/\Q (.int ks.length) A:=propext ⟨fun aD=>by obtain⟨_,ks,e,h⟩:=aD;cases e;exact⟨ks,h⟩,fun⟨ks,h⟩=>⟨a,ks,rfl,h⟩⟩
end
section
variable{X:Cx}{pins:List (Addr×Obj)}{σ:St}{H:Hp}{s:Shared}
def Inv.yA(I:Inv X pins σ H s)(k:∀b u,s.heap.get? b=some u->h'.get? b=some u)(kp:a_ H H')(new:∀b o,H' b=some o->H b=some o\/s.heap.objs.size<=b/\dD X.prog X.w H' h' b o):Inv X pins σ H' { s with heap:=h',toks:=t' }:=by
 refine I.step (g':=s.gens) (d':=s.drawn) (ch:=[]) (fun b hb=>nomatch hb) (fun b u _ _ _ e _=>k b u e) (fun b u _ _ _ e _=>⟨u.slots,k b u e⟩) (fun b u _ e n=>?_)
  (fun b u _ e=>⟨u,k b u e⟩) (fun b xs e=>kp _ _ e) (fun b u v e=>kp _ _ e) (fun b ps e=>⟨#[],by rw[kp _ _ e];simp⟩) (fun m hm=>?_) (fun b u e=>?_) I.bare
 .cases q:H' b with
  | none=>rfl
  | some o =>
   rcases new b o q with z|⟨z,_⟩
   .rw[n]at z;cases z
   .exact absurd (Ym e) (Nat.not_lt.mpr z)
 .obtain⟨ob,es,ep,ho,r⟩:=hm;exact⟨ob,es,ep,k _ ob ho,r⟩
 .rcases new b u e with z|⟨_,z⟩
  .exact(I.aE b u z).dh (fun c v _ q=>k c v q) (fun c q=>kp _ _ q) fun c xs q=>kp _ _ q
  .exact z
end
def Oj(P:Program)(w:World)(te:TE):TE:=fun σ H Q=>te σ H fun x H1=>∃d ep aq,x=.ref d/\H1 d=some (DQ P w d ep aq)/\∀l (as:List Addr) H2,H1 l=none->a_ H1 H2->as.length=aq.length->H2 l=some (.lst (as.map V.ref))->(∀(j:Nat) a p,as[j]? = some a->aq[j]? = some p->H2 a=some (.tup [.str p.1,p.2]))->Q (.ref l) H2
open Classical in
def qM (H:Hp) (l:Addr) (as:List Addr) (aq:List (Str × V)):Hp:=fun b=>if b=l then some (.lst (as.map V.ref)) else if h:∃ p:Str × V,∃ j:Nat,as[j]? = some b/\aq[j]? = some p then some (.tup [.str h.choose.1,h.choose.2]) else H b
def Vm{j:Nat}(nd:as.Nodup)(hl:l∉as)(ha:as[j]? = some a)(hp:aq[j]? = some p):qM H l as aq a=some (.tup [.str p.1,p.2]):=by
 have h:∃p:Str×V,∃j:Nat,as[j]? = some a/\aq[j]? = some p:=⟨p,j,ha,hp⟩;unfold qM;rw[if_neg (fun e:a=l=>hl (by rw[<- e];exact Yi ha)),dif_pos h];obtain⟨j',h1,h2⟩:=h.choose_spec;have:=(List.getElem?_inj (Yg.mp ha).1 nd).mp (ha.trans h1.symm);subst this;rw[hp]at h2;rw[<- YA h2]
def mF{o:HO}(h:qM H l as aq b=some o):b=l/\o=.lst (as.map V.ref)\/(∃(j:Nat)(p:Str×V),as[j]? = some b/\aq[j]? = some p/\o=.tup [.str p.1,p.2])\/H b=some o:=by
 unfold qM at h;split at h
 .cases h;exact .inl ⟨by assumption,rfl⟩
 .split at h
  .rename_i e;cases h;obtain⟨j,h1,h2⟩:=e.choose_spec;exact .inr (.inl ⟨j,_,h1,h2,rfl⟩)
  .exact .inr (.inr h)
section
variable{X:Cx}{o:Expr}{te:TE}{p1 pe apos aM:Pos}
theorem Ol:∀as:List Addr,ZU (as.map V.ref) (as.map Value.ref)
 | []=>.nil
 | a::as=>.cons rfl (Ol as)
theorem Vn(hc:X.calm=true)(Vo:Gl X "list")(hm1:X.mg "list"=none)(ho:PE X o te)(cW:attributeBase o "items" X.env (eval o X.env)=eval o X.env:=by rfl)(cX:(apos.endLine==aM.line)=true:=by rfl)(km:starEach [.Call (.Attribute o "items" apos) [] [] aM] X.env=[(false,eval (.Call (.Attribute o "items" apos) [] [] aM) X.env)]:=by rfl):PE X (.Call (.Name "list" p1) [.Call (.Attribute o "items" apos) [] [] aM] [] pe) (Oj X.prog X.w te):=by
 intro pins s σ H Q I h;refine lF (oB I Vo hm1 (show bootBuiltins "list"=some (.type "list") by decide +kernel) (wm (T:="list") ?_ km rfl) (by decide) (by decide));rw[km];refine(show wpAny _ _ (spliced ((false,eval (.Call (.Attribute o "items" apos) [] [] aM) X.env)::[])) _ _ s from IJ (wpAny_Call_method0_late cW cX (aK (ho pins s σ H _ I h) fun v s1 aH=>?_)));obtain⟨x,H1,I1,r1,q1⟩:=aH;obtain⟨d,ep,aq,rfl,hq,q⟩:=q1;cases r1;obtain⟨h0,hz,vs,r,dd⟩:=dP I1 hq;have hl:aq.length=vs.length:=Paired.length r;refine⟨"dict","dict.items",F.plainAttrs_dict,F.slot_dict_items,F.type_dict_items,dd.dictOf.typeIs,dd.dictOf.mapOf.noDict,p9 rfl (PySem.evalArgs_none (call_meetsIn F.slot_dict_items dd.dictOf.typeIs F.entry_dict_items (F.args_dict_items_1 _) (meets_dict_items (strKind X.prog X.w) d h0) ⟨⟨vs,dd.dictOf⟩,IM ?_⟩))⟩;have hsz:(s1.heap.push { cls:=.type "dict_items",data:=.fields #[.ref d] }).objs.size=s1.heap.objs.size+1:=by simp[Heap.push]
 refine PySem.W.kdx_call (r:=s1.heap.objs.size) (I1.ok.hd hc) ⟨_,Yl _ rfl,rfl,rfl⟩ (vq dd) (by rw[<- hl];exact hz) fun h' tk acc c as hk mz hlen G sX=>?_;have kp:∀b o,s1.heap.get? b=some o->h'.get? b=some o:=fun b o e=>hk b o (Yd _ e);have nd:as.Nodup:=G.rise.imp fun h=>Yo h;have Vp:s1.heap.objs.size+1∉as:=fun e=>by
  have:=G.above _ e;rw[hsz]at this;exact om _ this
 rw[hsz]at mz ⊢;have I2 : Inv X pins σ (qM H1 (s1.heap.objs.size+1) as aq) { s1 with heap:=h',toks:=tk }:=by
  refine I1.yA kp (fun b o e=>?_) fun b o e=>?_
  .have hb:=I1.aE.lt e;unfold qM;rw[if_neg (Yo (YR hb)),dif_neg]
   .exact e
   .rintro⟨p,j,h1,_⟩;have:=G.above _ (Yi h1);rw[hsz]at this;exact om _ (Nat.lt_trans (Nat.lt_trans hb (Y7 _)) this)
  .rcases mF e with⟨rfl,rfl⟩|⟨j,p,h1,h2,rfl⟩|e
   .refine .inr ⟨fV _,by rw[Yc,hlen,<- hl];exact hz,acc.toList,c,?_,mz⟩;rw[sX];exact Ol as
   .obtain⟨key,k,x,h3,h4,h5⟩:=G.pairs j b h1;obtain⟨u,h6,ru⟩:=xZ r h2;rw[h3]at h6;cases h6;obtain⟨t,rfl⟩:=Value.isStrOf_shape h4;have:=G.above _ (Yi h1);rw[hsz]at this;exact .inr ⟨lH (Nat.lt_trans (Y7 _) this),by show 2<=sizeLine;decide,[Value.str p.1 t,x],.cons ⟨_,rfl⟩ (.cons ru .nil),⟨_,h5,rfl,_,rfl⟩⟩
   .exact .inl e
 refine⟨.ref (s1.heap.objs.size+1),_,I2,rfl,q _ as _ (I1.aE.fresh (fV _)) (fun b o e=>?_) (by rw[hlen,hl]) (by unfold qM;rw[if_pos rfl]) fun j a p h1 h2=>Vm nd Vp h1 h2⟩;have hb:=I1.aE.lt e;unfold qM;rw[if_neg (Yo (YR hb)),dif_neg]
 .exact e
 .rintro⟨p,j,h1,_⟩;have:=G.above _ (Yi h1);rw[hsz]at this;exact om _ (Nat.lt_trans (Nat.lt_trans hb (Y7 _)) this)
end
section
variable{P:Program}{w:World}{K:au}
def Om(P:Program)(w:World)(a:AE):AE:=fun ρ A Q=>a ρ A fun x A1=>∃p ep kus,x=.ref p/\A1 p=some (dS P w ep kus)/\∀l,A1 l=none->Q (.ref l) (af A1 l (.lst (kus.map fI)))
theorem Oo:∀ {kus:List (Str×U)} {as:List Addr},as.length=kus.length->(∀(j:Nat) a p,as[j]? = some a->kus[j]? = some p->RU K H (f p) (.ref a))->aJ K H (kus.map f) (as.map V.ref)
 | [],[],_,_=>.nil
 | p::kus,a::as,hl,h=>.cons (h 0 a p rfl rfl) (Oo (by simpa using hl) fun j b q h1 h2=>h (j+1) b q (by simpa using h1) (by simpa using h2))
def ZiX{t:TE}{a:AE}(ha:aV K t a):aV K (Oj P w t) (Om P w a):=fun ρ A σ H Q' Q hs g wh k =>
 ha ρ A σ H _ _ hs g wh fun x A1 v H1 k1 g1 r1 aD=>by
  obtain⟨p,ep,kus,e,eA,q⟩:=aD
  subst e;cases r1
  obtain⟨aq,h1,rr⟩:=fO g1 eA
  refine⟨p,ep,aq,rfl,h1,fun l as H2 hl sm hlen h2 ht=>?_⟩
  have hn:=g1.none hl
  refine k _ _ _ _ (k1.trans sm.kp) (fun b o q=>?_) (.ref _) (q l hn)
  by_cases hb:b=l
  .subst hb
   rw[Zb]at q
   cases q
   refine⟨_,h2,Oo (by rw[hlen,rr.len]) fun j a p h3 h4=>?_⟩
   obtain⟨v,hv,rv⟩:=rr.get h4
   exact .tup (.inl (.inl (ht j a _ h3 hv))) (.cons (.str _) (.cons (rv.same sm.kp) .nil))
  .rw[Zi hb]at q
   have h3:=g1 b o q
   obtain⟨o',h4⟩:∃o',H1 b=some o':=by
    cases o with
    | lst us=>obtain⟨_,h,_⟩:=h3;exact⟨_,h⟩
    | ins C dx fs=>obtain⟨_,h,_⟩:=h3;exact⟨_,h⟩
    | cZ φ=>exact h3.1
   exact h3.keep sm.kp (by rw[h4];exact sm _ _ h4)
def ZkT{a:AE}{A:aw}:Om P w a ρ A Q=a ρ A fun x A1=>∃p ep kus,x=.ref p/\A1 p=some (dS P w ep kus)/\∀l,A1 l=none->Q (.ref l) (af A1 l (.lst (kus.map fI))):=rfl
end
open PySem
def ZS.z{bx:List (Str×Nat)}{names:List (Str×NameKind)}(a:closureFor scope X.env=pure cl:=by rfl)(b:scope.kind=.function:=by rfl)(c:∀y∈scope.names,y.2≠.cell:=by decide +kernel)(d:∀y∈scope.names,y.2=.local->scope.names.lookup y.1=some .local:=by decide +kernel)(e:∀p∈cl,X.env.cells.lookup p.1=some p.2:=by repeat' first|exact vd|refine qo (by rfl) ?_)(f:(relabel scope X.env).names=names:=by rfl)(g:(names.all fun p=>(p.2 != .cell&&p.2 != .free)||(cl.lookup p.1).isSome)=true:=by rfl)(h:∀p∈bx,X.N[p.2]? = some p.1/\(X.env.kindOf p.1=some .cell\/X.env.kindOf p.1=some .free)/\((relabel scope X.env).names.lookup p.1=some .cell\/(relabel scope X.env).names.lookup p.1=some .free)/\(cl.lookup p.1).isSome=true:=by repeat' first|exact vd|refine qo ⟨by rfl,by first|exact .inl rfl|exact .inr rfl,by first|exact .inl rfl|exact .inr rfl,by rfl⟩ ?_):
  ZS X scope cl ts bx:=⟨a,b,c,d,e,DP f g,h⟩
end L2
namespace My
open PySem L2
local macro_rules | `(tactic| walk_at "d") => do
 let ls <- ("Zsy Zr4 ZqB Zsc ZtW Zqv q_c Zww Zwm ZwF Zue ZuC Zwf Zte Zsl ZuH ZrR Ztl ZsF Znl Zuc ZtE Zwi Zrg Zkn Zql Zwo Zuf Zwt Zrn Zt9 Zq2 ZuR ZuZ Zu9 Zt6 Zuj ZtH ZmN Zus ZtF ZwA Zut Ztp Zuk Zuz Zpz ZqV Zoe ZrX ZqW ZrM Zp6 ZqK Zwy ZuB Zta Ztz ZsZ ZtM Zt5 Ztc Zs8 Zun Zux ZpE Zsm Zrh ZpH ZpF Zvd ZtS Ztk ZtY ZuQ Zqs Zq5 Zpj Zp2 Zsw ZuF ZqF Zra Zoq Zqe Zov ZqP Zoy ZsY Zt0 Zs2 Zuy Ztg Zub ZuG Zsv Zuh ZuK Zpk ZqT ZsE ZpV ZqA Zpo Zui ZtX Zs7 ZtI Zr2 Zto ZpM Zu3 Zpq Zrr Zp4 ZuM ZqG Ztb Ztm ZtC ZsB Zrm Zqh Zsp ZrB ZkT Zq9 ZoP Ztq Zqq Zr6 ZpK ZvF ZvE Zh7 ZlY Zpa Ztt Zm6 ZtU Zt3 Zpy ZmW Znh ZnJ ZnL Zpu ZoI Zqm ZtR Zlk ZnQ Zrv ZoE ZtL ZuN Zsk ZvF ZvE Zh7 ZlY Zpa Zqg ZqS ZnW Znc ZpG Znt Zqz ZrV Zwz Zws Zlj Zn3".splitOn " ").toArray.mapM fun s => `(Lean.Parser.Tactic.simpLemma| ↓$(Lean.mkIdent (.mkSimple s)):ident)
 `(tactic| (try simp only [$ls,*,List.set_cons_zero,List.set_cons_succ,List.cons_append,List.nil_append]))
local macro_rules | `(tactic| walk_at "g") => `(tactic| (walk_at "d"; (try simp only [↓ZtJ, ↓Zuw]); walk_at "d"))
local macro_rules | `(tactic| walk_at "s") => `(tactic| (simp only [L2.aStart, Yr, Ya4, List.length_cons, List.length_nil, List.replicate, List.cons_append, List.nil_append, Nat.reduceAdd, Nat.reduceSub]))
local macro_rules | `(tactic| walk_at "o") => `(tactic| (refine ⟨rfl, ?_⟩; walk_at "s"; walk_at "d"))
local macro_rules | `(tactic| walk_at "c") => `(tactic| (try simp only [L2.aCompStart, List.replicate, Yr, Ya4, List.getElem?_cons_zero, List.getElem?_cons_succ, Option.join_some, List.cons_append, List.nil_append]))
local macro_rules | `(tactic| walk_at "aba") => `(tactic| (first | apply Zh | apply Zf | apply ZA | apply Zr | apply ZC | apply ZK | apply Zu | apply Zav | apply ZR | apply ZM | apply ZcD | apply ZaX | apply Zai | apply Zbk | apply ZV | apply Zc7 | apply ZaV | apply Zbn | apply Zfq | apply ZaI | apply ZaL | apply Zl9 | apply ZbK | apply ZbD | apply ZfV | apply Zd6 | apply ZbR | apply ZaR | apply ZoF | apply ZeA | apply ZpO | apply ZmB | apply ZaQ | apply Zb5 | apply Zbd | apply ZcC | apply Zc3 | apply ZoS | apply Zjr | apply Zfg | apply ZmH | apply Zoo | apply Zia | apply ZlT | apply ZcH | apply ZoN | apply Zk2 | apply Zfe | apply Zgl | apply Zky | apply ZkN | apply Zir | apply Zon | apply ZhL | apply Zqb | apply ZoH | apply ZpR | apply ZuY | apply ZhM | apply ZqQ | apply ZrC | apply Zbr | apply ZdZ | apply Ztr | apply Zdf | apply ZqM | apply ZoL | apply ZqE | apply Ziz | apply ZcQ | apply ZfF | apply Znj | apply Zlx | apply ZkZ | apply ZiS | apply Zcp | apply Zk1 | apply Zpn | apply Zqn | apply ZdW | apply ZtZ | apply ZnC | apply Zm2 | apply ZkX | apply ZsD | apply ZkQ | apply Zsn | apply ZhT | apply Zrd | apply Zo9 | apply ZeF | apply ZkV | apply Zqd | apply Ztx | apply ZcK | apply ZdS | apply Zrf | apply ZmZ | apply Zpl | apply ZjF | apply ZnK | apply Zop | apply Ze3 | apply ZqH | apply ZrH | apply Zka | apply Zkg | apply Zsx | apply ZnF | apply Zrw | apply ZnP | apply Zk6 | apply ZkU | apply Zk8 | apply Zd5 | apply Zje | apply ZhN | apply Zh0 | apply ZqD | apply ZiX))
local macro_rules | `(tactic| walk_at "ab") => `(tactic| (repeat' first | with_reducible apply Zmi | with_reducible walk_at "aba" | walk_at "aba" | exact ZvB | assumption))
local macro_rules | `(tactic| walk_at "abh") => `(tactic| (repeat' first | with_reducible apply Zce | with_reducible walk_at "aba" | walk_at "aba" | exact ZvB | assumption))
local macro_rules | `(tactic| walk_at "f") => `(tactic| ((conv => lhs; whnf); (conv => lhs; whnf)))
def top(i:Nat):Stmt:=PySem.Challenge.pw_figurebook_k07_refused_in_order.main.body.getD i (.Pass ⟨0,0,0,0⟩)
def hm0:Value:=.str "figurebook.rules" 314
def hm1:Value:=.str "law_figurebook_k07_refused_in_order" 896
def hm2:Value:=.str "figurebook.books" 699
def hm3:Value:=.str "figurebook.errors" 194
def hKl(P:Params):List (Addr×Obj):=[[(2,(Obj.mk .none none (.dict #[] 0) #[])),
 (3,hNs 60 [Zw P "__name__" 165 hm1,Zw P "__doc__" 166 .none,Zw P "__package__" 167 .none,Zw P "__loader__" 168 (.builtin "__main__.__loader__#opaque"),Zw P "__spec__" 169 .none,Zw P "__annotations__" 170 (.ref 6),Zw P "__builtins__" 171 (.ref 4),Zw P "__file__" 173 (.str "/claim/cut.py" 172),Zw P "__cached__" 174 .none,Zw P "_wall" 193 (.ref 21),Zw P "FigureError" 213 (.ref 31),Zw P "Twice" 238 (.ref 51),Zw P "NoClass" 263 (.ref 70),Zw P "Hollow" 288 (.ref 89),Zw P "Round" 313 (.ref 108),Zw P "Rule" 352 (.ref 134),Zw P "Nothing" 375 (.ref 155),Zw P "Bead" 407 (.ref 181),Zw P "Or" 448 (.ref 214),Zw P "By" 489 (.ref 247),Zw P "Row" 528 (.ref 280),Zw P "Bag" 567 (.ref 313),Zw P "Choice" 606 (.ref 346),Zw P "Ring" 645 (.ref 379),Zw P "Named" 684 (.ref 412),Zw P "term_text" 691 (.ref 421),Zw P "factor_text" 698 (.ref 428),Zw P "Book" 809 (.ref 513),Zw P "rules_by_name" 819 (.ref 524),Zw P "leasts_by_name" 825 (.ref 529),Zw P "least_of" 831 (.ref 534),Zw P "refuse_hollow_parts" 841 (.ref 541),Zw P "has_hollow_part" 847 (.ref 546),Zw P "leans_by_name" 853 (.ref 551),Zw P "leaning_names" 863 (.ref 558),Zw P "leaning_parts" 869 (.ref 563),Zw P "refuse_rounds" 875 (.ref 568),Zw P "round_from" 884 (.ref 575),Zw P "spoken_names" 895 (.ref 582),Zw P "_law_cell" 905 (.ref 589),Zw P "_law_words" 911 (.ref 594),Zw P "_law_colour" 918 (.ref 601),Zw P "_law_hollow" 926 (.ref 608),Zw P "_law_op" 942 (.ref 615),Zw P "_law_rule" 955 (.ref 622),Zw P "_law_rules" 961 (.ref 627),Zw P "_law_object" 969 (.ref 634),Zw P "_law_pairs" 975 (.ref 639),Zw P "_law_least" 981 (.ref 644),Zw P "_law_leasts" 993 (.ref 651),Zw P "_law_leaning" 1002 (.ref 658),Zw P "_law_inside" 1011 (.ref 665),Zw P "_law_hollow_part" 1020 (.ref 672),Zw P "_law_goes_round" 1026 (.ref 677),Zw P "_law_verdict" 1032 (.ref 682),Zw P "_law_is_round" 1045 (.ref 689),Zw P "_law_asked" 1051 (.ref 694),Zw P "_law_spoilt" 1067 (.ref 701),Zw P "_law_mix" 1077 (.ref 708),Zw P "law" 1091 (.ref 715)])],
 hF 21 187 1 1 3 191 true (top 0) "_wall" "_wall" (.str "__main__" 164),
 [(30,hNs 3 [Zw P "__module__" 203 hm3,Zw P "__firstlineno__" 207 (.int 5 206),Zw P "__static_attributes__" 208 (.ref 29),Zw P "__weakref__" 210 (.ref 32),Zw P "__doc__" 211 .none]),
 iP 31 "FigureError" [.type "ValueError",.type "Exception",.type "BaseException",.type "object"] [.ref 51,.ref 70,.ref 89,.ref 108] (some (.ref 22)) 196 "ValueError.__new__"],
 hF 48 226 9 2 3 231 true (Zv (top 3) 0) "__init__" "Twice.__init__" hm3,
 [(50,hNs 2 [Zw P "__module__" 221 hm3,Zw P "__firstlineno__" 225 (.int 7 224),Zw P "__init__" 233 (.ref 48),Zw P "__static_attributes__" 235 (.ref 49),Zw P "__doc__" 236 .none]),
 iP 51 "Twice" [.ref 31,.type "ValueError",.type "Exception",.type "BaseException",.type "object"] [] (some (.ref 35)) 214 "ValueError.__new__"],
 hF 67 251 14 2 3 256 true (Zv (top 4) 0) "__init__" "NoClass.__init__" hm3,
 [(69,hNs 2 [Zw P "__module__" 246 hm3,Zw P "__firstlineno__" 250 (.int 12 249),Zw P "__init__" 258 (.ref 67),Zw P "__static_attributes__" 260 (.ref 68),Zw P "__doc__" 261 .none]),
 iP 70 "NoClass" [.ref 31,.type "ValueError",.type "Exception",.type "BaseException",.type "object"] [] (some (.ref 54)) 239 "ValueError.__new__"],
 hF 86 276 19 2 3 281 true (Zv (top 5) 0) "__init__" "Hollow.__init__" hm3,
 [(88,hNs 2 [Zw P "__module__" 271 hm3,Zw P "__firstlineno__" 275 (.int 17 274),Zw P "__init__" 283 (.ref 86),Zw P "__static_attributes__" 285 (.ref 87),Zw P "__doc__" 286 .none]),
 iP 89 "Hollow" [.ref 31,.type "ValueError",.type "Exception",.type "BaseException",.type "object"] [] (some (.ref 73)) 264 "ValueError.__new__"],
 hF 105 301 24 2 3 306 true (Zv (top 6) 0) "__init__" "Round.__init__" hm3,
 [(107,hNs 2 [Zw P "__module__" 296 hm3,Zw P "__firstlineno__" 300 (.int 22 299),Zw P "__init__" 308 (.ref 105),Zw P "__static_attributes__" 310 (.ref 106),Zw P "__doc__" 311 .none]),
 iP 108 "Round" [.ref 31,.type "ValueError",.type "Exception",.type "BaseException",.type "object"] [] (some (.ref 92)) 289 "ValueError.__new__"],
 hF 124 328 30 1 3 332 true (Zv (top 8) 0) "inside" "Rule.inside" hm0,
 hF 131 335 33 1 3 342 true (Zv (top 8) 1) "names" "Rule.names" hm0,
 [(133,hNs 4 [Zw P "__module__" 323 hm0,Zw P "__firstlineno__" 327 (.int 28 326),Zw P "inside" 334 (.ref 124),Zw P "names" 344 (.ref 131),Zw P "__static_attributes__" 345 (.ref 132),Zw P "__dict__" 347 (.ref 135),Zw P "__weakref__" 349 (.ref 136),Zw P "__doc__" 350 .none]),
 iP 134 "Rule" [.type "object"] [.ref 155,.ref 181,.ref 214,.ref 247,.ref 280,.ref 313,.ref 346,.ref 379,.ref 412] none 316 "object.__new__",
 (154,hNs 2 [Zw P "__module__" 360 hm0,Zw P "__firstlineno__" 364 (.int 39 363),Zw P "told" 371 (.ref 152),Zw P "__static_attributes__" 372 (.ref 153),Zw P "__doc__" 373 .none]),
 iP 155 "Nothing" [.ref 134,.type "object"] [] (some (.ref 139)) 353 "object.__new__"],
 hF 171 388 45 2 3 393 true (Zv (top 10) 0) "__init__" "Bead.__init__" hm0,
 [(180,hNs 2 [Zw P "__module__" 383 hm0,Zw P "__firstlineno__" 387 (.int 43 386),Zw P "__init__" 395 (.ref 171),Zw P "told" 402 (.ref 178),Zw P "__static_attributes__" 404 (.ref 179),Zw P "__doc__" 405 .none]),
 iP 181 "Bead" [.ref 134,.type "object"] [] (some (.ref 158)) 376 "object.__new__"],
 hF 197 420 52 3 3 426 true (Zv (top 11) 0) "__init__" "Or.__init__" hm0,
 hF 204 429 56 1 3 433 true (Zv (top 11) 1) "inside" "Or.inside" hm0,
 [(213,hNs 2 [Zw P "__module__" 415 hm0,Zw P "__firstlineno__" 419 (.int 50 418),Zw P "__init__" 428 (.ref 197),Zw P "inside" 435 (.ref 204),Zw P "told" 442 (.ref 211),Zw P "__static_attributes__" 445 (.ref 212),Zw P "__doc__" 446 .none]),
 iP 214 "Or" [.ref 134,.type "object"] [] (some (.ref 184)) 408 "object.__new__"],
 hF 230 461 63 3 3 467 true (Zv (top 12) 0) "__init__" "By.__init__" hm0,
 hF 237 470 67 1 3 474 true (Zv (top 12) 1) "inside" "By.inside" hm0,
 [(246,hNs 2 [Zw P "__module__" 456 hm0,Zw P "__firstlineno__" 460 (.int 61 459),Zw P "__init__" 469 (.ref 230),Zw P "inside" 476 (.ref 237),Zw P "told" 483 (.ref 244),Zw P "__static_attributes__" 486 (.ref 245),Zw P "__doc__" 487 .none]),
 iP 247 "By" [.ref 134,.type "object"] [] (some (.ref 217)) 449 "object.__new__"],
 hF 263 502 74 2 3 507 true (Zv (top 13) 0) "__init__" "Row.__init__" hm0,
 hF 270 510 77 1 3 514 true (Zv (top 13) 1) "inside" "Row.inside" hm0,
 [(279,hNs 2 [Zw P "__module__" 497 hm0,Zw P "__firstlineno__" 501 (.int 72 500),Zw P "__init__" 509 (.ref 263),Zw P "inside" 516 (.ref 270),Zw P "told" 523 (.ref 277),Zw P "__static_attributes__" 525 (.ref 278),Zw P "__doc__" 526 .none]),
 iP 280 "Row" [.ref 134,.type "object"] [] (some (.ref 250)) 490 "object.__new__"],
 hF 296 541 84 2 3 546 true (Zv (top 14) 0) "__init__" "Bag.__init__" hm0,
 hF 303 549 87 1 3 553 true (Zv (top 14) 1) "inside" "Bag.inside" hm0,
 [(312,hNs 2 [Zw P "__module__" 536 hm0,Zw P "__firstlineno__" 540 (.int 82 539),Zw P "__init__" 548 (.ref 296),Zw P "inside" 555 (.ref 303),Zw P "told" 562 (.ref 310),Zw P "__static_attributes__" 564 (.ref 311),Zw P "__doc__" 565 .none]),
 iP 313 "Bag" [.ref 134,.type "object"] [] (some (.ref 283)) 529 "object.__new__"],
 hF 329 580 94 2 3 585 true (Zv (top 15) 0) "__init__" "Choice.__init__" hm0,
 hF 336 588 97 1 3 592 true (Zv (top 15) 1) "inside" "Choice.inside" hm0,
 [(345,hNs 2 [Zw P "__module__" 575 hm0,Zw P "__firstlineno__" 579 (.int 92 578),Zw P "__init__" 587 (.ref 329),Zw P "inside" 594 (.ref 336),Zw P "told" 601 (.ref 343),Zw P "__static_attributes__" 603 (.ref 344),Zw P "__doc__" 604 .none]),
 iP 346 "Choice" [.ref 134,.type "object"] [] (some (.ref 316)) 568 "object.__new__"],
 hF 362 619 104 2 3 624 true (Zv (top 16) 0) "__init__" "Ring.__init__" hm0,
 hF 369 627 107 1 3 631 true (Zv (top 16) 1) "inside" "Ring.inside" hm0,
 [(378,hNs 2 [Zw P "__module__" 614 hm0,Zw P "__firstlineno__" 618 (.int 102 617),Zw P "__init__" 626 (.ref 362),Zw P "inside" 633 (.ref 369),Zw P "told" 640 (.ref 376),Zw P "__static_attributes__" 642 (.ref 377),Zw P "__doc__" 643 .none]),
 iP 379 "Ring" [.ref 134,.type "object"] [] (some (.ref 349)) 607 "object.__new__"],
 hF 395 658 114 2 3 663 true (Zv (top 17) 0) "__init__" "Named.__init__" hm0,
 hF 402 666 117 1 3 670 true (Zv (top 17) 1) "names" "Named.names" hm0,
 [(411,hNs 2 [Zw P "__module__" 653 hm0,Zw P "__firstlineno__" 657 (.int 112 656),Zw P "__init__" 665 (.ref 395),Zw P "names" 672 (.ref 402),Zw P "told" 679 (.ref 409),Zw P "__static_attributes__" 681 (.ref 410),Zw P "__doc__" 682 .none]),
 iP 412 "Named" [.ref 134,.type "object"] [] (some (.ref 382)) 646 "object.__new__"],
 hF 440 713 133 2 3 716 false (Zv (top 21) 0) "__init__" "Book.__init__" hm2,
 [(512,hNs 4 [Zw P "__module__" 708 hm2,Zw P "__firstlineno__" 712 (.int 131 711),Zw P "__init__" 718 (.ref 440),Zw P "names" 725 (.ref 447),Zw P "rule" 733 (.ref 454),Zw P "hollow" 741 (.ref 461),Zw P "least" 749 (.ref 468),Zw P "leans" 757 (.ref 475),Zw P "speaks" 765 (.ref 482),Zw P "rings" 773 (.ref 489),Zw P "choices" 781 (.ref 496),Zw P "spoken_rules" 789 (.ref 503),Zw P "need_class" 797 (.ref 510),Zw P "__static_attributes__" 802 (.ref 511),Zw P "__dict__" 804 (.ref 514),Zw P "__weakref__" 806 (.ref 515),Zw P "__doc__" 807 .none]),
 iP 513 "Book" [.type "object"] [] none 701 "object.__new__"],
 hF 524 810 175 1 3 817 true (top 22) "rules_by_name" "rules_by_name" hm2,
 hF 529 820 186 1 3 823 false (top 23) "leasts_by_name" "leasts_by_name" hm2,
 hF 534 826 193 2 3 829 false (top 24) "least_of" "least_of" hm2,
 hF 541 832 206 2 3 839 true (top 25) "refuse_hollow_parts" "refuse_hollow_parts" hm2,
 hF 546 842 210 2 3 845 false (top 26) "has_hollow_part" "has_hollow_part" hm2,
 hF 551 848 214 2 3 851 false (top 27) "leans_by_name" "leans_by_name" hm2,
 hF 558 854 216 2 3 861 true (top 28) "leaning_names" "leaning_names" hm2,
 hF 563 864 223 2 3 867 false (top 29) "leaning_parts" "leaning_parts" hm2,
 hF 568 870 228 1 3 873 false (top 30) "refuse_rounds" "refuse_rounds" hm2,
 hF 575 876 236 2 3 882 true (top 31) "round_from" "round_from" hm2,
 hF 582 885 242 2 3 893 true (top 32) "spoken_names" "spoken_names" hm2,
 hF 589 898 252 2 3 903 true (top 34) "_law_cell" "_law_cell" hm1,
 hF 594 906 256 2 3 909 false (top 35) "_law_words" "_law_words" hm1,
 hF 601 912 265 1 3 916 true (top 36) "_law_colour" "_law_colour" hm1,
 hF 608 919 267 2 3 924 true (top 37) "_law_hollow" "_law_hollow" hm1,
 hF 615 927 275 5 3 940 true (top 38) "_law_op" "_law_op" hm1,
 hF 622 943 295 4 3 953 true (top 39) "_law_rule" "_law_rule" hm1,
 hF 627 956 305 2 3 959 false (top 40) "_law_rules" "_law_rules" hm1,
 hF 634 962 315 1 3 967 true (top 41) "_law_object" "_law_object" hm1,
 hF 644 976 336 2 3 979 false (top 43) "_law_least" "_law_least" hm1,
 hF 651 982 352 1 3 991 true (top 44) "_law_leasts" "_law_leasts" hm1,
 hF 658 994 360 2 3 1000 true (top 45) "_law_leaning" "_law_leaning" hm1,
 hF 665 1003 371 1 3 1009 true (top 46) "_law_inside" "_law_inside" hm1,
 hF 672 1012 377 2 3 1018 true (top 47) "_law_hollow_part" "_law_hollow_part" hm1,
 hF 677 1021 382 2 3 1024 false (top 48) "_law_goes_round" "_law_goes_round" hm1,
 hF 682 1027 391 1 3 1030 false (top 49) "_law_verdict" "_law_verdict" hm1,
 hF 689 1033 408 2 3 1043 true (top 50) "_law_is_round" "_law_is_round" hm1,
 hF 694 1046 419 1 3 1049 false (top 51) "_law_asked" "_law_asked" hm1,
 hF 701 1052 443 3 3 1065 true (top 52) "_law_spoilt" "_law_spoilt" hm1,
 hF 708 1068 464 1 3 1075 true (top 53) "_law_mix" "_law_mix" hm1,
 hF 715 1078 469 1 3 1089 true (top 54) "law" "law" hm1].flatten
def hK(P:Params):au:=hKl P
abbrev TX(P:Program)(w:World)(K:au)(mg:Str->Option Value)(base:Heap):=TX0 hK P w K mg base
def Vq:Addr:=134
def pF:Addr:=155
def nZ:Addr:=181
def mG:Addr:=214
def mH:Addr:=247
def ly:Addr:=280
def lz:Addr:=313
def lA:Addr:=346
def mI:Addr:=379
def n0:Addr:=412
def aI:Addr:=513
def ZO:Addr:=51
def ZB:Addr:=70
def ZE:Addr:=89
def ZN:Addr:=108
def Z1:Addr:=31
abbrev cS:=jB [pF,nZ,n0,mG,mH,ly,lz,lA,mI]
variable{P:Program}{w:World}{K:au}{mg:Str->Option Value}{base:Heap}(T:TX P w K mg base)
def TX.pG:=T.fr 48 (Zv (top 3) 0) "__init__" "Twice.__init__" hm3 ["self","name"] ["self","name"]
def TX.jJ:=T.xc ZO 48
def TX.pH:=T.fr 67 (Zv (top 4) 0) "__init__" "NoClass.__init__" hm3 ["self","name"] ["self","name"]
def TX.fR:=T.xc ZB 67
def TX.pI:=T.fr 86 (Zv (top 5) 0) "__init__" "Hollow.__init__" hm3 ["self","name"] ["self","name"]
def TX.ip:=T.xc ZE 86
def TX.pJ:=T.fr 105 (Zv (top 6) 0) "__init__" "Round.__init__" hm3 ["self","circle"] ["self","circle"]
def TX.jK:=T.xc ZN 105
def TX.kq:=T.fr 124 (Zv (top 8) 0) "inside" "Rule.inside" hm0 ["self"] ["self"]
def TX.du:=T.fr 131 (Zv (top 8) 1) "names" "Rule.names" hm0 ["self"] ["self","found","rule","name"]
def TX.tj:=T.fr 171 (Zv (top 10) 0) "__init__" "Bead.__init__" hm0 ["self","colour"] ["self","colour"]
def TX.tm:=T.mk' nZ 171
def TX.tq:=T.fr 197 (Zv (top 11) 0) "__init__" "Or.__init__" hm0 ["self","one","other"] ["self","one","other"]
def TX.Gk:=T.mk' mG 197
def TX.tu:=T.fr 204 (Zv (top 11) 1) "inside" "Or.inside" hm0 ["self"] ["self"]
def TX.Gm:=T.me mG "inside" 204
def TX.tw:=T.fr 230 (Zv (top 12) 0) "__init__" "By.__init__" hm0 ["self","one","other"] ["self","one","other"]
def TX.Gn:=T.mk' mH 230
def TX.tD:=T.fr 237 (Zv (top 12) 1) "inside" "By.inside" hm0 ["self"] ["self"]
def TX.Gp:=T.me mH "inside" 237
def TX.tE:=T.fr 263 (Zv (top 13) 0) "__init__" "Row.__init__" hm0 ["self","part"] ["self","part"]
def TX.yB:=T.mk' ly 263
def TX.tF:=T.fr 270 (Zv (top 13) 1) "inside" "Row.inside" hm0 ["self"] ["self"]
def TX.Gq:=T.me ly "inside" 270
def TX.tG:=T.fr 296 (Zv (top 14) 0) "__init__" "Bag.__init__" hm0 ["self","part"] ["self","part"]
def TX.yC:=T.mk' lz 296
def TX.tH:=T.fr 303 (Zv (top 14) 1) "inside" "Bag.inside" hm0 ["self"] ["self"]
def TX.Gr:=T.me lz "inside" 303
def TX.tI:=T.fr 329 (Zv (top 15) 0) "__init__" "Choice.__init__" hm0 ["self","part"] ["self","part"]
def TX.mJ:=T.mk' lA 329
def TX.tJ:=T.fr 336 (Zv (top 15) 1) "inside" "Choice.inside" hm0 ["self"] ["self"]
def TX.Gs:=T.me lA "inside" 336
def TX.tK:=T.fr 362 (Zv (top 16) 0) "__init__" "Ring.__init__" hm0 ["self","part"] ["self","part"]
def TX.tL:=T.mk' mI 362
def TX.tM:=T.fr 369 (Zv (top 16) 1) "inside" "Ring.inside" hm0 ["self"] ["self"]
def TX.Gu:=T.me mI "inside" 369
def TX.tN:=T.fr 395 (Zv (top 17) 0) "__init__" "Named.__init__" hm0 ["self","name"] ["self","name"]
def TX.pK:=T.mk' n0 395
def TX.pL:=T.fr 402 (Zv (top 17) 1) "names" "Named.names" hm0 ["self"] ["self"]
def TX.Gv:=T.me n0 "names" 402
def TX.pM:=T.fr 440 (Zv (top 21) 0) "__init__" "Book.__init__" hm2 ["self","pairs"] ["self","pairs"]
def TX.mK:=T.mk' aI 440
def TX.mL:=T.fm 524 (top 22) "rules_by_name" hm2 ["pairs"] ["pairs","found","name","rule"]
def TX.tO:=T.fm 529 (top 23) "leasts_by_name" hm2 ["rule_by"] ["rule_by","leasts","anew"]
def TX.iq:=T.fm 534 (top 24) "least_of" hm2 ["rule","leasts"] ["rule","leasts","within"]
def TX.mM:=T.fm 541 (top 25) "refuse_hollow_parts" hm2 ["rule_by","leasts"] ["rule_by","leasts","name","rule"]
def TX.ky:=T.fm 546 (top 26) "has_hollow_part" hm2 ["rule","leasts"] ["rule","leasts"]
def TX.tP:=T.fm 551 (top 27) "leans_by_name" hm2 ["rule_by","leasts"] ["rule_by","leasts"]
def TX.kz:=T.fm 558 (top 28) "leaning_names" hm2 ["rule","leasts"] ["rule","leasts","found","part"]
def TX.tQ:=T.fm 563 (top 29) "leaning_parts" hm2 ["rule","leasts"] ["rule","leasts","sides"]
def TX.mN:=T.fm 568 (top 30) "refuse_rounds" hm2 ["leans_by"] ["leans_by","left","leaning","kept"]
def TX.tR:=T.fm 575 (top 31) "round_from" hm2 ["name","leaning"] ["name","leaning","gone"]
def TX.tT:=T.fm 582 (top 32) "spoken_names" hm2 ["name","rule_by"] ["name","rule_by","found","waiting","one"]
def TX.fv:=T.fm 589 (top 34) "_law_cell" hm1 ["_law_script","_law_k"] ["_law_script","_law_k"]
def TX.tU:=T.fm 594 (top 35) "_law_words" hm1 ["_law_cell_here","_law_many"] ["_law_cell_here","_law_many","_law_letters","_law_stem","_law_at","_law_found","_law_k","_law_sign"]
def TX.tV:=T.fm 601 (top 36) "_law_colour" hm1 ["_law_cell_here"] ["_law_cell_here"]
def TX.fw:=T.fm 608 (top 37) "_law_hollow" hm1 ["_law_rule_here","_law_hollows"] ["_law_rule_here","_law_hollows"]
def TX.tW:=T.fm 615 (top 38) "_law_op" hm1 ["_law_stack","_law_cell_here","_law_names","_law_lower","_law_hollows"] ["_law_stack","_law_cell_here","_law_names","_law_lower","_law_hollows","_law_kind","_law_turn","_law_bead","_law_other","_law_part"]
def TX.tX:=T.fm 622 (top 39) "_law_rule" hm1 ["_law_cells","_law_names","_law_lower","_law_hollows"] ["_law_cells","_law_names","_law_lower","_law_hollows","_law_stack","_law_cell_here","_law_other"]
def TX.tY:=T.fm 627 (top 40) "_law_rules" hm1 ["_law_cells","_law_names"] ["_law_cells","_law_names","_law_rules_here","_law_hollows","_law_at","_law_dealt","_law_rule_here"]
def TX.gp:=T.fm 634 (top 41) "_law_object" hm1 ["_law_rule_here"] ["_law_rule_here","_law_one"]
def TX.fz:=T.fm 644 (top 43) "_law_least" hm1 ["_law_rule_here","_law_least_here"] ["_law_rule_here","_law_least_here","_law_one","_law_other"]
def TX.pN:=T.fm 651 (top 44) "_law_leasts" hm1 ["_law_rules_here"] ["_law_rules_here","_law_least_here","_law_turn","_law_name","_law_rule_here","_law_found"]
def TX.ir:=T.fm 658 (top 45) "_law_leaning" hm1 ["_law_rule_here","_law_least_here"] ["_law_rule_here","_law_least_here","_law_found"]
def TX.i9:=T.fm 665 (top 46) "_law_inside" hm1 ["_law_rule_here"] ["_law_rule_here","_law_found","_law_part"]
def TX.tZ:=T.fm 672 (top 47) "_law_hollow_part" hm1 ["_law_rule_here","_law_least_here"] ["_law_rule_here","_law_least_here","_law_one"]
def TX.t9:=T.fm 677 (top 48) "_law_goes_round" hm1 ["_law_rules_here","_law_least_here"] ["_law_rules_here","_law_least_here","_law_left","_law_name","_law_rule_here","_law_turn"]
def TX.t_:=T.fm 682 (top 49) "_law_verdict" hm1 ["_law_pairs_here"] ["_law_pairs_here","_law_rules_here","_law_name","_law_rule_here","_law_unknown","_law_least_here"]
def TX.ua:=T.fm 689 (top 50) "_law_is_round" hm1 ["_law_circle","_law_pairs_here"] ["_law_circle","_law_pairs_here","_law_rules_here","_law_name","_law_rule_here","_law_least_here","_law_k"]
def TX.ub:=T.fm 694 (top 51) "_law_asked" hm1 ["_law_pairs_here"] ["_law_pairs_here","_law_told","_law_circle","_law_kinds","e","_law_words_here"]
def TX.uc:=T.fm 701 (top 52) "_law_spoilt" hm1 ["_law_pairs_here","_law_words_here","_law_script"] ["_law_pairs_here","_law_words_here","_law_script","_law_faults","_law_many","_law_k","_law_at","_law_rule_here","_law_part","_law_place"]
def TX.ud:=T.fm 708 (top 53) "_law_mix" hm1 ["_law_script"] ["_law_script","_law_made","_law_k","_law_cell_here"]
def TX.ue:=T.fm 715 (top 54) "law" hm1 ["_law_script"] ["_law_script","_law_many","_law_words_here","_law_rules_here","_law_pairs_here","_law_due","_law_turn","_law_told"]
def TX.fS:=T.g "Nothing" (.ref pF)
def TX.dw:=T.cl pF
def TX.kA:=T.Va pF
def TX.dy:=T.me pF "inside" 124
def TX.dR:=T.me pF "names" 131
def TX.mO:=T.g "Bead" (.ref nZ)
def TX.gq:=T.cl nZ
def TX.fA:=T.me nZ "inside" 124
def TX.gr:=T.me nZ "names" 131
def TX.fB:=T.na nZ "colour"
def TX.yD:=T.g "Or" (.ref mG)
def TX.i_:=T.cl mG
def TX.ja:=T.me mG "names" 131
def TX.iu:=T.na mG "one"
def TX.eF:=T.na mG "other"
def TX.yE:=T.g "By" (.ref mH)
def TX.eG:=T.cl mH
def TX.jb:=T.me mH "names" 131
def TX.c7:=T.na mH "one"
def TX.b8:=T.na mH "other"
def TX.mP:=T.g "Row" (.ref ly)
def TX.iw:=T.cl ly
def TX.ix:=T.me ly "names" 131
def TX.cH:=T.na ly "part"
def TX.mQ:=T.g "Bag" (.ref lz)
def TX.iy:=T.cl lz
def TX.iz:=T.me lz "names" 131
def TX.cI:=T.na lz "part"
def TX.eH:=T.g "Choice" (.ref lA)
def TX.cn:=T.cl lA
def TX.eI:=T.me lA "names" 131
def TX.bO:=T.na lA "part"
def TX.mR:=T.g "Ring" (.ref mI)
def TX.eJ:=T.cl mI
def TX.gu:=T.me mI "names" 131
def TX.cp:=T.na mI "part"
def TX.gx:=T.g "Named" (.ref n0)
def TX.b9:=T.cl n0
def TX.eL:=T.me n0 "inside" 124
def TX.bD:=T.na n0 "name"
def TX.mS:=T.g "Book" (.ref aI)
def TX.bu:=T.cl aI
def TX.aN:=T.na aI "rule_by"
def TX.bw:=T.na aI "least_by"
def TX.b_:=T.na aI "leans_by"
def TX.dz:=T.na aI "speaks_by"
def TX.gy:=T.g "Twice" (.ref ZO)
def TX.dA:=T.g "NoClass" (.ref ZB)
def TX.eM:=T.g "Hollow" (.ref ZE)
def TX.gz:=T.g "Round" (.ref ZN)
def TX.aY:=T.g "FigureError" (.ref Z1)
def TX.XB:=T.xb Z1
def TX.c8:=T.na ZO "name"
def TX.cq:=T.na ZB "name"
def TX.cF:=T.na ZE "name"
def TX.cu:=T.na ZN "circle"
def TX.cC:=T.ca ZO Z1 true
def TX.cf:=T.ca ZB Z1 true
def TX.cv:=T.ca ZE Z1 true
def TX.cD:=T.ca ZN Z1 true
def TX.fC:=T.ca ZO ZO true
def TX.dU:=T.ca ZB ZO false
def TX.c9:=T.ca ZB ZB true
def TX.eN:=T.ca ZE ZO false
def TX.dB:=T.ca ZE ZB false
def TX.dW:=T.ca ZE ZE true
def TX.fD:=T.ca ZN ZO false
def TX.dX:=T.ca ZN ZB false
def TX.eO:=T.ca ZN ZE false
def TX.fE:=T.ca ZN ZN true
def TX.jL:=T.xg ZO
def TX.fT:=T.xg ZB
def TX.iA:=T.xg ZE
def TX.jM:=T.xg ZN
def TX.Gw:=T.kt ZO (.ref ZO) true
def TX.Gx:=T.kt ZO (.ref ZB) false
def TX.Gy:=T.kt ZO (.ref ZE) false
def TX.Gz:=T.kt ZO (.ref ZN) false
def TX.GA:=T.kt ZO (.type "ValueError") true
def TX.GB:=T.kt ZB (.ref ZO) false
def TX.GC:=T.kt ZB (.ref ZB) true
def TX.GD:=T.kt ZB (.ref ZE) false
def TX.GF:=T.kt ZB (.ref ZN) false
def TX.GG:=T.kt ZB (.type "ValueError") true
def TX.yF:=T.kt ZE (.ref ZO) false
def TX.yG:=T.kt ZE (.ref ZB) false
def TX.yH:=T.kt ZE (.ref ZE) true
def TX.yI:=T.kt ZE (.ref ZN) false
def TX.yJ:=T.kt ZE (.type "ValueError") true
def TX.yK:=T.kt ZN (.ref ZO) false
def TX.yL:=T.kt ZN (.ref ZB) false
def TX.yM:=T.kt ZN (.ref ZE) false
def TX.yN:=T.kt ZN (.ref ZN) true
def TX.yO:=T.kt ZN (.type "ValueError") true
def TX.IT:=T.it [pF,nZ,n0,mG,mH,ly,lz,lA,mI] Vq
def TX.gA:=T.no "ValueError"
def TX.qN:=T.no "any"
def TX.iB:=T.no "enumerate"
def TX.aA:=T.no "isinstance"
def TX.a9:=T.no "len"
def TX.eP:=T.no "list"
def TX.mT:=T.no "min"
def TX.bE:=T.no "range"
def TX.jN:=T.no "set"
def TX.c_:=T.no "sorted"
def TX.yP:=T.no "sum"
def TX.pO:=T.no "tuple"
def vO(C:Addr)(f:Str):bP:=fun us A Q=>∃(x dx:Addr)(u:U),us=[.ref x,u]/\A x=some (.ins C dx [])/\Q .ay (af A x (.ins C dx [(f,u)]))
def Oq(C:Addr):bP:=fun us A Q=>∃(x dx:Addr)(u v:U),us=[.ref x,u,v]/\A x=some (.ins C dx [])/\Q .ay (af A x (.ins C dx [("one",u),("other",v)]))
def n6:a7 a u []=[(a,u)]:=rfl
theorem Ot:a7 "other" v [(("one":Str),u)]=[(("one":Str),u),(("other":Str),v)]:=by
 have:("one":Str)≠"other":=by decide +kernel
 simp[a7,this]
section
include T
def Vr:T.tj.Ok aP 1 (aW K (vO nZ "colour")):=by
 apply T.tj.bG;walk_at "f";exact fun S hr=>⟨_,(Ze (jr (pv 0) (pv 1) rfl)),(ZaQ Zh Zh)⟩;rintro us A Q ⟨x,dx,u,rfl,hx,q⟩;walk_at "o";refine⟨x,_,dx,_,rfl,hx,T.gq,T.fB,by decide,?_⟩;rw[n6];exact fg q
def Vs:T.tN.Ok aP 1 (aW K (vO n0 "name")):=by
 apply T.tN.bG;walk_at "f";exact fun S hr=>⟨_,(Ze (jr (pv 0) (pv 1) rfl)),(ZaQ Zh Zh)⟩;rintro us A Q ⟨x,dx,u,rfl,hx,q⟩;walk_at "o";refine⟨x,_,dx,_,rfl,hx,T.b9,T.bD,by decide,?_⟩;rw[n6];exact fg q
def Vt:T.tE.Ok aP 1 (aW K (vO ly "part")):=by
 apply T.tE.bG;walk_at "f";exact fun S hr=>⟨_,(Ze (jr (pv 0) (pv 1) rfl)),(ZaQ Zh Zh)⟩;rintro us A Q ⟨x,dx,u,rfl,hx,q⟩;walk_at "o";refine⟨x,_,dx,_,rfl,hx,T.iw,T.cH,by decide,?_⟩;rw[n6];exact fg q
def Vu:T.tG.Ok aP 1 (aW K (vO lz "part")):=by
 apply T.tG.bG;walk_at "f";exact fun S hr=>⟨_,(Ze (jr (pv 0) (pv 1) rfl)),(ZaQ Zh Zh)⟩;rintro us A Q ⟨x,dx,u,rfl,hx,q⟩;walk_at "o";refine⟨x,_,dx,_,rfl,hx,T.iy,T.cI,by decide,?_⟩;rw[n6];exact fg q
def Vv:T.tI.Ok aP 1 (aW K (vO lA "part")):=by
 apply T.tI.bG;walk_at "f";exact fun S hr=>⟨_,(Ze (jr (pv 0) (pv 1) rfl)),(ZaQ Zh Zh)⟩;rintro us A Q ⟨x,dx,u,rfl,hx,q⟩;walk_at "o";refine⟨x,_,dx,_,rfl,hx,T.cn,T.bO,by decide,?_⟩;rw[n6];exact fg q
def Vw:T.tK.Ok aP 1 (aW K (vO mI "part")):=by
 apply T.tK.bG;walk_at "f";exact fun S hr=>⟨_,(Ze (jr (pv 0) (pv 1) rfl)),(ZaQ Zh Zh)⟩;rintro us A Q ⟨x,dx,u,rfl,hx,q⟩;walk_at "o";refine⟨x,_,dx,_,rfl,hx,T.eJ,T.cp,by decide,?_⟩;rw[n6];exact fg q
def Vx:T.tq.Ok aP 1 (aW K (Oq mG)):=by
 apply T.tq.bG;walk_at "f";exact fun S hr=>⟨_,(Zc (jr (pv 0) (pv 1) rfl)
   (Ze (jr (pv 0) (pv 2) rfl))),by walk_at "ab"⟩
 rintro us A Q ⟨x,dx,u,v,rfl,hx,q⟩;walk_at "o";refine⟨x,_,dx,_,rfl,hx,T.i_,T.iu,by decide,x,_,dx,_,rfl,Zb,T.i_,T.eF,by show(1:Nat)<1000;decide,?_⟩;rw[ZF,n6,Ot];exact fg q
def Vy:T.tw.Ok aP 1 (aW K (Oq mH)):=by
 apply T.tw.bG;walk_at "f";exact fun S hr=>⟨_,(Zc (jr (pv 0) (pv 1) rfl)
   (Ze (jr (pv 0) (pv 2) rfl))),by walk_at "ab"⟩
 rintro us A Q ⟨x,dx,u,v,rfl,hx,q⟩;walk_at "o";refine⟨x,_,dx,_,rfl,hx,T.eG,T.c7,by decide,x,_,dx,_,rfl,Zb,T.eG,T.b8,by show(1:Nat)<1000;decide,?_⟩;rw[ZF,n6,Ot];exact fg q
end
def BG{a b:Str}{u v:U}:List.lookup a [(a,u),(b,v)]=some u:=by simp[List.lookup]
def BH{a b:Str}{u v:U}(h:(b==a)=false):List.lookup b [(a,u),(b,v)]=some v:=by simp[List.lookup,h]
def Vz{ts:List Str}(h:x∉ts):dG (.str x) (ts.map U.str)=false:=by
 unfold dG ny;rw[List.any_eq_false];intro y hy;simp only[YL]at hy;obtain⟨_,⟨z,hz,rfl⟩,rfl⟩:=hy;simp only[U.toV,lX];intro e;have:z=x:=by simpa using e
 exact h (this▸hz)
def lB{a:Str}{u:U}:List.lookup a [(a,u)]=some u:=by simp[List.lookup]
section
include T
theorem VA(n:Nat):T.gp.Ok aP (n+4) (aW K (E3 cS n)):=by
 induction n with
 | zero=>exact o5 T.gp.f T.gp.s Sw
 | succ n kB =>
  have GH:=Vr T;have GI:=Vs T;have GJ:=Vx T;have GK:=Vy T;have GL:=Vt T;have GN:=Vu T;have GO:=Vv T;have GP:=Vw T;apply T.gp.bG;walk_at "f";exact fun S hr=>⟨_,(Zc (ZG (Zj (cM hr) (Zt ZW (pv 0) Zg (fun _ _=>rfl)) Zk (Zx _)) (Ze (Zp (So T.kA (by rfl) T.fS))) Zo)
   (Zc (ZG (Zj (cM hr) (Zt ZW (pv 0) Zg (fun _ _=>rfl)) Zk (Zx _)) (Ze (Zp (qj T.tm GH.mn hr (by rfl) T.mO T.tj.b .nil gY (Za (Zt ZW (pv 0) Zg (fun _ _=>rfl)) Zd)))) Zo)
   (Zc (ZG (Zj (cM hr) (Zt ZW (pv 0) Zg (fun _ _=>rfl)) Zk (Zx _)) (Ze (Zp (qj T.pK GI.mn hr (by rfl) T.gx T.tN.b .nil gY (Za (Zt ZW (pv 0) Zg (fun _ _=>rfl)) Zd)))) Zo)
   (Zc (Zq (i:=1) S.nd rfl (Or.inl rfl) (T.gp.pc kB hr (Za (Zt ZW (pv 0) Zg (fun _ _=>rfl)) Zd)))
   (Zc (ZG (Zj (cM hr) (Zt ZW (pv 0) Zg (fun _ _=>rfl)) Zk (Zx _)) (Ze (Zp (qj T.Gk GJ.mn hr (by rfl) T.yD T.tq.b .nil gY (Za (pv 1) (Za (T.gp.pc kB hr (Za (Zt ZW (pv 0) Zg (fun _ _=>rfl)) Zd)) Zd))))) Zo)
   (Zc (ZG (Zj (cM hr) (Zt ZW (pv 0) Zg (fun _ _=>rfl)) Zk (Zx _)) (Ze (Zp (qj T.Gn GK.mn hr (by rfl) T.yE T.tw.b .nil gY (Za (pv 1) (Za (T.gp.pc kB hr (Za (Zt ZW (pv 0) Zg (fun _ _=>rfl)) Zd)) Zd))))) Zo)
   (Zc (ZG (Zj (cM hr) (Zt ZW (pv 0) Zg (fun _ _=>rfl)) Zk (Zx _)) (Ze (Zp (qj T.yB GL.mn hr (by rfl) T.mP T.tE.b .nil gY (Za (pv 1) Zd)))) Zo)
   (Zc (ZG (Zj (cM hr) (Zt ZW (pv 0) Zg (fun _ _=>rfl)) Zk (Zx _)) (Ze (Zp (qj T.yC GN.mn hr (by rfl) T.mQ T.tG.b .nil gY (Za (pv 1) Zd)))) Zo)
   (Zc (ZG (Zj (cM hr) (Zt ZW (pv 0) Zg (fun _ _=>rfl)) Zk (Zx _)) (Ze (Zp (qj T.mJ GO.mn hr (by rfl) T.eH T.tI.b .nil gY (Za (pv 1) Zd)))) Zo)
   (Ze (Zp (qj T.tL GP.mn hr (by rfl) T.mR T.tK.b .nil gY (Za (pv 1) Zd))))))))))))),by walk_at "ab"⟩
  rintro us A Q ⟨r,rfl,hd,q⟩;refine⟨rfl,?_⟩;walk_at "s";cases r with
  | nothing =>
   unfold Rl.toU;walk_at "g";exact ZH rfl fun x dx hx=>fg (q _ x (Ext.new hx) ⟨dx,Zb⟩)
  | bead c =>
   unfold Rl.toU;walk_at "g";exact Zm (by decide +kernel) (ZH rfl fun x dx hx=>⟨x,dx,_,rfl,Zb,rfl,by rw[ZF];exact fg (q _ x (Ext.new hx) ⟨dx,Zb⟩)⟩)
  | named c =>
   unfold Rl.toU;walk_at "g";exact Zm (by decide +kernel) (Zm (by decide +kernel) (ZH rfl fun x dx hx=>⟨x,dx,_,rfl,Zb,rfl,by rw[ZF];exact fg (q _ x (Ext.new hx) ⟨dx,Zb⟩)⟩))
  | or x y =>
   unfold Rl.toU;walk_at "g";simp only[Rl.dep]at hd;refine Zm (by decide +kernel) (Zm (by decide +kernel) (Zm (by decide +kernel) (⟨x,rfl,by lia,fun B1 b1 e1 h1=>?_⟩)));walk_at "g";refine ZH rfl ⟨y,rfl,by lia,fun B2 b2 e2 h2 x3 dx hx=>⟨x3,dx,_,_,rfl,Zb,rfl,?_⟩⟩;rw[ZF];exact fg (q _ x3 ((e1.trans e2).trans (Ext.new hx)) ⟨dx,b1,b2,Zb,(h1.ext e2).ext (Ext.new hx),h2.ext (Ext.new hx)⟩)
  | bh x y =>
   unfold Rl.toU;walk_at "g";simp only[Rl.dep]at hd;refine Zm (by decide +kernel) (Zm (by decide +kernel) (Zm (by decide +kernel) (⟨x,rfl,by lia,fun B1 b1 e1 h1=>?_⟩)));walk_at "g";refine Zm (by decide +kernel) (ZH rfl ⟨y,rfl,by lia,fun B2 b2 e2 h2 x3 dx hx=>⟨x3,dx,_,_,rfl,Zb,rfl,?_⟩⟩);rw[ZF];exact fg (q _ x3 ((e1.trans e2).trans (Ext.new hx)) ⟨dx,b1,b2,Zb,(h1.ext e2).ext (Ext.new hx),h2.ext (Ext.new hx)⟩)
  | hold k x =>
   unfold Rl.toU;walk_at "g";simp only[Rl.dep]at hd;have hk:∀z∈(["nothing","bead","name","or","by"]:List Str),decide (Z8 k=z)=false:=fun z hz=>Yu (xW k hz);refine Zm (hk _ (by decide +kernel)) (Zm (hk _ (by decide +kernel)) (Zm (hk _ (by decide +kernel)) ⟨x,rfl,by lia,fun B1 b1 e1 h1=>?_⟩));walk_at "g";refine Zm (hk _ (by decide +kernel)) (Zm (hk _ (by decide +kernel)) ?_);have q':∀(C:Addr)(b dx:Addr),B1 b=none->cS (5+min k 3)=C->Fg Q (.ref b) (af (af B1 b (.ins C dx [])) b (.ins C dx [("part",.ref b1)])):=fun C b dx hb e=>by
    subst e;rw[ZF];exact fg (q _ b (e1.trans (Ext.new hb)) ⟨dx,b1,Zb,h1.ext (Ext.new hb)⟩)
   clear hk q;rcases k with _|_|_|k
   .exact ZH (by decide +kernel) fun b dx hb=>⟨b,dx,_,rfl,Zb,rfl,q' _ b dx hb rfl⟩
   .exact Zm (by decide +kernel) (ZH (by decide +kernel) fun b dx hb=>⟨b,dx,_,rfl,Zb,rfl,q' _ b dx hb rfl⟩)
   .exact Zm (by decide +kernel) (Zm (by decide +kernel) (ZH (by decide +kernel) fun b dx hb=>⟨b,dx,_,rfl,Zb,rfl,q' _ b dx hb rfl⟩))
   .rw[show Z8 (k+1+1+1)=Z8 3 from rfl];exact Zm (by decide +kernel) (Zm (by decide +kernel) (Zm (by decide +kernel) fun b dx hb=>⟨b,dx,_,rfl,Zb,rfl,q' _ b dx hb (by rw[Nat.min_eq_right (by lia)];rfl)⟩))
end
def pP(cs:Nat->Addr)(i:Nat):bP:=fun us A Q=>∃(a:Addr)(r:Rl),us=[.ref a]/\bZ cs A a r/\r.ci=i/\∀l ps,A l=none->ig cs A ps r.kids->Q (.ref l) (af A l (.lst (ps.map U.ref)))
def VB(cs:Nat->Addr):bP:=fun us A Q=>∃(a:Addr)(r:Rl),us=[.ref a]/\bZ cs A a r/\r.kids=[]/\∀l ps,A l=none->ig cs A ps r.kids->Q (.ref l) (af A l (.lst (ps.map U.ref)))
def qO(cs:Nat->Addr)(n i:Nat):bP:=fun us A Q=>∃(a:Addr)(r:Rl),us=[.ref a]/\bZ cs A a r/\r.ci=i/\r.dep<=n/\r.size<=60/\∀B l zs,Ext A B->A l=none->B l=some (.lst (zs.map U.str))->BB r zs->Q (.ref l) B
def VC(cs:Nat->Addr)(n:Nat):bP:=fun us A Q=>∃(a:Addr)(r:Rl),us=[.ref a]/\bZ cs A a r/\r.ci≠2/\r.dep<=n/\r.size<=60/\∀B l zs,Ext A B->A l=none->B l=some (.lst (zs.map U.str))->BB r zs->Q (.ref l) B
def qP(cs:Nat->Addr)(sp:Nat->bP):List (Addr×bP):=(List.range 9).map fun i=>(cs i,sp i)
def Ou(r:Rl):(cs r.ci,sp r.ci)∈qP cs sp:=YL.mpr ⟨r.ci,oj.mpr r.bR,rfl⟩
def Ov(h:∀i,i<9->∃f fd ps,eX K (cs i)/\z7 K (cs i) m f/\cz P w K mg base aP k f fd ps (aW K (sp i))/\kT K fd ps []):k9 P w K mg base aP k m ((qP cs sp).map fun p=>(p.1,aW K p.2)):=fun C s k_=>by
 obtain⟨p,hp,e⟩:=YL.mp k_
 obtain⟨i,hi,e2⟩:=YL.mp hp
 subst e2
 cases e
 exact h i (oj.mp hi)
theorem VD:(("names":Str))∉(["colour","name","one","other","part"]:List Str):=by decide +kernel
theorem yQ:(("inside":Str))∉(["colour","name","one","other","part"]:List Str):=by decide +kernel
def uf(A:aw)(f:Addr):aw:=fun x=>if x=f then none else A x
def VE(h:A f=some o):af (uf A f) f o=A:=by
 funext x;unfold af uf;by_cases e:x=f
 .rw[if_pos e,e,h]
 .rw[if_neg e,if_neg e]
def VF:uf A f f=none:=if_pos rfl
def Ow(h:x≠f):uf A f x=A x:=if_neg h
def VG(e:Ext B A)(h:B f=none):Ext B (uf A f):=fun x o q=>by
 rw[Ow (fun z=>by rw[z,h]at q;cases q)]
 exact e x o q
def Ox(e:Ext A B)(h:B x=none):A x=none:=by
 cases q:A x with
 | none=>rfl
 | some o=>rw[e x o q]at h;cases h
structure yR (ks:List Str) (ds:List Str) (n:Nat):Prop where
 nd:ks.Nodup
 mem:∀z,z∈ks↔z∈ds
 len:ks.length<=n
def yR.add(h:yR ks ds n):yR (fQ ks z) (ds++[z]) (n+1):=⟨NH h.nd,fun x=>by rw[NG,h.mem,Yv,Yn],YB (Nf ks z) (Nat.succ_le_succ h.len)⟩
def BI(hr:bZ cs A a r)(q:∀l ps,A l=none->ig cs A ps r.kids->Q (.ref l) (af A l (.lst (ps.map U.ref)))):∃b dx fs C bg,U.ref a=.ref b/\A b=some (.ins C dx fs)/\(C,bg)∈qP cs (pP cs)/\fs.lookup (Str.ofString "inside")=none/\bg [.ref a] A Q:=by
 obtain⟨dx,fs,ha,hl⟩:=hr.cls yQ;exact⟨a,dx,fs,_,_,rfl,ha,Ou r,hl,a,r,rfl,hr,rfl,q⟩
def BJ(hr:bZ cs A a r)(hd:r.dep<=n)(hs:r.size<=60)(q:∀B l zs,Ext A B->A l=none->B l=some (.lst (zs.map U.str))->BB r zs->Q (.ref l) B):∃b dx fs C bg,U.ref a=.ref b/\A b=some (.ins C dx fs)/\(C,bg)∈qP cs (qO cs n)/\fs.lookup (Str.ofString "names")=none/\bg [.ref a] A Q:=by
 obtain⟨dx,fs,ha,hl⟩:=hr.cls VD;exact⟨a,dx,fs,_,_,rfl,ha,Ou r,hl,a,r,rfl,hr,rfl,hd,hs,q⟩
def bZ.drop:∀ {a:Addr} {r:Rl},bZ cs (af A p (.cZ φ)) a r->bZ cs A a r:=by
 have key:∀ {a C dx:Addr} {fs:List (Str×U)},af A p (.cZ φ) a=some (.ins C dx fs)->A a=some (.ins C dx fs):=fun {a C dx fs} h=>by
  by_cases e:a=p
  .rw[e,Zb]at h;cases h
  .rwa [Zi e]at h
 intro a r;induction r generalizing a with
 | nothing=>exact fun⟨dx,h⟩=>⟨dx,key h⟩
 | bead c=>exact fun⟨dx,h⟩=>⟨dx,key h⟩
 | named c=>exact fun⟨dx,h⟩=>⟨dx,key h⟩
 | or x y pj pq=>exact fun⟨dx,p,q,h,h1,h2⟩=>⟨dx,p,q,key h,pj h1,pq h2⟩
 | bh x y pj pq=>exact fun⟨dx,p,q,h,h1,h2⟩=>⟨dx,p,q,key h,pj h1,pq h2⟩
 | hold k x ih=>exact fun⟨dx,p,h,h1⟩=>⟨dx,p,key h,ih h1⟩
def GQ{α β:Type}(f:α->List β)(l:List α)(k:Nat):((l.take k).map f).flatten.length<=(l.map f).flatten.length:=by
 have:(l.map f).flatten=((l.take k).map f).flatten++((l.drop k).map f).flatten:=by rw[<- List.flatten_append,<- Yt,Iv]
 rw[this,Yq];exact IW _ _
def GR{α β:Type}{f:α->List β}{l:List α}{x:α}(h:l[k]? = some x):((l.take (k+1)).map f).flatten=((l.take k).map f).flatten++f x:=by
 obtain⟨hl,e⟩:=Yg.mp h;rw[List.take_succ_eq_append_getElem hl,Yt,List.flatten_append,e];simp
section
include T
def kC:∀c∈[pF,nZ,n0,mG,mH,ly,lz,lA,mI],eX K c:=by
 simp only[Yp,YN,fH,forall_eq_or_imp,forall_eq];exact⟨T.dw,T.gq,T.b9,T.i_,T.eG,T.iw,T.iy,T.cn,T.eJ⟩
def VH:T.kq.Ok aP 1 (aW K (VB cS)):=by
 apply T.kq.bG;walk_at "f";exact fun S hr=>⟨_,(Ze (Zp (ZJ Zd))),(ZcD (ZaV Zr))⟩;rintro us A Q ⟨a,r,rfl,hr,hk,q⟩;walk_at "o";refine⟨by decide,fun l hl=>fg (q l [] hl ?_)⟩;rw[hk];trivial
theorem VI:T.tu.Ok aP 1 (aW K (pP cS 3)):=by
 apply T.tu.bG;walk_at "f";exact fun S hr=>⟨_,(Ze (Zp (ZJ (Za (Z6 (pv 0) rfl) (Za (Z6 (pv 0) rfl) Zd))))),by walk_at "ab"⟩;rintro us A Q ⟨a,r,rfl,hr,hc,q⟩;obtain⟨x,y,rfl⟩:=Rl.LI hc;obtain⟨dx,p1,p2,ha,h1,h2⟩:=hr;walk_at "o";exact⟨a,_,dx,_,_,rfl,ha,T.i_,T.iu,BG,a,_,dx,_,_,rfl,ha,T.i_,T.eF,BH (by decide +kernel),bI,fun l hl=>fg (q l [p1,p2] hl ⟨h1,h2,trivial⟩)⟩
def VJ:T.tD.Ok aP 1 (aW K (pP cS 4)):=by
 apply T.tD.bG;walk_at "f";exact fun S hr=>⟨_,(Ze (Zp (ZJ (Za (Z6 (pv 0) rfl) (Za (Z6 (pv 0) rfl) Zd))))),by walk_at "ab"⟩;rintro us A Q ⟨a,r,rfl,hr,hc,q⟩;obtain⟨x,y,rfl⟩:=Rl.LJ hc;obtain⟨dx,p1,p2,ha,h1,h2⟩:=hr;walk_at "o";exact⟨a,_,dx,_,_,rfl,ha,T.eG,T.c7,BG,a,_,dx,_,_,rfl,ha,T.eG,T.b8,BH (by decide +kernel),bI,fun l hl=>fg (q l [p1,p2] hl ⟨h1,h2,trivial⟩)⟩
def VL:T.tF.Ok aP 1 (aW K (pP cS 5)):=by
 apply T.tF.bG;walk_at "f";exact fun S hr=>⟨_,(Ze (Zp (ZJ (Za (Z6 (pv 0) rfl) Zd)))),by walk_at "ab"⟩;rintro us A Q ⟨a,r,rfl,hr,hc,q⟩;obtain⟨k,x,rfl,hk⟩:=Rl.A9 (j:=0) (by decide) hc;obtain⟨dx,p1,ha,h1⟩:=hr;rw[hk]at ha;walk_at "o";exact⟨a,_,dx,_,_,rfl,ha,T.iw,T.cH,lB,qw,fun l hl=>fg (q l [p1] hl ⟨h1,trivial⟩)⟩
def VM:T.tH.Ok aP 1 (aW K (pP cS 6)):=by
 apply T.tH.bG;walk_at "f";exact fun S hr=>⟨_,(Ze (Zp (ZJ (Za (Z6 (pv 0) rfl) Zd)))),by walk_at "ab"⟩;rintro us A Q ⟨a,r,rfl,hr,hc,q⟩;obtain⟨k,x,rfl,hk⟩:=Rl.A9 (j:=1) (by decide) hc;obtain⟨dx,p1,ha,h1⟩:=hr;rw[hk]at ha;walk_at "o";exact⟨a,_,dx,_,_,rfl,ha,T.iy,T.cI,lB,qw,fun l hl=>fg (q l [p1] hl ⟨h1,trivial⟩)⟩
def VN:T.tJ.Ok aP 1 (aW K (pP cS 7)):=by
 apply T.tJ.bG;walk_at "f";exact fun S hr=>⟨_,(Ze (Zp (ZJ (Za (Z6 (pv 0) rfl) Zd)))),by walk_at "ab"⟩;rintro us A Q ⟨a,r,rfl,hr,hc,q⟩;obtain⟨k,x,rfl,hk⟩:=Rl.A9 (j:=2) (by decide) hc;obtain⟨dx,p1,ha,h1⟩:=hr;rw[hk]at ha;walk_at "o";exact⟨a,_,dx,_,_,rfl,ha,T.cn,T.bO,lB,qw,fun l hl=>fg (q l [p1] hl ⟨h1,trivial⟩)⟩
def VO:T.tM.Ok aP 1 (aW K (pP cS 8)):=by
 apply T.tM.bG;walk_at "f";exact fun S hr=>⟨_,(Ze (Zp (ZJ (Za (Z6 (pv 0) rfl) Zd)))),by walk_at "ab"⟩;rintro us A Q ⟨a,r,rfl,hr,hc,q⟩;obtain⟨k,x,rfl,hk⟩:=Rl.A9 (j:=3) (by decide) hc;obtain⟨dx,p1,ha,h1⟩:=hr;rw[hk]at ha;walk_at "o";exact⟨a,_,dx,_,_,rfl,ha,T.eJ,T.cp,lB,qw,fun l hl=>fg (q l [p1] hl ⟨h1,trivial⟩)⟩
theorem BK:k9 P w K mg base aP 1 "inside" ((qP cS (pP cS)).map fun p=>(p.1,aW K p.2)):=by
 have g0:∀i,i<3->T.kq.Ok aP 1 (aW K (pP cS i)):=fun i hi=>(VH T).imp (LL fun us A Q ⟨a,r,e,hr,hc,q⟩=>⟨a,r,e,hr,by cases r<;>simp only[Rl.ci]at hc<;>first|rfl|lia,q⟩);refine Ov fun i hi=>?_;rcases i with _|i
 .exact⟨_,_,_,T.dw,T.dy,g0 0 (by decide),T.kq.b⟩
 rcases i with _|i
 .exact⟨_,_,_,T.gq,T.fA,g0 1 (by decide),T.kq.b⟩
 rcases i with _|i
 .exact⟨_,_,_,T.b9,T.eL,g0 2 (by decide),T.kq.b⟩
 rcases i with _|i
 .exact⟨_,_,_,T.i_,T.Gm,VI T,T.tu.b⟩
 rcases i with _|i
 .exact⟨_,_,_,T.eG,T.Gp,VJ T,T.tD.b⟩
 rcases i with _|i
 .exact⟨_,_,_,T.iw,T.Gq,VL T,T.tF.b⟩
 rcases i with _|i
 .exact⟨_,_,_,T.iy,T.Gr,VM T,T.tH.b⟩
 rcases i with _|i
 .exact⟨_,_,_,T.cn,T.Gs,VN T,T.tJ.b⟩
 rcases i with _|i
 .exact⟨_,_,_,T.eJ,T.Gu,VO T,T.tM.b⟩
 lia
def Oy:T.pL.Ok aP 1 (aW K (qO cS n 2)):=by
 apply T.pL.bG;walk_at "f";exact fun S hr=>⟨_,(Ze (Zp (ZJ (Za (Z6 (pv 0) rfl) Zd)))),by walk_at "ab"⟩;rintro us A Q ⟨a,r,rfl,hr,hc,hd,hs,q⟩;obtain⟨c,rfl⟩:=Rl.EV hc;obtain⟨dx,ha⟩:=hr;walk_at "o";refine⟨a,_,dx,_,_,rfl,ha,T.b9,T.bD,lB,qw,fun l hl=>fg (q _ l [c] (Ext.new hl) hl Zb ⟨rfl,by simp,fun z=>by simp[Rl.bb],by simp[Rl.bb]⟩)⟩
theorem VP(bT:k9 P w K mg base aP (n+2) "names" ((qP cS (qO cS n)).map fun p=>(p.1,aW K p.2))):T.du.Ok aP (n+3) (aW K (VC cS (n+1))):=by
 have bj:=BK T;apply T.du.bG;walk_at "f";exact fun S hr=>⟨_,(Zc (Zq (i:=1) S.nd rfl (Or.inl rfl) (JS Nu (by rfl) T.jN (by decide +kernel)))
   (Zc (Z3 YG rfl (Z5 (qy (pv 0) bj.mn hr gY)) (Zl (i:=2) S.nd rfl (Or.inl rfl))
   (Ze (Z3 YG rfl (Z5 (qy (pv 2) bT.mn hr gY)) (Zl (i:=3) S.nd rfl (Or.inl rfl))
   (Ze (ZP (Nx (pv 1) (Za (pv 3) Zd)))))))
   (Ze (Zp (ZX (F6 rfl) T.c_ (Za (pv 1) Zd)))))),by walk_at "ab"⟩
 rintro us A Q ⟨a,r,rfl,hr,hc,hd,hs,q⟩;walk_at "o";intro p hp;refine BI (hr.ext (Ext.new hp)) fun l ps hl kD=>?_;have bA:p≠l:=dN Zb hl;have cE:A l=none:=Ox (Ext.new hp) hl;rw[Sk bA];have n8:af A l (.lst (ps.map U.ref)) p=none:=by rw[Zi bA];exact hp
 walk_at "d";refine⟨⟨_,by rw[Zi (Ne.symm bA)];exact Zb⟩,?_⟩;refine nK (ps.map U.ref) (fun k ρ A2=>∃(B:aw)(ks:List Str)(x2 x3:Option U),ρ=[some (.ref a),some (.ref p),x2,x3]/\A2=af B p (tS P w ks)/\B p=none/\Ext (af A l (.lst (ps.map U.ref))) B/\yR ks ((r.kids.take k).map Rl.bb).flatten ((r.kids.take k).map Rl.bb).flatten.length) ⟨_,[],_,_,rfl,rfl,n8,Ext.refl _,⟨List.nodup_nil,fun z=>by simp,by simp⟩⟩ (fun k ρ A2 _ aD=>by obtain⟨B,ks,_,_,_,e,qQ,eB,_⟩:=aD;rw[e,Zi (Ne.symm bA)];exact eB _ _ Zb) ?_ ?_
 .rintro k u ρ A2 hu ⟨B,ks,x2,x3,rfl,rfl,qQ,eB,iC⟩;obtain⟨b,hb,rfl⟩:=Z0 hu;obtain⟨x,hx,ug⟩:=kD.get hb;have VQ:bZ cS A b x:=bZ.drop ug;have VR:=Yi hx;have Oz:=Rl.ck VR;have hnx:=x.bL;have VS:=r.bL;have lU:=GQ Rl.bb r.kids k;rw[<- Rl.ie hc]at lU;walk_at "d";refine BJ (VQ.ext (((Ext.new cE).trans eB).trans (Ext.new qQ))) (by lia) (by lia) fun B2 l2 zs e2 dj d9 nm=>?_;have dY:=nm.len;have uh:l2≠p:=fun e=>by rw[e,Zb]at dj;cases dj
  have GS:B2 p=some (tS P w ks):=e2 _ _ Zb;walk_at "d";refine⟨⟨_,d9⟩,?_⟩;refine nK (zs.map U.str) (fun j ρ A3=>∃(ks:List Str)(x3:Option U),ρ=[some (.ref a),some (.ref p),some (.ref b),x3]/\A3=af (uf B2 p) p (tS P w ks)/\yR ks (((r.kids.take k).map Rl.bb).flatten++zs.take j) (((r.kids.take k).map Rl.bb).flatten.length+j)) ⟨ks,_,rfl,(VE GS).symm,⟨iC.nd,fun z=>by rw[List.take_zero,YW];exact iC.mem z,iC.len⟩⟩ (fun j ρ A3 _ aD=>by obtain⟨ks,_,_,e,_⟩:=aD;rw[e,Zi uh,Ow uh];exact d9) ?_ ?_
  .rintro j u ρ A3 hu ⟨ks,x3,rfl,rfl,mD⟩;obtain⟨z,hz,rfl⟩:=Z0 hu;have yS:=(Yg.mp hz).1;have iQ:=mD.len;walk_at "d";refine⟨p,ks,rfl,Zb,z,ks,rfl,Zb,by show ks.length+1<4096;lia,fQ ks z,_,rfl,ZF,?_⟩;have:=mD.add (z:=z);rw[wy,show zs.take j++[z]=zs.take (j+1)from by rw[List.take_succ_eq_append_getElem yS];rw[(Yg.mp hz).2]]at this;exact this
  .rintro ρ A3 ⟨ks,x3,rfl,rfl,mD⟩;rw[Yc,YV]at mD;walk_at "d";refine⟨uf B2 p,ks,_,_,rfl,rfl,VF,VG (eB.trans ((Ext.new qQ).trans e2)) n8,?_⟩;rw[GR hx];exact⟨mD.nd,fun z=>by rw[mD.mem,Yv,Yv,nm.mem],by have:=mD.len;rw[Yq];lia⟩
 .rintro ρ A2 ⟨B,ks,x2,x3,rfl,rfl,qQ,eB,iC⟩;have iQ:ps.length=r.kids.length:=kD.len;rw[Yc,iQ,YV,<- Rl.ie hc]at iC;have VS:=r.bL;have hlen:=iC.len;walk_at "d";refine⟨ks,Zb,by lia,fun D zs hD kE n9=>fg (q _ D zs (((Ext.new cE).trans eB).trans ((Ext.new qQ).trans (Ext.new hD))) (Ox (((Ext.new cE).trans eB).trans (Ext.new qQ)) hD) Zb ⟨n9,kE.nodup_iff.mpr iC.nd,fun z=>by rw[kE.mem_iff];exact iC.mem z,by rw[kE.length_eq];exact hlen⟩)⟩
theorem OA(n:Nat):k9 P w K mg base aP (n+2) "names" ((qP cS (qO cS n)).map fun p=>(p.1,aW K p.2)):=by
 have hz:∀i us A Q,¬qO cS 0 i us A Q:=fun i us A Q aD=>by obtain⟨_,r,_,_,_,h,_⟩:=aD;have:=r.bC;lia
 have go:∀ {k m:Nat} (g0:∀i,i≠2->T.du.Ok aP (k) (aW K (qO cS m i))) (g2:T.pL.Ok aP (k) (aW K (qO cS m 2))),k9 P w K mg base aP k "names" ((qP cS (qO cS m)).map fun p=>(p.1,aW K p.2)):=fun g0 g2=>by
  refine Ov fun i hi=>?_;rcases i with _|i
  .exact⟨_,_,_,T.dw,T.dR,g0 0 (by decide),T.du.b⟩
  rcases i with _|i
  .exact⟨_,_,_,T.gq,T.gr,g0 1 (by decide),T.du.b⟩
  rcases i with _|i
  .exact⟨_,_,_,T.b9,T.Gv,g2,T.pL.b⟩
  rcases i with _|i
  .exact⟨_,_,_,T.i_,T.ja,g0 3 (by decide),T.du.b⟩
  rcases i with _|i
  .exact⟨_,_,_,T.eG,T.jb,g0 4 (by decide),T.du.b⟩
  rcases i with _|i
  .exact⟨_,_,_,T.iw,T.ix,g0 5 (by decide),T.du.b⟩
  rcases i with _|i
  .exact⟨_,_,_,T.iy,T.iz,g0 6 (by decide),T.du.b⟩
  rcases i with _|i
  .exact⟨_,_,_,T.cn,T.eI,g0 7 (by decide),T.du.b⟩
  rcases i with _|i
  .exact⟨_,_,_,T.eJ,T.gu,g0 8 (by decide),T.du.b⟩
  lia
 induction n with
 | zero=>exact go (fun i _=>o5 T.du.f T.du.s (hz i)) ((Oy T).mono (by lia))
 | succ n ih=>exact go (fun i hi=>((VP T ih).imp (LL fun us A Q ⟨a,r,e,hr,hc,h⟩=>⟨a,r,e,hr,by rw[hc];exact hi,h⟩)).mono (by lia)) ((Oy T).mono (by lia))
end
def OB(P:Program)(w:World)(cs:Nat->Addr)(n:Nat):bP:=fun us A Q=>∃(a d:Addr)(r:Rl)(ep:Nat)(ns:List Str)(e:Str->On),us=[.ref a,.ref d]/\bZ cs A a r/\r.dep<=n/\(∀z∈r.bb,z∈ns)/\A d=some (dS P w ep (ik ns e))/\∀B,Ext A B->Q (oU (r.lst e)) B
def VT:∀us A Q,¬OB P w cs 0 us A Q:=fun us A Q aD=>by obtain⟨_,_,r,_,_,_,_,_,h,_⟩:=aD;have:=r.bC;lia
section
include T
theorem GU(n:Nat):T.iq.Ok aP (n+3) (aW K (OB P w cS n)):=by
 have bj:=BK T;induction n with
 | zero=>exact o5 T.iq.f T.iq.s VT
 | succ n jc =>
  apply T.iq.bG;walk_at "f";exact fun S hr=>⟨_,(Zc (ZG (gQ (ZX xU T.aA (Za (pv 0) (Za (Z9 (v:=.ref _) (by rfl) T.gx rfl) Zd)))) (Ze (Zp (Zt sO (pv 1) (Z6 (pv 0) rfl) (fun _ _=>rfl)))) Zo)
   (Zc (ZG (gQ (ZX xU T.aA (Za (pv 0) (Za (Z9 (v:=.ref _) (by rfl) T.mO rfl) Zd)))) (Ze (Zp Zg)) Zo)
   (Zc (ZG (gQ (ZX LB T.aA (Za (pv 0) (Za (Zz (Za (Z9 (v:=.ref _) (by rfl) T.fS rfl) (Za (Z9 (v:=.ref _) (by rfl) T.mP rfl) (Za (Z9 (v:=.ref _) (by rfl) T.mQ rfl) (Za (Z9 (v:=.ref _) (by rfl) T.eH rfl) Zd))))) Zd)))) (Ze (Zp Zg)) Zo)
   (Zc (Ap (i:=2) S.nd rfl (Or.inl rfl) (by with_unfolding_all rfl) (ts:=["part"]) (frs':=[("leasts",1)]) (cl:=_) rfl .z (Z5 (qy (pv 0) bj.mn hr gY)) (fun _ _ _ _=>Zl (i:=0) (show List.Nodup (["part","leasts"]:List Str)from by decide +kernel) rfl (Or.inl rfl) (.inr rfl)) (fun _ _ _ _=>j7) (fun _ _ _ _=>by exact(T.iq.pc jc hr (Za (pv 0) (Za (pv 1) Zd)))))
   (Zc (ZG (gQ (ZX xU T.aA (Za (pv 0) (Za (Z9 (v:=.ref _) (by rfl) T.yD rfl) Zd)))) (Ze (Zp (MO K rfl rfl (by rfl) T.mT (nA (ts:=["least"]) (frs':=[]) (cl:=[]) rfl .z (Z5 (pv 2)) (fun _ _ _ _=>Zl (i:=0) DK rfl (Or.inl rfl) (.inr rfl)) (fun _ _ _ _=>by exact(u6 (Zj C3 (pv 0) oA (Zx _)))) (fun _ _ _ _=>by exact(pv 0)))))) Zo)
   (Zc (ZG (Zj (UX hr) oA (pv 2) (by with_unfolding_all rfl)) (Ze (Zp oA)) Zo)
   (Ze (Zp (ZX (Ro rfl) T.yP (Za (pv 2) Zd)))))))))),by walk_at "abh"⟩
  rintro us A Q ⟨a,d,r,ep,ns,e,rfl,hr,hd,hn,hA,q⟩;walk_at "o";obtain⟨dx,fs,ha,hx⟩:=hr.cls yQ;by_cases h2:r.ci=2
  .refine nP (fun B hB=>?_) ?_
   .walk_at "d";exact⟨a,_,dx,fs,_,_,rfl,ha,T.IT.yes (kC T) (j:=2) r.bR (by decide) h2,hB⟩
   obtain⟨z,rfl⟩:=Rl.EV h2;obtain⟨dx,ha⟩:=hr;walk_at "d";exact⟨a,_,dx,_,_,rfl,ha,T.b9,T.bD,lB,_,_,_,_,_,rfl,rfl,hA,U7 (hn z (.head _)),fg (q A (Ext.refl A))⟩
  refine k8 (fun B hB=>?_) ?_
  .walk_at "d";exact⟨a,_,dx,fs,_,_,rfl,ha,T.IT.no (kC T) (j:=2) r.bR (by decide) h2,hB⟩
  walk_at "d";by_cases h1:r.ci=1
  .refine nP (fun B hB=>?_) ?_
   .walk_at "d";exact⟨a,_,dx,fs,_,_,rfl,ha,T.IT.yes (kC T) (j:=1) r.bR (by decide) h1,hB⟩
   obtain⟨z,rfl⟩:=Rl.Su h1;walk_at "d";exact fg (q A (Ext.refl A))
  refine k8 (fun B hB=>?_) ?_
  .walk_at "d";exact⟨a,_,dx,fs,_,_,rfl,ha,T.IT.no (kC T) (j:=1) r.bR (by decide) h1,hB⟩
  walk_at "d";have h4:=T.IT.NT (kC T) (i:=r.ci) r.bR [0,5,6,7] (by decide);refine nO ([0,5,6,7].any (r.ci==·)) (fun B hB=>?_) ?_
  .walk_at "d";exact⟨d8,a,_,dx,fs,[pF,ly,lz,lA],_,rfl,ha,h4,hB⟩
  by_cases h0:[0,5,6,7].any (r.ci==·)=true
  .refine ZH h0 ?_;walk_at "d";have e0:r.lst e=some 0:=by
    cases r with
    | nothing=>rfl
    | hold k x=>exact if_pos (by simp[Rl.ci]at h0;lia)
    | _=>simp[Rl.ci]at h0
   rw[e0]at q;exact fg (q A (Ext.refl A))
  refine Zm (by simpa using h0) ?_;walk_at "d";refine BI hr fun l0 ps cE kD=>?_;have hd0:d≠l0:=dN hA cE;walk_at "d";refine⟨⟨_,Zb⟩,fun l hl=>?_⟩;walk_at "c";have iQ:ps.length=r.kids.length:=kD.len;refine yw (ps.map U.ref) (fun _=>true) (fun k=>oU ((r.kids[k]?.getD .nothing).lst e)) (fun τ=>∃x,τ=[x,some (.ref d)]) ⟨_,rfl⟩ hl (by rw[Yc,iQ];exact YB r.il (by decide)) (fun k A2 _ e2=>⟨_,e2 _ _ Zb,rfl⟩) ?_ ?_
  .rintro k u τ A2 hu ⟨x,rfl⟩ e2 Cy Cn hy _;obtain⟨b,hb,rfl⟩:=Z0 hu;obtain⟨y,pQ,ug⟩:=kD.get hb;have hm:=Yi pQ;have OC:=Rl.ck hm;walk_at "d";refine⟨b,d,y,ep,ns,e,rfl,ug.ext ((Ext.new cE).trans e2),by lia,fun z hz=>hn z (Rl.gn hm hz),e2 _ _ ((Ext.new cE) _ _ hA),fun B eB=>?_⟩;have:=hy rfl [some (.ref b),some (.ref d)] B ⟨_,rfl⟩ eB;rw[pQ]at this;exact this
  intro B eB eR;have hW:((List.range (ps.map U.ref).length).filter fun _=>true).map (fun k=>oU ((r.kids[k]?.getD .nothing).lst e))=r.kids.map fun y=>oU (y.lst e):=by
   rw[zF.mpr fun _ _=>rfl,Yc,iQ];exact Gf (fun y=>oU (Rl.lst e y)) r.kids .nothing
  rw[hW];have jO:Ext A (af B l (.lst (r.kids.map fun y=>oU (y.lst e)))):=((Ext.new cE).trans eB).trans (Ext.new eR);have hL:af B l (.lst (r.kids.map fun y=>oU (y.lst e))) l=some (.lst (r.kids.map fun y=>oU (y.lst e))):=Zb;generalize af B l (.lst (r.kids.map fun y=>oU (y.lst e)))=B1 at jO hL ⊢;clear hW eR eB;by_cases h3:r.ci=3
  .refine nP (fun B hB=>?_) ?_
   .walk_at "d";exact⟨a,_,dx,fs,_,_,rfl,jO _ _ ha,T.IT.yes (kC T) (j:=3) r.bR (by decide) h3,hB⟩
   obtain⟨x,y,rfl⟩:=Rl.LI h3;walk_at "d";refine⟨⟨_,hL⟩,fun l2 dj=>?_⟩;walk_at "c";exact NX dj (fun k A2 _ e2=>⟨_,e2 _ _ hL,rfl⟩) fun B eB=>fg (q B (jO.trans eB))
  refine k8 (fun B hB=>?_) ?_
  .walk_at "d";exact⟨a,_,dx,fs,_,_,rfl,jO _ _ ha,T.IT.no (kC T) (j:=3) r.bR (by decide) h3,hB⟩
  walk_at "d";have eS:r.lst e=qL (r.kids.map fun y=>y.lst e):=by
   cases r with
   | bh x y=>simp only[Rl.lst,Rl.kids,Yr,Ya4,qL,List.foldr_cons,List.foldr_nil];cases y.lst e<;>rfl
   | hold k x =>
    have hk:¬k<3:=fun hk=>h0 (by simp[Rl.ci];lia);simp only[Rl.lst,hk,fW,Rl.kids,Yr,Ya4,qL,List.foldr_cons,List.foldr_nil];cases x.lst e<;>rfl
   | named z=>exact absurd rfl h2
   | bead z=>exact absurd rfl h1
   | nothing=>exact absurd rfl h0
   | or x y=>exact absurd rfl h3
  rw[show(r.kids.map fun y=>oU (y.lst e))=(r.kids.map fun y=>y.lst e).map oU from by rw[jk];rfl]at hL;rw[eS]at q;generalize(r.kids.map fun y=>y.lst e)=vs at hL q;refine nO (vs.any (·.isNone)) (fun B hB=>?_) ?_
  .walk_at "d";exact U_ hL ⟨_,rfl,hB⟩
  cases hv:vs.any (·.isNone)with
  | true =>
   rw[NY hv]at q;refine ZH rfl ?_;walk_at "d";exact fg (q B1 jO)
  | false =>
   obtain⟨ms,e1,e2⟩:=NZ hv;rw[e2]at q;rw[e1]at hL;refine Zm rfl ?_;walk_at "d";exact⟨ms,hL,fg (q B1 jO)⟩
end
def OD(P:Program)(w:World)(cs:Nat->Addr)(n:Nat):bP:=fun us A Q=>∃(a d:Addr)(r:Rl)(ep:Nat)(ns:List Str)(e:Str->On),us=[.ref a,.ref d]/\bZ cs A a r/\r.dep<=n/\(∀z∈r.bb,z∈ns)/\A d=some (dS P w ep (ik ns e))/\∀B,Ext A B->Q (.bl (r.hp e)) B
def n8:∀us A Q,¬OD P w cs 0 us A Q:=fun us A Q aD=>by obtain⟨_,_,r,_,_,_,_,_,h,_⟩:=aD;have:=r.bC;lia
section
include T
def VU(k:Nat):f7 K (cS (5+min k 3)) "part":=by
 rcases k with _|_|_|k
 .exact T.cH
 .exact T.cI
 .exact T.bO
 .rw[Nat.min_eq_right (by lia)];exact T.cp
theorem VV(n:Nat):T.ky.Ok aP (n+4) (aW K (OD P w cS n)):=by
 have bj:=BK T;induction n with
 | zero=>exact o5 T.ky.f T.ky.s n8
 | succ n ui =>
  have jc:=GU T (n+1);apply T.ky.bG;walk_at "f";exact fun S hr=>⟨_,(Zc (ZG ((ni (gQ (ZX LB T.aA (Za (pv 0) (Za (Zz (Za (Z9 (v:=.ref _) (by rfl) T.mP rfl) (Za (Z9 (v:=.ref _) (by rfl) T.mQ rfl) (Za (Z9 (v:=.ref _) (by rfl) T.eH rfl) (Za (Z9 (v:=.ref _) (by rfl) T.mR rfl) Zd))))) Zd)))) (oC (Zj yy (T.iq.pc jc hr (Za (Z6 (pv 0) rfl) (Za (pv 1) Zd))) Zg (Zx _))))).pt (Ze (Zp kS)) Zo)
   (Ze (Zp (ZX (NP rfl) T.qN (Za (nA (ts:=["part"]) (frs':=[("leasts",1)]) (cl:=_) rfl .z (Z5 (qy (pv 0) bj.mn hr gY)) (fun _ _ _ _=>Zl (i:=0) (show List.Nodup (["part","leasts"]:List Str)from by decide +kernel) rfl (Or.inl rfl) (.inr rfl)) (fun _ _ _ _=>j7) (fun _ _ _ _=>by exact(T.ky.pc ui hr (Za (pv 0) (Za (pv 1) Zd))))) Zd))))),by walk_at "abh"⟩
  rintro us A Q ⟨a,d,r,ep,ns,e,rfl,hr,hd,hn,hA,q⟩;walk_at "o";obtain⟨dx,fs,ha,hx⟩:=hr.cls yQ;have h4:=T.IT.NT (kC T) (i:=r.ci) r.bR [5,6,7,8] (by decide);refine mE (r.jH e) (fun B hB=>?_) fun B eB=>?_
  .walk_at "d";refine⟨d8,a,_,dx,fs,[ly,lz,lA,mI],_,rfl,ha,h4,?_⟩;cases r with
   | hold k x =>
    obtain⟨dx,p,ha,hp⟩:=hr;refine ZH (by simp[Rl.ci];lia) ⟨a,_,dx,_,_,rfl,ha,kC T _ (sM (by show 5+min k 3<9;lia)),VU T k,lB,p,d,x,ep,ns,e,rfl,hp,by simp only[Rl.dep]at hd;lia,hn,hA,fun B1 e1=>sZ ⟨_,rfl,hB B1 e1⟩⟩
   | _=>exact Zm rfl (hB A (Ext.refl A))
  rw[r.pC]at q;cases hk:r.jH e with
  | true =>
   refine ZH rfl ?_;walk_at "d";rw[hk,Bool.true_or]at q;exact fg (q B eB)
  | false =>
  refine Zm rfl ?_;rw[hk,Bool.false_or]at q;walk_at "d";refine BI (hr.ext eB) fun l0 ps cE kD=>?_;walk_at "d";refine⟨⟨_,Zb⟩,fun l hl=>?_⟩;walk_at "c";have iQ:ps.length=r.kids.length:=kD.len;refine yw (ps.map U.ref) (fun _=>true) (fun k=>.bl ((r.kids[k]?.getD .nothing).hp e)) (fun τ=>∃x,τ=[x,some (.ref d)]) ⟨_,rfl⟩ hl (by rw[Yc,iQ];exact YB r.il (by decide)) (fun k A2 _ e2=>⟨_,e2 _ _ Zb,rfl⟩) ?_ ?_
  .rintro k u τ A2 hu ⟨x,rfl⟩ e2 Cy Cn hy _;obtain⟨b,hb,rfl⟩:=Z0 hu;obtain⟨y,pQ,ug⟩:=kD.get hb;have hm:=Yi pQ;have OC:=Rl.ck hm;walk_at "d";refine⟨b,d,y,ep,ns,e,rfl,ug.ext ((Ext.new cE).trans e2),by lia,fun z hz=>hn z (Rl.gn hm hz),e2 _ _ ((Ext.new cE) _ _ (eB _ _ hA)),fun B eB=>?_⟩;have:=hy rfl [some (.ref b),some (.ref d)] B ⟨_,rfl⟩ eB;rw[pQ]at this;exact this
  intro B1 jO eR;have hW:((List.range (ps.map U.ref).length).filter fun _=>true).map (fun k=>U.bl ((r.kids[k]?.getD .nothing).hp e))=(r.kids.map fun y=>y.hp e).map U.bl:=by
   rw[zF.mpr fun _ _=>rfl,Yc,iQ,jk];exact Gf (fun y=>U.bl (Rl.hp e y)) r.kids .nothing
  rw[hW];walk_at "d";exact⟨_,Zb,fg (q _ (((eB.trans (Ext.new cE)).trans jO).trans (Ext.new eR)))⟩
end
def kF(e:Str->On):Rl->List Rl
 | .bh x y=>(if y.lst e=some 0 then[x]else[])++(if x.lst e=some 0 then[y]else[])
 | r=>r.kids
def VW(h:x∈kF e r):x∈r.kids:=by
 cases r with
 | bh a b =>
  rcases Yv.mp h with h|h
  .split at h
   .rw[Yn.mp h];exact .head _
   .cases h
  .split at h
   .rw[Yn.mp h];exact .tail _ (.head _)
   .cases h
 | _=>exact h
def OE(h:r.ci≠2):r.lean e=((kF e r).map fun x=>x.lean e).flatten:=by
 cases r with
 | bh x y =>
  simp only[Rl.lean,kF];split<;>split<;>simp
 | named z=>exact absurd rfl h
 | _=>simp[Rl.lean,kF,Rl.kids]
def VX(g1:bZ cs B p1 x)(g2:bZ cs B p2 y):ig cs B ((if y.lst e=some 0 then[p1]else[])++(if x.lst e=some 0 then[p2]else[])) (kF e (.bh x y)):=by
 simp only[kF];by_cases k1:y.lst e=some 0<;>by_cases k2:x.lst e=some 0<;>simp only[k1,k2,if_true,fW,List.nil_append,YW,List.cons_append]
 .exact⟨g1,g2,trivial⟩
 .exact⟨g1,trivial⟩
 .exact⟨g2,trivial⟩
 .trivial
def bZ.kp(key:∀ {a C dx:Addr} {fs:List (Str×U)},A a=some (.ins C dx fs)->B a=some (.ins C dx fs)):∀ {a:Addr} {r:Rl},bZ cs A a r->bZ cs B a r:=by
 intro a r;induction r generalizing a with
 | nothing=>exact fun⟨dx,h⟩=>⟨dx,key h⟩
 | bead c=>exact fun⟨dx,h⟩=>⟨dx,key h⟩
 | named c=>exact fun⟨dx,h⟩=>⟨dx,key h⟩
 | or x y pj pq=>exact fun⟨dx,p,q,h,h1,h2⟩=>⟨dx,p,q,key h,pj h1,pq h2⟩
 | bh x y pj pq=>exact fun⟨dx,p,q,h,h1,h2⟩=>⟨dx,p,q,key h,pj h1,pq h2⟩
 | hold k x ih=>exact fun⟨dx,p,h,h1⟩=>⟨dx,p,key h,ih h1⟩
def VY(P:Program)(w:World)(cs:Nat->Addr)(n:Nat):bP:=fun us A Q=>∃(a d:Addr)(r:Rl)(ep:Nat)(ns:List Str)(e:Str->On),us=[.ref a,.ref d]/\bZ cs A a r/\r.dep<=n/\(∀z∈r.bb,z∈ns)/\A d=some (dS P w ep (ik ns e))/\∀B l ps,Ext A B->A l=none->B l=some (.lst (List.map U.ref ps))->ig cs B ps (kF e r)->Q (.ref l) B
def OF(P:Program)(w:World)(cs:Nat->Addr)(n:Nat):bP:=fun us A Q=>∃(a d:Addr)(r:Rl)(ep:Nat)(ns:List Str)(e:Str->On),us=[.ref a,.ref d]/\bZ cs A a r/\r.dep<=n/\r.size<=60/\(∀z∈r.bb,z∈ns)/\A d=some (dS P w ep (ik ns e))/\∀B l,Ext A B->A l=none->B l=some (.lst ((r.lean e).map U.str))->Q (.ref l) B
def VZ:∀us A Q,¬OF P w cs 0 us A Q:=fun us A Q aD=>by obtain⟨_,_,r,_,_,_,_,_,h,_⟩:=aD;have:=r.bC;lia
section
include T
theorem V0(n:Nat):T.tQ.Ok aP (n+4) (aW K (VY P w cS n)):=by
 have bj:=BK T;have jc:=GU T n;apply T.tQ.bG;walk_at "f";exact fun S hr=>⟨_,(Zc (ZG (zV (gQ (ZX xU T.aA (Za (pv 0) (Za (Z9 (v:=.ref _) (by rfl) T.yE rfl) Zd))))) (Ze (Zp (qy (pv 0) bj.mn hr gY))) Zo)
   (Zc (Zq (i:=2) S.nd rfl (Or.inl rfl) (ZJ (Za (Zz (Za (Z6 (pv 0) rfl) (Za (Z6 (pv 0) rfl) Zd))) (Za (Zz (Za (Z6 (pv 0) rfl) (Za (Z6 (pv 0) rfl) Zd))) Zd))))
   (Ze (Zp (nA (ts:=["part","beside"]) (frs':=[("leasts",1)]) (cl:=_) rfl .z (Z5 (pv 2)) (fun _ _ _ _=>xD K rfl 2 rfl (ZD (Zl (i:=0) (show List.Nodup (["part","beside","leasts"]:List Str)from by decide +kernel) rfl (Or.inl rfl) (.inr rfl)) (ZD (Zl (i:=1) (show List.Nodup (["part","beside","leasts"]:List Str)from by decide +kernel) rfl (Or.inl rfl) (.inr rfl)) jX)) (by rfl) (by rfl)) (fun _ _ _ _=>by exact(u6 (Zj yy (T.iq.pc jc hr (Za (pv 1) (Za (pv 2) Zd))) Zg (Zx _)))) (fun _ _ _ _=>by exact(pv 0))))))),by walk_at "abh"⟩
 rintro us A Q ⟨a,d,r,ep,ns,e,rfl,hr,hd,hn,hA,q⟩;walk_at "o";obtain⟨dx,fs,ha,hx⟩:=hr.cls yQ;by_cases h4:r.ci=4
 .refine k8 (fun B hB=>?_) ?_
  .walk_at "d";exact⟨a,_,dx,fs,_,_,rfl,ha,T.IT.yes (kC T) (j:=4) r.bR (by decide) h4,hB⟩
  obtain⟨x,y,rfl⟩:=Rl.LJ h4;obtain⟨dx,p1,p2,ha,h1,h2⟩:=hr;simp only[Rl.dep]at hd;walk_at "d";refine⟨a,_,dx,_,_,rfl,ha,T.eG,T.c7,BG,a,_,dx,_,_,rfl,ha,T.eG,T.b8,BH (by decide +kernel),bI,a,_,dx,_,_,rfl,ha,T.eG,T.b8,BH (by decide +kernel),a,_,dx,_,_,rfl,ha,T.eG,T.c7,BG,bI,bI,fun l0 cE=>?_⟩;walk_at "d";refine⟨⟨_,Zb⟩,fun l hl=>?_⟩;walk_at "c";refine yw [.tup [.ref p1,.ref p2],.tup [.ref p2,.ref p1]] (fun k=>if k=0 then decide (y.lst e=some 0)else decide (x.lst e=some 0)) (fun k=>if k=0 then .ref p1 else .ref p2) (fun τ=>∃u v,τ=[u,v,some (.ref d)]) ⟨_,_,rfl⟩ hl (show 2<=100000 by decide) (fun k A2 _ e2=>⟨_,e2 _ _ Zb,rfl⟩) ?_ ?_
  .rintro k u τ A2 hu ⟨u1,u2,rfl⟩ e2 Cy Cn hy iT;have eA:Ext A A2:=(Ext.new cE).trans e2;rcases k with _|_|k
   .obtain rfl:=YA hu;walk_at "d";exact⟨rfl,p2,d,y,ep,ns,e,rfl,h2.ext eA,by lia,fun z hz=>hn z (Yy _ hz),eA _ _ hA,fun B1 e1=>sZ ⟨_,rfl,kg (fun h=>hy h _ B1 ⟨_,_,rfl⟩ e1) fun h=>iT h _ B1 ⟨_,_,rfl⟩ e1⟩⟩
   .obtain rfl:=YA hu;walk_at "d";exact⟨rfl,p1,d,x,ep,ns,e,rfl,h1.ext eA,by lia,fun z hz=>hn z (YY _ hz),eA _ _ hA,fun B1 e1=>sZ ⟨_,rfl,kg (fun h=>hy h _ B1 ⟨_,_,rfl⟩ e1) fun h=>iT h _ B1 ⟨_,_,rfl⟩ e1⟩⟩
   .cases hu
  intro B eB eR;have eQ:Ext A (af B l (.lst (((List.range 2).filter fun k=>if k=0 then decide (y.lst e=some 0)else decide (x.lst e=some 0)).map fun k=>if k=0 then U.ref p1 else .ref p2))):=((Ext.new cE).trans eB).trans (Ext.new eR);refine fg (q _ l ((if y.lst e=some 0 then[p1]else[])++(if x.lst e=some 0 then[p2]else[])) eQ (iO (Ext.new cE) hl) ?_ ?_)
  .rw[Zb];show some (AO.lst (List.map _ (List.filter _ [0,1])))=_;by_cases g1:y.lst e=some 0<;>by_cases g2:x.lst e=some 0<;>simp[g1,g2]
  .exact VX (h1.ext eQ) (h2.ext eQ)
 .refine nP (fun B hB=>?_) ?_
  .walk_at "d";exact⟨a,_,dx,fs,_,_,rfl,ha,T.IT.no (kC T) (j:=4) r.bR (by decide) h4,hB⟩
  walk_at "d";refine BI hr fun l0 ps cE kD=>fg (q _ l0 ps (Ext.new cE) cE Zb ?_);rw[show kF e r=r.kids from by cases r<;>first|rfl|exact absurd rfl h4];exact kD.ext (Ext.new cE)
theorem V1(n:Nat):T.kz.Ok aP (n+5) (aW K (OF P w cS n)):=by
 induction n with
 | zero=>exact o5 T.kz.f T.kz.s VZ
 | succ n uj =>
  have GV:=V0 T (n+1);apply T.kz.bG;walk_at "f";exact fun S hr=>⟨_,(Zc (ZG (gQ (ZX xU T.aA (Za (pv 0) (Za (Z9 (v:=.ref _) (by rfl) T.gx rfl) Zd)))) (Ze (Zp (ZJ (Za (Z6 (pv 0) rfl) Zd)))) Zo)
   (Zc (Zq (i:=2) S.nd rfl (Or.inl rfl) (ZJ Zd))
   (Zc (Z3 YG rfl (Z5 (T.tQ.pc GV hr (Za (pv 0) (Za (pv 1) Zd)))) (Zl (i:=3) S.nd rfl (Or.inl rfl))
   (Ze (ZP (iK Yz Ic Ie Ln (pv 2) (Za (T.kz.pc uj hr (Za (pv 3) (Za (pv 1) Zd))) Zd)))))
   (Ze (Zp (pv 2)))))),by walk_at "abh"⟩
  rintro us A Q ⟨a,d,r,ep,ns,e,rfl,hr,hd,hs,hn,hA,q⟩;walk_at "o";obtain⟨dx,fs,ha,hx⟩:=hr.cls yQ;by_cases h2:r.ci=2
  .refine nP (fun B hB=>?_) ?_
   .walk_at "d";exact⟨a,_,dx,fs,_,_,rfl,ha,T.IT.yes (kC T) (j:=2) r.bR (by decide) h2,hB⟩
   obtain⟨z,rfl⟩:=Rl.EV h2;obtain⟨dx,ha⟩:=hr;walk_at "d";exact⟨a,_,dx,_,_,rfl,ha,T.b9,T.bD,lB,qw,fun l hl=>fg (q _ l (Ext.new hl) hl Zb)⟩
  refine k8 (fun B hB=>?_) ?_
  .walk_at "d";exact⟨a,_,dx,fs,_,_,rfl,ha,T.IT.no (kC T) (j:=2) r.bR (by decide) h2,hB⟩
  walk_at "d";refine⟨by decide,fun p hp=>?_⟩;walk_at "d";refine⟨a,d,r,ep,ns,e,rfl,hr.ext (Ext.new hp),hd,hn,Ext.new hp _ _ hA,fun B l0 ps eB cE eR kD=>?_⟩;walk_at "d";refine⟨⟨_,eR⟩,?_⟩;rw[OE h2]at q;have hlen:((kF e r).map fun x=>x.lean e).flatten.length<=60:=by rw[<- OE h2];exact YB r.bp hs
  have bA:p≠l0:=dN Zb cE;refine nK (ps.map U.ref) (fun k ρ A2=>∃(B2:aw)(x3:Option U),ρ=[some (.ref a),some (.ref d),some (.ref p),x3]/\A2=af B2 p (.lst ((((kF e r).take k).map fun x=>x.lean e).flatten.map U.str))/\B2 p=none/\Ext (lr B p) B2) ⟨lr B p,_,rfl,(NO (eB _ _ Zb)).symm,vK,Ext.refl _⟩ (fun k ρ A2 _ aD=>by obtain⟨B2,_,_,e2,d9,vP⟩:=aD;rw[e2,Zi (Ne.symm bA)];exact vP _ _ (by rw[pB (Ne.symm bA)];exact eR)) ?_ ?_
  .rintro k u ρ A2 hu ⟨B2,x3,rfl,rfl,d9,vP⟩;obtain⟨b,hb,rfl⟩:=Z0 hu;obtain⟨x,hx,ug⟩:=kD.get hb;have hm:=VW (Yi hx);have Oz:=Rl.ck hm;have e2:∀ {o:AO} {y:Addr},y≠p->B y=some o->af B2 p (.lst ((((kF e r).take k).map fun x=>x.lean e).flatten.map U.str)) y=some o:=fun hy h=>by rw[Zi hy];exact vP _ _ (by rw[pB hy];exact h)
   have qQ:=eB _ _ Zb;have V2:d≠p:=dN hA hp;have jq:=GQ (fun x:Rl=>x.lean e) (kF e r) k;walk_at "d";refine⟨⟨_,Zb⟩,b,d,x,ep,ns,e,rfl,bZ.kp (fun {a C dx fs} h=>e2 (fun z=>by rw[z,qQ]at h;cases h) h) ug,by lia,by lia,fun z hz=>hn z (Rl.gn hm hz),e2 V2 (eB _ _ (Ext.new hp _ _ hA)),fun B3 l3 e3 qR V3=>?_⟩;walk_at "d";have Gi:=x.bp (e:=e);refine⟨_,_,e3 _ _ Zb,V3,EG (by rw[Yc,Yc];lia),lr B3 p,_,rfl,?_,vK,?_⟩
   .rw[vL,GR (f:=fun x:Rl=>x.lean e) hx,Yt]
   .exact vP.trans (vM ((Ext.new d9).trans e3) d9)
  .rintro ρ A2 ⟨B2,x3,rfl,rfl,d9,vP⟩;have iQ:ps.length=(kF e r).length:=kD.len;rw[Yc,iQ,YV];walk_at "d";exact fg (q _ p (((vM ((Ext.new hp).trans eB) hp).trans vP).trans (Ext.new d9)) hp Zb)
end
def bU(ps:List (Str×Addr)):List (Str×U):=ps.map fun p=>(p.1,.ref p.2)
def OG:(bU ps).map (·.1)=ps.map (·.1):=by unfold bU;rw[jk];rfl
structure lC (cs:Nat->Addr) (A:aw) (ps:List (Str×Addr)) (rs:List Rl):Prop where
 os:ig cs A (ps.map (·.2)) rs
 nd:(ps.map (·.1)).Nodup
 sz:∀r∈rs,r.dep<=60/\r.size<=60/\∀z∈r.bb,z∈ps.map (·.1)
 len:ps.length<=60
def lC.ext(h:lC cs A ps rs)(e:Ext A B):lC cs B ps rs:=⟨h.os.ext e,h.nd,h.sz,h.len⟩
def lC.get(h:lC cs A ps rs){k:Nat}(hp:ps[k]? = some p):∃r,rs[k]? = some r/\bZ cs A p.2 r/\r.dep<=60/\r.size<=60/\∀z∈r.bb,z∈ps.map (·.1):=by
 obtain⟨r,h1,h2⟩:=h.os.get (show(ps.map (·.2))[k]? = some p.2 by rw[Yj,hp];rfl);exact⟨r,h1,h2,h.sz r (Yi h1)⟩
theorem vQ{α:Type}:∀ {kus:List (Str×α)},z∈kus.map (·.1)->(kus.lookup z).isSome=true
 | (a, b)::r,h=>by
  rw[List.lookup_cons]
  by_cases e:z=a
  .rw[beq_iff_eq.mpr e];rfl
  .rw[Yx.mpr e]
   exact vQ ((Yp.mp h).resolve_left e)
def BL{α:Type}{kus:List (Str×α)}:(kus.lookup z).isSome=decide (z∈kus.map (·.1)):=by
 by_cases h:z∈kus.map (·.1)
 .rw[vQ h,YC h]
 .rw[BD h,Yu h];rfl
def _root_.L2.Rl.jd:∀ {r:Rl} {z:Str},r.wd=true->z∈r.bb->d6 z=true:=by
 intro r z;induction r with
 | nothing=>intro _ h;cases h
 | bead c=>intro _ h;cases h
 | named c=>intro hw h;rw[Yn.mp h];exact hw
 | or x y i j=>intro hw h;simp only[Rl.wd,YQ]at hw;exact(Yv.mp h).elim (i hw.1) (j hw.2)
 | bh x y i j=>intro hw h;simp only[Rl.wd,YQ]at hw;exact(Yv.mp h).elim (i hw.1) (j hw.2)
 | hold k x i=>exact i
structure uk (ns:List Str) (r:Rl) (z:Str):Prop where
 m : z∈r.bb
 n : z∉ns
 f : ∀y∈r.bb,y∉ns->PySem.Spec.ltCps y.cps.toList z.cps.toList=false
def Kn(ns:List Str)(rs:List Rl):Prop:=∀r∈rs,∀y∈r.bb,y∈ns
def qS(ns:List Str)(z:Str):Prop:=∃k:Nat,ns[k]? = some z/\z∈ns.take k/\(ns.take k).Nodup
def qT(ns:List Str)(rs:List Rl)(z:Str):Prop:=∃(k:Nat)(r:Rl),rs[k]? = some r/\(∀(j:Nat) r',j<k->rs[j]? = some r'->∀y∈r'.bb,y∈ns)/\uk ns r z
theorem uk.of(nm:BB r zs)(hz:zs[j]? = some z)(hn:z∉ns)(hj:∀(i:Nat) y,i<j->zs[i]? = some y->y∈ns):uk ns r z:=by
 refine⟨(nm.mem z).mp (Yi hz),hn,fun y hy GW=>?_⟩;obtain⟨i,hi⟩:=List.getElem?_of_mem ((nm.mem y).mpr hy);have hij:j<=i:=uM fun h=>GW (hj i y h hi);have hl:=(Yg.mp hz).1;have n9:PyProof.Rows.sortedS (zs.drop j)=true:=by
  have go:∀(j:Nat)(l:List Str),PyProof.Rows.sortedS l=true->PyProof.Rows.sortedS (l.drop j)=true:=fun j=>by
   induction j with
   | zero=>intro l h;exact h
   | succ j ih =>
    intro l h;cases l with
    | nil=>exact h
    | cons x l=>exact ih l (UQ h)
  exact go j zs nm.so
 rw[Ib hl,(Yg.mp hz).2]at n9;by_cases e:i=j
 .subst e;rw[hz]at hi;cases hi;rw[PyProof.Rows.ltCps_eq];simp[List.lt_irrefl]
 .refine F1 _ z n9 y (Yi (i:=i-(j+1)) ?_);rw[Ct,show j+1+(i-(j+1))=i by lia];exact hi
structure n_ (cs:Nat->Addr) (A:aw) (ps:List (Str×Addr)) (rs:List Rl):Prop where
 os:ig cs A (ps.map (·.2)) rs
 sz:∀r∈rs,r.dep<=60/\r.size<=60/\r.wd=true
 len:ps.length<=60
 wd:∀z∈ps.map (·.1),d6 z=true
def n_.ext(h:n_ cs A ps rs)(e:Ext A B):n_ cs B ps rs:=⟨h.os.ext e,h.sz,h.len,h.wd⟩
def n_.get(h:n_ cs A ps rs){k:Nat}(hp:ps[k]? = some p):∃r,rs[k]? = some r/\bZ cs A p.2 r/\r.dep<=60/\r.size<=60/\r.wd=true:=by
 obtain⟨r,h1,h2⟩:=h.os.get (show(ps.map (·.2))[k]? = some p.2 by rw[Yj,hp];rfl);exact⟨r,h1,h2,h.sz r (Yi h1)⟩
def n_.in(h:n_ cs A ps rs)(nd:(ps.map (·.1)).Nodup)(kn:Kn (ps.map (·.1)) rs):lC cs A ps rs:=⟨h.os,nd,fun r hr=>⟨(h.sz r hr).1,(h.sz r hr).2.1,kn r hr⟩,h.len⟩
def V4(P:Program)(w:World)(cs:Nat->Addr)(DT DN:Addr):pd:=fun us A Q X=>∃(l:Addr)(ps:List (Str×Addr))(rs:List Rl),us=[.ref l]/\A l=some (.lst (ps.map fun p=>.tup [.str p.1,.ref p.2]))/\n_ cs A ps rs/\(∀z,qS (ps.map (·.1)) z->∀B,Ext A B->X DT [("name",.str z)] B)/\((ps.map (·.1)).Nodup->∀z,qT (ps.map (·.1)) rs z->∀B,Ext A B->X DN [("name",.str z)] B)/\((ps.map (·.1)).Nodup->Kn (ps.map (·.1)) rs->∀B d ep,Ext A B->A d=none->B d=some (dS P w ep (bU ps))->Q (.ref d) B)
def OH{xs:List Str}(h:(xs.take k).Nodup)(hz:xs[k]? = some z)(hn:z∉xs.take k):(xs.take (k+1)).Nodup:=by
 rw[List.take_succ_eq_append_getElem (Yg.mp hz).1,(Yg.mp hz).2];exact List.nodup_append.mpr ⟨h,by simp,fun a ha b hb q=>hn (by rw[show z=a from(q.trans (Yn.mp hb)).symm];exact ha)⟩
section
include T
def V5:T.pG.Ok aP 1 (ym ZO "name" ph):=FK (okV:=ph) T.jJ T.c8 rfl rfl (M7 (t1:="the name ") (t2:=" stands twice") (by decide) (by decide)) (fun bf A outer s H E hr=>(Zc (ZP (Bm T.XB (by rfl) T.aY (Za (pv 0) (Za (ER (qz Zk (qz (EO (pv 1)) (qz Zk EN)))) Zd))))
   (Ze (Bn (pv 0) (pv 1))))) T.pG.f rfl T.pG.s
def V6:T.pH.Ok aP 1 (ym ZB "name" ph):=FK (okV:=ph) T.fR T.cq rfl rfl (Uk (t1:="no class is called ") (by decide)) (fun bf A outer s H E hr=>(Zc (ZP (Bm T.XB (by rfl) T.aY (Za (pv 0) (Za (ER (qz Zk (qz (EO (pv 1)) EN))) Zd))))
   (Ze (Bn (pv 0) (pv 1))))) T.pH.f rfl T.pH.s
theorem V7:T.mL.Ok (gi P w) 64 (qG K (V4 P w cS ZO ZB)):=by
 have bT:=OA T 60;have GX:=V5 T;have GY:=V6 T;apply T.mL.vD;walk_at "f";exact fun S hr hE=>⟨_,(Zc (Zq (i:=1) S.nd rfl (Or.inl rfl) sN)
   (Zc (Z3 (yk nX) rfl (Z5 (pv 0)) (oE (n:=2) rfl (ZD (Zl (i:=2) S.nd rfl (Or.inl rfl)) (ZD (Zl (i:=3) S.nd rfl (Or.inl rfl)) jX)))
   (Zc (ZG (Zj A_ (pv 2) (pv 1) (by with_unfolding_all rfl)) (Ze (Bq rfl T.jJ GX.mn hr (by rfl) T.gy T.pG.b (Za (pv 2) Zd))) Zo)
   (Ze (nq (pv 3) (nk (pv 1) (pv 2) sP)))))
   (Zc (Z3 (yk nX) rfl (Mg (pv 1)) (Zl (i:=3) S.nd rfl (Or.inl rfl))
   (Ze (Z3 (yk nX) rfl (Z5 (qy (pv 3) bT.mn hr gY)) (Zl (i:=2) S.nd rfl (Or.inl rfl))
   (Ze (ZG (Zj E8 (pv 2) (pv 1) (by with_unfolding_all rfl)) (Ze (Bq rfl T.fR GY.mn hr (by rfl) T.dA T.pH.b (Za (pv 2) Zd))) Zo)))))
   (Ze (Zp (pv 1)))))),by walk_at "abh"⟩
 rintro us A Q X ⟨l,ps,rs,rfl,hl,hB,qt,qn,q⟩;walk_at "o";intro d hd;have qI:l≠d:=dN hl hd;walk_at "d";refine⟨⟨_,by rw[Zi qI];exact hl⟩,?_⟩;refine nK (ps.map fun p=>U.tup [.str p.1,.ref p.2]) (fun k ρ A2=>∃(ep:Nat)(x2 x3:Option U),ρ=[some (.ref l),some (.ref d),x2,x3]/\A2=af A d (dS P w ep (bU (ps.take k)))/\((ps.map (·.1)).take k).Nodup) ⟨0,_,_,rfl,rfl,by simp⟩ (fun k ρ A2 _ aD=>by obtain⟨ep,_,_,_,e,_⟩:=aD;rw[e,Zi qI];exact hl) ?_ ?_
 .rintro k u ρ A2 hu ⟨ep,x2,x3,rfl,rfl,cw⟩;obtain⟨p,hp,rfl⟩:=Z0 hu;have hk:=(Yg.mp hp).1;have qU:(ps.map (·.1))[k]? = some p.1:=by rw[Yj,hp];rfl
  have um:=(AY (hB.wd p.1 (Yi qU))).2.2.1;have yT:(bU (ps.take k)).map (·.1)=(ps.map (·.1)).take k:=by rw[OG,wD]
  walk_at "d";refine⟨rfl,nO (decide (p.1∈(ps.map (·.1)).take k)) (fun B hB=>?_) ?_⟩
  .walk_at "d";refine⟨ep,_,Zb,?_⟩;rw[BL,yT];exact hB
  by_cases hz:p.1∈(ps.map (·.1)).take k
  .refine ZH (YC hz) ?_;walk_at "d";exact⟨_,rfl,⟨p.1,rfl,by lia⟩,qt p.1 ⟨k,qU,hz,cw⟩ _ (Ext.new hd)⟩
  refine Zm (Yu hz) ?_;walk_at "d";refine⟨d,p.1,ep,_,rfl,rfl,Zb,?_,fun aF=>⟨aF,_,_,rfl,?_,OH cw qU hz⟩⟩
  .have:=hB.len;unfold bU;rw[Yc,YD,Y2];lia
  .rw[ZF,lu (by rw[yT];exact hz)];unfold bU;rw[List.take_succ_eq_append_getElem hk,Yt,(Yg.mp hp).2];rfl
 rintro ρ A2 ⟨ep,x2,x3,rfl,rfl,cw⟩;rw[Yc,m8 (by rw[Yc];exact Yk _)]at cw;rw[Yc,YV];walk_at "d";refine⟨ep,_,Zb,vw (bU ps) (fun k ρ A2=>∃x2 x3,ρ=[some (.ref l),some (.ref d),x2,x3]/\Ext (af A d (dS P w ep (bU ps))) A2/\∀(j:Nat) r',j<k->rs[j]? = some r'->∀y∈r'.bb,y∈ps.map (·.1)) ⟨_,_,rfl,Ext.refl _,fun j _ h=>absurd h (rC j)⟩ (fun k ρ A2 _ ⟨_,_,_,e,_⟩=>e _ _ Zb) ?_ ?_⟩
 .rintro k p' ρ A2 j6 ⟨x2,x3,rfl,e2,hj⟩;unfold bU at j6;obtain⟨p,hp,rfl⟩:=Z0 j6;obtain⟨r,hr,ho,h1,h2,h3⟩:=hB.get hp;walk_at "d";refine BJ (ho.ext ((Ext.new hd).trans e2)) h1 h2 fun B2 l2 zs e3 dj d9 nm=>?_;walk_at "d";refine⟨⟨_,d9⟩,?_⟩;refine nK (zs.map U.str) (fun j ρ A3=>∃x2,ρ=[some (.ref l),some (.ref d),x2,some (.ref p.2)]/\A3=B2/\∀(i:Nat) y,i<j->zs[i]? = some y->y∈ps.map (·.1)) ⟨_,rfl,rfl,fun i _ h=>absurd h (rC i)⟩ (fun j ρ A3 _ aD=>by obtain⟨_,_,e,_⟩:=aD;rw[e];exact d9) ?_ ?_
  .rintro j u ρ A3 hu ⟨x2,rfl,rfl,hi⟩;obtain⟨z,hz,rfl⟩:=Z0 hu;have V8:=(nm.mem z).mp (Yi hz);have um:=(AY (Rl.jd h3 V8)).2.2.1;walk_at "d";refine nO (!decide (z∈ps.map (·.1))) (fun B hB=>?_) ?_
   .walk_at "d";refine⟨ep,_,e3 _ _ (e2 _ _ Zb),?_⟩;rw[BL,OG];exact hB
   by_cases iD:z∈ps.map (·.1)
   .refine Zm (by simp only[YC iD,Bool.not_true]) ?_;walk_at "d";refine⟨_,rfl,trivial,fun i y bq hy=>?_⟩;rcases Nat.lt_succ_iff_lt_or_eq.mp bq with h|rfl
    .exact hi i y h hy
    .rw[hz]at hy;cases hy;exact iD
   .refine ZH (by simp only[Yu iD,Bool.not_false]) ?_;walk_at "d";exact⟨_,rfl,⟨z,rfl,by lia⟩,qn cw z ⟨k,r,hr,hj,uk.of nm hz iD hi⟩ _ (((Ext.new hd).trans e2).trans e3)⟩
  .rintro ρ A3 ⟨x2,rfl,rfl,hi⟩;walk_at "d";refine⟨_,_,rfl,e2.trans e3,fun j r' bq cO y hy=>?_⟩;rcases Nat.lt_succ_iff_lt_or_eq.mp bq with h|rfl
   .exact hj j r' h cO y hy
   .rw[hr]at cO;cases cO;obtain⟨i,kX⟩:=List.getElem?_of_mem ((nm.mem y).mpr hy);exact hi i y (by rw[Yc];exact(Yg.mp kX).1) kX
 .rintro ρ A2 ⟨x2,x3,rfl,e2,hj⟩;walk_at "d";refine fg (q cw (fun r hr=>?_) _ d ep ((Ext.new hd).trans e2) hd (e2 _ _ Zb));obtain⟨j,mU⟩:=List.getElem?_of_mem hr;refine hj j r ?_ mU;have hl:=hB.os.len;have:=(Yg.mp mU).1;unfold bU;rw[Yc]at hl ⊢;lia
end
def fU(ps:List (Str×Addr))(rs:List Rl)(z:Str):Option Rl:=((ps.map (·.1)).zip rs).lookup z
theorem qV{α:Type}:∀ {ns:List Str} {rs:List α} {k:Nat} {z:Str} {r:α},ns.Nodup->ns[k]? = some z->rs[k]? = some r->(ns.zip rs).lookup z=some r
 | n :: ns,r0::rs,0,z,r,_,h1,h2=>by
  cases h1;cases h2
  rw[List.zip_cons_cons,List.lookup_cons_self]
 | n :: ns,r0::rs,k+1,z,r,nd,h1,h2=>by
  have e:z≠n:=fun e=>(jV.mp nd).1 (e▸Yi h1)
  rw[List.zip_cons_cons,List.lookup_cons,Yx.mpr e]
  exact qV (jV.mp nd).2 h1 h2
theorem yU{α:Type}:∀ {ns:List Str} {rs:List α} {z:Str} {r:α},(ns.zip rs).lookup z=some r->∃k:Nat,ns[k]? = some z/\rs[k]? = some r
 | n :: ns,r0::rs,z,r,h=>by
  rw[List.zip_cons_cons,List.lookup_cons]at h
  by_cases e:z=n
  .rw[beq_iff_eq.mpr e]at h
   exact⟨0,by rw[e];rfl,h⟩
  .rw[Yx.mpr e]at h
   obtain⟨k,h1,h2⟩:=yU h
   exact⟨k+1,h1,h2⟩
def GZ(h:fU ps rs z=some r):z∈ps.map (·.1):=by
 obtain⟨k,h1,_⟩:=yU h;exact Yi h1
def lC.at(h:lC cs A ps rs){k:Nat}(hp:ps[k]? = some p)(hr:rs[k]? = some r):fU ps rs p.1=some r:=qV h.nd (by rw[Yj,hp];rfl) hr
def e_(ps:List (Str×Addr))(rs:List Rl):Str->On:=lV (fU ps rs) (ps.map (·.1)).length
theorem G0:∀ {ns:List Str} {vs:List U},vs.length=ns.length->(∀(k:Nat) y z,vs[k]? = some y->ns[k]? = some z->y=oU (e z))->ns.zip vs=ik ns e
 | [],[],_,_=>rfl
 | n :: ns,v::vs,hl,h=>by
  rw[List.zip_cons_cons,h 0 v n rfl rfl,G0 (by simpa using hl) fun k y z h1 h2=>h (k+1) y z h1 h2]
  rfl
def V9(R:Bool->Prop)(h1:∀B:Bool->aw->Prop,(∀k,R k->B k A)->c ρ A B)(h2:∀k,R k->if k=true then t D ρ A else e D ρ A):nN c t e D ρ A:=h1 _ h2
def BM{k:Nat}{u:U}(h:((bU ps).map f)[k]? = some u):∃p,ps[k]? = some p/\u=f (p.1,.ref p.2):=by
 rw[Yj,bU,Yj]at h;cases e:ps[k]? with
 | none=>rw[e]at h;cases h
 | some p=>rw[e]at h;exact⟨p,rfl,(YA h).symm⟩
def V_(P:Program)(w:World)(cs:Nat->Addr):bP:=fun us A Q=>∃(d:Addr)(ps:List (Str×Addr))(rs:List Rl)(ep:Nat),us=[.ref d]/\A d=some (dS P w ep (bU ps))/\lC cs A ps rs/\∀B d' aF,Ext A B->A d'=none->B d'=some (dS P w aF (ik (ps.map (·.1)) (e_ ps rs)))->Q (.ref d') B
section
include T
theorem V':T.tO.Ok aP 64 (aW K (V_ P w cS)):=by
 have jc:=GU T 60;apply T.tO.bG;walk_at "f";exact fun S hr=>⟨_,(Zc (Zq (i:=1) S.nd rfl (Or.inr rfl) (Bc (ts:=["name"]) (frs':=[]) (cl:=[]) rfl .z (Mf (pv 0)) (fun _ _ _ _=>Zl (i:=0) DK rfl (Or.inl rfl) (.inr rfl)) (fun _ _ _ _=>j7) (fun _ _ _ _=>by exact(pv 0)) (fun _ _ _ _=>by exact oA)))
   (Ze (wR YG (gQ kS) (Zc (S0 (i:=2) S.nd rfl (Or.inl rfl) (by with_unfolding_all rfl) (ts:=["name","rule"]) (frs':=[("leasts",1)]) (cl:=_) rfl .z (vt (pv 0)) (fun _ _ _ _=>xD K rfl 2 rfl (ZD (Zl (i:=0) (show List.Nodup (["name","rule","leasts"]:List Str)from by decide +kernel) rfl (Or.inl rfl) (.inr rfl)) (ZD (Zl (i:=1) (show List.Nodup (["name","rule","leasts"]:List Str)from by decide +kernel) rfl (Or.inl rfl) (.inr rfl)) jX)) (by rfl) (by rfl)) (fun _ _ _ _=>j7) (fun _ _ _ _=>by exact(pv 0)) (fun _ _ _ _=>by exact(T.iq.pc jc hr (Za (pv 1) (Za (pv 2) Zd)))))
   (Zc (ZG (Zj (S9 hr) (pv 2) (pv 1) (Zx _)) (Ze (Zp (pv 1))) Zo)
   (Ze (Zq (i:=1) S.nd rfl (Or.inr rfl) (pv 2)))))))),(ZK (ZR (Zbr (Zbn ZhT Zh) Zu Zbd Zh ZlT) Zu)
   (ZdZ (ZoF ZoS) (ZK (ZR (Zbr (Zbn ZhL Zh) (ZcC (ZaL Zu (ZaL Zu Zc3))) Zbd Zh (Zai (Zf Zh (Zf Zh Zr)))) Zu)
   (ZK (Zce (ZaX (ZA ZjF Zh Zh)) (ZcD Zh) Zbk)
   (ZR Zh Zu)))))⟩
 rintro us A Q ⟨d,ps,rs,ep,rfl,hA,hB,q⟩;walk_at "o";refine⟨ep,_,hA,fun d1 mV=>?_⟩;walk_at "c";have hlen:((bU ps).map fK).length=(ps.map (·.1)).length:=by unfold bU;simp
 have bA:=hB.len;refine yx ((bU ps).map fK) (ps.map (·.1)) hlen.symm hB.nd (fun _ v _=>v=.ay) (fun τ=>∃x,τ=[x]) ⟨_,rfl⟩ mV (by rw[hlen,Yc];lia) (fun k A2 _ e2=>⟨_,e2 _ _ hA,by simp[bU],rfl⟩) (fun k v A1 B _ _ h=>h) ?_ ?_
 .rintro k u z τ A2 hu hz ⟨x,rfl⟩ e2 Cy hC;obtain⟨p,hp,rfl⟩:=BM hu;rw[Yj,hp]at hz;cases hz;walk_at "d";exact hC _ _ A2 ⟨_,rfl⟩ (Ext.refl _) rfl
 intro B vs d_ eB kG eZ kH;rw[G0 (e:=lv (fU ps rs) 0) (by rw[eZ,hlen]) fun k y z h1 _=>kH k y h1];walk_at "d";refine⟨fun m ρ A2=>∃(t:Nat)(d2:Addr)(bJ:Nat)(x:Option U),m=(ps.map (·.1)).length-t/\t<=(ps.map (·.1)).length/\ρ=[some (.ref d),some (.ref d2),x]/\Ext A A2/\A d2=none/\A2 d2=some (dS P w bJ (ik (ps.map (·.1)) (lv (fU ps rs) t))),⟨_,0,d1,d_,_,rfl,Y9 _,rfl,eB.trans (Ext.new kG),mV,Zb⟩,?_⟩;rintro m ρ A2 ⟨t,d2,bJ,x,rfl,ht,rfl,e2,hd2,h2⟩;walk_at "d";refine⟨_,fun dg A' h=>h,?_⟩;walk_at "d";refine⟨ep,_,e2 _ _ hA,fun d3 mW=>?_⟩;walk_at "c";have hlen:((bU ps).map fI).length=(ps.map (·.1)).length:=by unfold bU;simp
 refine yx ((bU ps).map fI) (ps.map (·.1)) hlen.symm hB.nd (fun k v _=>∀r,rs[k]? = some r->v=oU (r.lst (lv (fU ps rs) t))) (fun τ=>∃x y,τ=[x,y,some (.ref d2)]) ⟨_,_,rfl⟩ mW (by rw[hlen,Yc];lia) (fun k A2 _ e3=>⟨_,e3 _ _ (e2 _ _ hA),by simp[bU],rfl⟩) (fun k v A1 B _ _ h=>h) ?_ ?_
 .rintro k u z τ A3 hu hz ⟨x1,x2,rfl⟩ e3 Cy hC;obtain⟨p,hp,rfl⟩:=BM hu;rw[Yj,hp]at hz;cases hz;obtain⟨r,hr,ho,g1,g2,g3⟩:=hB.get hp;unfold fI;walk_at "d";refine⟨rfl,p.2,d2,r,bJ,_,_,rfl,ho.ext (e2.trans e3),g1,g3,e3 _ _ h2,fun B e4=>hC _ _ B ⟨_,_,rfl⟩ e4 fun r' cO=>?_⟩;rw[hr]at cO;cases cO;rfl
 intro B vs cP eB kG eZ kH;rw[G0 (e:=lv (fU ps rs) (t+1)) (by rw[eZ,hlen]) fun k y z h1 h2=>by
  rw[Yj]at h2;obtain⟨p,hp,rfl⟩:=YM.mp h2;obtain⟨r,hr,_⟩:=hB.get hp;rw[kH k y h1 r hr];simp only[lv,hB.at hp hr]]
 walk_at "d";have OI:d2≠d3:=dN h2 mW;refine V9 (fun b=>b=true↔ik (ps.map (·.1)) (lv (fU ps rs) (t+1))=ik (ps.map (·.1)) (lv (fU ps rs) t)) (fun B1 je=>?_) fun b hb=>?_
 .walk_at "d";exact⟨cP,bJ,_,_,Zb,by rw[Zi OI];exact eB _ _ h2,by rw[NV,NV],NW,NW,fun b hb=>je b hb⟩
 rw[U8]at hb;have BN:∀z,z∉ps.map (·.1)->∀s,lv (fU ps rs) s z=none:=fun z hz s=>by
  cases s with
  | zero=>rfl
  | succ s =>
   cases h:fU ps rs z with
   | none=>simp only[lv,h]
   | some r=>exact absurd (GZ h) hz
 cases b with
 | true =>
  refine ZH rfl ?_;walk_at "d";have he:∀z,lv (fU ps rs) (t+1) z=lv (fU ps rs) t z:=fun z=>by
   by_cases hz:z∈ps.map (·.1)
   .exact hb.mp rfl z hz
   .rw[BN z hz,BN z hz]
  rw[U3 (ns:=ps.map (·.1)) (fun z r h=>GZ h) ht he]at h2;exact fg (q _ d2 bJ ((e2.trans eB).trans (Ext.new kG)) hd2 (by rw[Zi OI];exact eB _ _ h2))
 | false =>
  refine Zm rfl ?_;walk_at "d";have aT:t≠(ps.map (·.1)).length:=fun e=>by
   have:=hb.mpr fun z _=>by rw[e];exact Gb (fU ps rs) (fun z r h=>GZ h) z
   cases this
  exact⟨_,by lia,t+1,d3,cP,_,rfl,by lia,rfl,(e2.trans eB).trans (Ext.new kG),iO e2 mW,Zb⟩
end
abbrev yV(ps:List (Str×Addr))(rs:List Rl):List (Str×U):=ik (ps.map (·.1)) (e_ ps rs)
structure Wa (zs:List Str) (xs:List Str):Prop where
 so:PyProof.Rows.sortedS zs=true
 nd:zs.Nodup
 mem:∀z,z∈zs↔z∈xs
def fF(A:aw)(vs:List U)(R:Nat->List Str->Prop):Prop:=∀k v,vs[k]? = some v->∃p zs,v=.ref p/\A p=some (.lst (List.map U.str zs))/\R k zs
def fF.ext(h:fF A vs R)(e:Ext A B):fF B vs R:=fun k v hv=>by
 obtain⟨p,zs,h1,h2,h3⟩:=h k v hv
 exact⟨p,zs,h1,e _ _ h2,h3⟩
def G1(e:Str->On)(rs:List Rl)(k:Nat)(zs:List Str):Prop:=∀r,rs[k]? = some r->Wa zs (r.lean e)
def Wb(P:Program)(w:World)(cs:Nat->Addr):bP:=fun us A Q=>∃(d d2:Addr)(ps:List (Str×Addr))(rs:List Rl)(ep bJ:Nat),us=[.ref d,.ref d2]/\A d=some (dS P w ep (bU ps))/\A d2=some (dS P w bJ (yV ps rs))/\lC cs A ps rs/\∀B d' aF vs,Ext A B->A d'=none->B d'=some (dS P w aF ((ps.map (·.1)).zip vs))->vs.length=ps.length->fF B vs (G1 (e_ ps rs) rs)->Q (.ref d') B
section
include T
theorem Wc:T.tP.Ok aP 66 (aW K (Wb P w cS)):=by
 have uj:=V1 T 60;apply T.tP.bG;walk_at "f";exact fun S hr=>⟨_,(Ze (Zp (Bc (ts:=["name","rule"]) (frs':=[("leasts",1)]) (cl:=_) rfl .z (vt (pv 0)) (fun _ _ _ _=>xD K rfl 2 rfl (ZD (Zl (i:=0) (show List.Nodup (["name","rule","leasts"]:List Str)from by decide +kernel) rfl (Or.inl rfl) (.inr rfl)) (ZD (Zl (i:=1) (show List.Nodup (["name","rule","leasts"]:List Str)from by decide +kernel) rfl (Or.inl rfl) (.inr rfl)) jX)) (by rfl) (by rfl)) (fun _ _ _ _=>j7) (fun _ _ _ _=>by exact(pv 0)) (fun _ _ _ _=>by exact(ZX (UZ P w rfl rfl rfl) T.c_ (Za (yz (UY P w rfl rfl rfl) T.jN (Za (T.kz.pc uj hr (Za (pv 1) (Za (pv 2) Zd))) Zd)) Zd)))))),(ZcD (Zbr (Zbn ZhL Zh) (ZcC (ZaL Zu (ZaL Zu Zc3))) Zbd Zh (Zc7 ZfF (Zf (Zc7 Zrd (Zf (Zai (Zf Zh (Zf Zh Zr))) Zr)) Zr))))⟩;rintro us A Q ⟨d,d2,ps,rs,ep,bJ,rfl,hA,yW,hB,q⟩;walk_at "o";refine⟨ep,_,hA,fun d3 mW=>?_⟩;walk_at "c";have bA:=hB.len;have hlen:((bU ps).map fI).length=(ps.map (·.1)).length:=by unfold bU;simp
 refine yx ((bU ps).map fI) (ps.map (·.1)) hlen.symm hB.nd (fun k v A2=>∃p zs,v=.ref p/\A2 p=some (.lst (List.map U.str zs))/\G1 (e_ ps rs) rs k zs) (fun τ=>∃x y,τ=[x,y,some (.ref d2)]) ⟨_,_,rfl⟩ mW (by rw[hlen,Yc];lia) (fun k A2 _ e3=>⟨_,e3 _ _ hA,by simp[bU],rfl⟩) ?_ ?_ ?_
 .rintro k v A1 B h1 h2 ⟨p,zs,rfl,h3,h4⟩;refine⟨p,zs,rfl,h2 _ _ (fun e=>?_) h3,h4⟩;rcases h1 with h1|⟨ep,kus,h1⟩
  .rw[e,h1]at h3;cases h3
  .rw[e,h1]at h3;cases h3
 .rintro k u z τ A3 hu hz ⟨x1,x2,rfl⟩ e3 Cy hC;obtain⟨p,hp,rfl⟩:=BM hu;rw[Yj,hp]at hz;cases hz;obtain⟨r,hr,ho,g1,g2,g3⟩:=hB.get hp;unfold fI;walk_at "d";refine⟨rfl,p.2,d2,r,bJ,_,_,rfl,ho.ext e3,g1,g2,g3,e3 _ _ yW,fun B l eB hl eR=>?_⟩;have qW:=r.bp (e:=e_ ps rs);walk_at "d";refine⟨_,eR,by show(r.lean (e_ ps rs)).length+1<4096;lia,fun p3 vR=>?_⟩;walk_at "d";have hal:=Bx (r.lean (e_ ps rs)) (r.lean (e_ ps rs)).length;obtain⟨cw,Wd⟩:=F7 (r.lean (e_ ps rs)) (r.lean (e_ ps rs)).length (Yk _);refine⟨_,Zb,by lia,fun D zs hD kE n9=>hC _ _ _ ⟨_,_,rfl⟩ ((eB.trans (Ext.new vR)).trans (Ext.new hD)) ⟨D,zs,rfl,Zb,fun r' cO=>?_⟩⟩;rw[hr]at cO;cases cO;exact⟨n9,kE.nodup_iff.mpr cw,fun z=>by rw[kE.mem_iff,Wd,YV]⟩
 .intro B vs cP eB kG eZ kH;refine fg (q _ d3 cP vs (eB.trans (Ext.new kG)) mW Zb (by rw[eZ,hlen,Yc]) fun k v hv=>?_);obtain⟨p,zs,h1,h2,h3⟩:=kH k v hv;exact⟨p,zs,h1,Ext.new kG _ _ h2,h3⟩
end
inductive qX (F:Str->Option Rl):Str->Str->Prop
 | one {z y:Str} {r:Rl}:F z=some r->y∈r.bb->qX F z y
 | more {z x y:Str} {r:Rl}:qX F z x->F x=some r->y∈r.bb->qX F z y
structure BO (F:Str->Option Rl) (z:Str) (zs:List Str):Prop where
 so:PyProof.Rows.sortedS zs=true
 nd:zs.Nodup
 mem:∀y,y∈zs↔qX F z y
def qX.mX(hn:∀r∈rs,∀z∈r.bb,z∈ps.map (·.1))(h:qX (fU ps rs) z y):y∈ps.map (·.1):=by
 cases h with
 | one h1 h2=>obtain⟨k,_,h3⟩:=yU h1;exact hn _ (Yi h3) _ h2
 | more _ h1 h2=>obtain⟨k,_,h3⟩:=yU h1;exact hn _ (Yi h3) _ h2
def We(P:Program)(w:World)(cs:Nat->Addr):bP:=fun us A Q=>∃(z:Str)(d:Addr)(ps:List (Str×Addr))(rs:List Rl)(ep:Nat),us=[.str z,.ref d]/\z∈ps.map (·.1)/\A d=some (dS P w ep (bU ps))/\lC cs A ps rs/\∀B l zs,Ext A B->A l=none->B l=some (.lst (List.map U.str zs))->BO (fU ps rs) z zs->Q (.ref l) B
def jP(e:Ext A B)(h:A x=none):Ext A (af B x o):=fun y u q=>by
 rw[Zi (dN q h)]
 exact e y u q
structure pR (F:Str->Option Rl) (z:Str) (ks ws:List Str):Prop where
 nd:ks.Nodup
 sp:∀y,y∈ks\/y∈ws->qX F z y
 own:∀r,F z=some r->∀y∈r.bb,y∈ks\/y∈ws
 on:∀x∈ks,∀r,F x=some r->∀y∈r.bb,y∈ks\/y∈ws
def pR.done(h:pR F z ks [])(y:Str):y∈ks↔qX F z y:=by
 refine⟨fun hy=>h.sp y (.inl hy),fun hy=>?_⟩;induction hy with
 | one h1 h2=>exact(h.own _ h1 _ h2).resolve_right (fun z=>nomatch z)
 | more _ h1 h2 ih=>exact(h.on _ ih _ h1 _ h2).resolve_right (fun z=>nomatch z)
def pR.old(h:pR F z ks (ws++[y]))(hy:y∈ks):pR F z ks ws:=by
 have:∀x,x∈ks\/x∈ws++[y]->x∈ks\/x∈ws:=fun x hx=>hx.elim .inl fun hx=>(Yv.mp hx).elim .inr fun e=>.inl (by rw[Yn.mp e];exact hy);exact⟨h.nd,fun x hx=>h.sp x (hx.imp id (YY _)),fun r h1 x hx=>this x (h.own r h1 x hx),fun x hx r h1 y hy=>this y (h.on x hx r h1 y hy)⟩
def pR.new(h:pR F z ks (ws++[y]))(hy:y∉ks)(hr:F y=some r)(hz:∀x,x∈zs↔x∈r.bb):pR F z (ks++[y]) (ws++zs):=by
 have hs:=h.sp y (.inr (Yy _ (.head _)));have this:∀x,x∈ks\/x∈ws++[y]->x∈ks++[y]\/x∈ws++zs:=fun x hx=>hx.elim (fun h=>.inl (YY _ h)) fun hx=>(Yv.mp hx).elim (fun h=>.inr (YY _ h)) fun e=>.inl (Yy _ e);refine⟨List.nodup_append.mpr ⟨h.nd,by simp,fun a ha b hb e=>hy (by rw[<- Yn.mp hb,<- e];exact ha)⟩,fun x hx=>?_,fun r h1 x hx=>this x (h.own r h1 x hx),fun x hx r' h1 y' u3=>?_⟩
 .rcases hx with hx|hx
  .rcases Yv.mp hx with hx|hx
   .exact h.sp x (.inl hx)
   .rw[Yn.mp hx];exact hs
  .rcases Yv.mp hx with hx|hx
   .exact h.sp x (.inr (YY _ hx))
   .exact .more hs hr ((hz x).mp hx)
 .rcases Yv.mp hx with hx|hx
  .exact this y' (h.on x hx r' h1 y' u3)
  .rw[Yn.mp hx,hr]at h1;cases h1;exact .inr (Yy _ ((hz y').mpr u3))
section
include T
theorem Wf : T.tT.Ok aP 64 (aW K (We P w cS)):=by
 have bT:=OA T 60;apply T.tT.bG;walk_at "f";exact fun S hr=>⟨_,(Zc (Zq (i:=2) S.nd rfl (Or.inl rfl) (JS Nu (by rfl) T.jN (by decide +kernel)))
   (Zc (Zq (i:=3) S.nd rfl (Or.inl rfl) (qy (Zt sO (pv 1) (pv 0) (fun _ _=>rfl)) bT.mn hr gY))
   (Zc (wR YG (C6 (pv 3) (fun _=>rfl)) (Zc (Zq (i:=4) S.nd rfl (Or.inl rfl) (uZ Yz uJ uK u0 (pv 3)))
   (Ze (ZG (Zj U4 (pv 4) (pv 2) (by with_unfolding_all rfl)) (Zc (ZP (Nx (pv 2) (Za (pv 4) Zd)))
   (Ze (ZP (iK Yz Ic Ie Ln (pv 3) (Za (qy (Zt sO (pv 1) (pv 4) (fun _ _=>rfl)) bT.mn hr gY) Zd))))) Zo))))
   (Ze (Zp (ZX (F6 rfl) T.c_ (Za (pv 2) Zd))))))),by walk_at "abh"⟩
 rintro us A Q ⟨z,d,ps,rs,ep,rfl,hz,hA,hB,q⟩;walk_at "o";intro p hp;obtain⟨i,hi⟩:=List.getElem?_of_mem hz;rw[Yj]at hi;obtain⟨pz,vH,rfl⟩:=YM.mp hi;obtain⟨r,hr,ho,g1,g2,g3⟩:=hB.get vH;have OJ:∀ {j:Nat} {q:Str×Addr},ps[j]? = some q->(bU ps).lookup q.1=some (.ref q.2):=fun {j q} h=>by
  have:=qV (rs:=ps.map fun q=>U.ref q.2) hB.nd (k:=j) (z:=q.1) (r:=.ref q.2) (by rw[Yj,h];rfl) (by rw[Yj,h];rfl);rwa [List.zip_map',]at this
 refine⟨ep,_,_,by rw[Zi (dN hA hp)];exact hA,OJ vH,BJ (ho.ext (Ext.new hp)) g1 g2 fun B l1 zs eB cx eR nm=>?_⟩;walk_at "d";have cE:A l1=none:=iO (Ext.new hp) cx;have bA:p≠l1:=dN Zb cx;have hn:=fun r hr=>(hB.sz r hr).2.2;have um:zs.length<=(ps.map (·.1)).length:=Z2 nm.nd fun y hy=>g3 y ((nm.mem y).mp hy);have OK:=hB.len;rw[Yc]at um;refine⟨fun m ρ A2=>∃(ks ws:List Str)(x4:Option U),m=(ps.length-ks.length)*100+ws.length/\ρ=[some (.str pz.1),some (.ref d),some (.ref p),some (.ref l1),x4]/\Ext A A2/\A2 p=some (tS P w ks)/\A2 l1=some (.lst (ws.map U.str))/\pR (fU ps rs) pz.1 ks ws/\ws.length<=60*(ks.length+1),⟨_,[],zs,_,rfl,rfl,(Ext.new hp).trans eB,eB _ _ Zb,eR,⟨List.nodup_nil,fun y hy=>.one (hB.at vH hr) ((nm.mem y).mp (hy.resolve_left fun z=>nomatch z)),fun r' h y hy=>?_,fun x hx=>nomatch hx⟩,by simp only[List.length_nil];lia⟩,?_⟩
 .rw[hB.at vH hr]at h;cases h;exact .inr ((nm.mem y).mpr hy)
 rintro m ρ A2 ⟨ks,ws,x4,rfl,rfl,e2,OL,BP,hI,u5⟩;have iQ:ks.length<=ps.length:=by
  have:=Z2 hI.nd (m:=ps.map (·.1)) fun y hy=>(hI.sp y (.inl hy)).mX hn;rwa [Yc]at this
 walk_at "d";refine⟨_,BP,kg (fun aT=>?_) fun he=>?_⟩
 .obtain⟨hZ,y,rfl⟩:∃hZ y,ws=hZ++[y]:=by
   rcases zE ws with rfl|⟨a,b,e⟩
   .cases aT
   .exact⟨a,b,by rw[e,List.concat_eq_append]⟩
  rw[Yq,List.length_singleton]at u5 ⊢;refine⟨_,fun dg A' h=>h,?_⟩;walk_at "d";refine⟨⟨_,BP⟩,?_⟩;rw[Yt]at BP;refine⟨_,_,BP,?_⟩;have yX:af A2 l1 (.lst (hZ.map U.str)) p=some (tS P w ks):=by rw[Zi bA];exact OL
  have G2:af A2 l1 (.lst (hZ.map U.str)) l1=some (.lst (hZ.map U.str)):=Zb;have e3:Ext A (af A2 l1 (.lst (hZ.map U.str))):=jP e2 cE;generalize af A2 l1 (.lst (hZ.map U.str))=A3 at yX G2 e3 ⊢;walk_at "d";refine nO (!decide (y∈ks)) (fun B hB=>?_) ?_
  .walk_at "d";exact⟨ks,yX,hB⟩
  by_cases hy:y∈ks
  .refine Zm (by simp[hy]) ?_;walk_at "d";exact⟨_,by lia,ks,hZ,_,rfl,rfl,e3,yX,G2,hI.old hy,by lia⟩
  .refine ZH (by simp[hy]) ?_;obtain⟨j,hj⟩:=List.getElem?_of_mem ((hI.sp y (.inr (Yy _ (.head _)))).mX hn);rw[Yj]at hj;obtain⟨py,BQ,rfl⟩:=YM.mp hj;obtain⟨ry,Wg,Wh,f1,f2,f3⟩:=hB.get BQ;have Wi:ks.length<ps.length:=by
    have:=Z2 (l:=py.1::ks) (jV.mpr ⟨hy,hI.nd⟩) (m:=ps.map (·.1)) fun y hy=>by
     rcases Yp.mp hy with rfl|hy
     .exact Yi (by rw[Yj,BQ];rfl)
     .exact(hI.sp y (.inl hy)).mX hn
    rw[Yc,List.length_cons]at this;exact this
   walk_at "d";refine⟨p,ks,rfl,yX,_,ks,rfl,yX,by show ks.length+1<4096;lia,?_⟩;have ha:fQ ks py.1=ks++[py.1]:=if_neg hy;rw[ha];have OM:af A3 p (tS P w (ks++[py.1])) p=some (tS P w (ks++[py.1])):=Zb;have G3:af A3 p (tS P w (ks++[py.1])) l1=some (.lst (hZ.map U.str)):=by rw[Zi (Ne.symm bA)];exact G2
   have e4:Ext A (af A3 p (tS P w (ks++[py.1]))):=jP e3 hp;generalize af A3 p (tS P w (ks++[py.1]))=A4 at OM G3 e4 ⊢;walk_at "d";refine⟨⟨_,G3⟩,ep,_,_,e4 _ _ hA,OJ BQ,BJ (Wh.ext e4) f1 f2 fun B2 l2 ys e5 dj d9 G4=>?_⟩;have kI:ys.length<=(ps.map (·.1)).length:=Z2 G4.nd fun y hy=>f3 y ((G4.mem y).mp hy);rw[Yc]at kI;walk_at "d";refine⟨_,_,e5 _ _ G3,d9,by rw[Yc,Yc,Y2];lia,?_⟩;rw[<- Yt];refine⟨_,?_,ks++[py.1],hZ++ys,_,rfl,rfl,jP (e4.trans e5) cE,by rw[Zi bA];exact e5 _ _ OM,Zb,hI.new hy (hB.at BQ Wg) G4.mem,?_⟩
   .rw[Yq,Yq,List.length_singleton];lia
   .rw[Yq,Yq,List.length_singleton];lia
 .have he:ws=[]:=by cases ws with|nil=>rfl|cons=>cases he
  subst he;walk_at "d";refine⟨ks,OL,by lia,fun D ys hD kE n9=>fg (q _ D ys (e2.trans (Ext.new hD)) (iO e2 hD) Zb ⟨n9,kE.nodup_iff.mpr hI.nd,fun y=>by rw[kE.mem_iff];exact hI.done y⟩)⟩
end
def Wj(P:Program)(w:World)(cs:Nat->Addr)(D:Addr):pd:=fun us A Q X=>∃(d d2:Addr)(ps:List (Str×Addr))(rs:List Rl)(ep bJ:Nat),us=[.ref d,.ref d2]/\A d=some (dS P w ep (bU ps))/\A d2=some (dS P w bJ (yV ps rs))/\lC cs A ps rs/\(∀z∈ps.map (·.1),z.length<=8)/\((∀r∈rs,r.hp (e_ ps rs)=false)->∀B,Ext A B->Q .ay B)/\∀(k:Nat) z r,(ps.map (·.1))[k]? = some z->rs[k]? = some r->r.hp (e_ ps rs)=true->(∀(j:Nat) r',j<k->rs[j]? = some r'->r'.hp (e_ ps rs)=false)->∀B,Ext A B->X D [("name",.str z)] B
section
include T
def Wk:T.pI.Ok aP 1 (ym ZE "name" ph):=FK (okV:=ph) T.ip T.cF rfl rfl (M7 (t1:="the rule of ") (t2:=" takes a hollow rule any number of times") (by decide) (by decide)) (fun bf A outer s H E hr=>(Zc (ZP (Bm T.XB (by rfl) T.aY (Za (pv 0) (Za (ER (qz Zk (qz (EO (pv 1)) (qz Zk EN)))) Zd))))
   (Ze (Bn (pv 0) (pv 1))))) T.pI.f rfl T.pI.s
def Wl:T.pJ.Ok aP 1 (Gh K ZN "circle"):=Ve T.jK T.cu rfl rfl (fun bf A outer s H E hr=>(Zc (ZP (Bm T.XB (by rfl) T.aY (Za (pv 0) (Za Zk Zd))))
   (Ze (Bn (pv 0) (yz Ry T.eP (Za (pv 1) Zd)))))) T.pJ.f rfl T.pJ.s
def Wm:T.mM.Ok (gi P w) 65 (qG K (Wj P w cS ZE)):=by
 have ui:=VV T 60;have G5:=Wk T;apply T.mM.vD;walk_at "f";exact fun S hr hE=>⟨_,(Ze (Z3 (yk nX) rfl (vt (pv 0)) (oE (n:=2) rfl (ZD (Zl (i:=2) S.nd rfl (Or.inl rfl)) (ZD (Zl (i:=3) S.nd rfl (Or.inl rfl)) jX)))
   (Ze (ZG (gQ (T.ky.pc ui hr (Za (pv 3) (Za (pv 1) Zd)))) (Ze (Bq rfl T.ip G5.mn hr (by rfl) T.eM T.pI.b (Za (pv 2) Zd))) Zo)))),by walk_at "abh"⟩
 rintro us A Q X ⟨d,d2,ps,rs,ep,bJ,rfl,hA,yW,hB,h8,q,qx⟩;walk_at "o";refine⟨ep,_,hA,vw (bU ps) (fun k ρ A2=>∃x2 x3,ρ=[some (.ref d),some (.ref d2),x2,x3]/\Ext A A2/\∀(j:Nat) r',j<k->rs[j]? = some r'->r'.hp (e_ ps rs)=false) ⟨_,_,rfl,Ext.refl _,fun j _ h=>absurd h (rC j)⟩ (fun k ρ A2 _ ⟨_,_,_,e,_⟩=>e _ _ hA) ?_ ?_⟩
 .rintro k p' ρ A2 j6 ⟨x2,x3,rfl,e2,hj⟩;unfold bU at j6;obtain⟨p,hp,rfl⟩:=Z0 j6;obtain⟨r,hr,ho,g1,g2,g3⟩:=hB.get hp;have hz:(ps.map (·.1))[k]? = some p.1:=by rw[Yj,hp];rfl
  have hz8:=h8 _ (Yi hz);unfold fI;walk_at "d";refine⟨rfl,mE (r.hp (e_ ps rs)) (fun B hB=>?_) fun B eB=>?_⟩
  .walk_at "d";exact⟨p.2,d2,r,bJ,_,_,rfl,ho.ext e2,g1,g3,e2 _ _ yW,fun B1 e1=>⟨_,rfl,hB B1 e1⟩⟩
  cases hh:r.hp (e_ ps rs)with
  | true =>
   refine ZH rfl ?_;walk_at "d";exact⟨_,rfl,⟨p.1,rfl,by lia⟩,qx k p.1 r hz hr hh hj _ (e2.trans eB)⟩
  | false =>
   refine Zm rfl ?_;walk_at "d";refine⟨_,_,rfl,e2.trans eB,fun j r' bq cO=>?_⟩;rcases Nat.lt_succ_iff_lt_or_eq.mp bq with h|rfl
   .exact hj j r' h cO
   .rw[hr]at cO;cases cO;exact hh
 .rintro ρ A2 ⟨x2,x3,rfl,e2,hj⟩;walk_at "d";refine fg (q (fun r hr=>?_) A2 e2);obtain⟨j,mU⟩:=List.getElem?_of_mem hr;refine hj j r ?_ mU;have hl:=hB.os.len;have:=(Yg.mp mU).1;unfold bU;rw[Yc]at hl ⊢;lia
end
theorem BR:∀ {zs:List Str},(∀z∈zs,PyData.strOk z=true)->hX A (zs.map U.str) (zs.map PyData.str)/\PyData.canLayAll0 (zs.map PyData.str)=true/\PyData.depthAll (zs.map PyData.str)<=2
 | [],_=>⟨.nil,by simp[PyData.canLayAll0],by simp[PyData.depthAll]⟩
 | z :: zs,h=>by
  obtain⟨h1,h2,h3⟩:=BR (A:=A) (zs:=zs) fun y hy=>h y (m9 _ hy)
  refine⟨.cons (.str z) h1,?_,?_⟩
  .simp only[Yr,PyData.canLayAll0,PyData.canLay0,h z m_,h2,Bool.and_true]
  .simp only[Yr,PyData.depthAll,PyData.depth]
   lia
theorem G6:∀ys zs:List Str,PyData.eqvAll (ys.map PyData.str) (zs.map PyData.str)=decide (ys=zs)
 | [],[]=>by simp[PyData.eqvAll]
 | [],_::_=>by simp[PyData.eqvAll]
 | _::_,[]=>by simp[PyData.eqvAll]
 | y :: ys,z::zs=>by
  have:=G6 ys zs
  simp only[Yr,PyData.eqvAll,PyData.eqv,this,zI]
  by_cases e:y=z<;>by_cases f:ys=zs<;>simp[e,f]
theorem BS{ys zs:List Str}(hy:∀z∈ys,PyData.strOk z=true)(hz:∀z∈zs,PyData.strOk z=true)(h1:A p=some (.lst (ys.map U.str)))(h2:A q=some (.lst (zs.map U.str)))(h:Q (.bl (if neg then !decide (ys=zs)else decide (ys=zs))) A):eY neg (.ref p) (.ref q) A Q:=by
 obtain⟨g1,g2,g3⟩:=BR (A:=A) hy;obtain⟨k1,k2,k3⟩:=BR (A:=A) hz;refine⟨.list (ys.map PyData.str),.list (zs.map PyData.str),.lst h1 g1,.lst h2 k1,?_,?_,?_,?_⟩
 .simp only[PyData.canLay0,g2]
 .simp only[PyData.canLay0,k2]
 .simp only[PyData.depth];lia
 .rw[show PyData.eqv (.list (ys.map PyData.str)) (.list (zs.map PyData.str))=decide (ys=zs)from by simp only[PyData.eqv,G6]];exact h
def G7{L:List Str}:dG (.str y) (L.map U.str)=decide (y∈L):=by
 by_cases h:y∈L
 .rw[YC h];unfold dG ny;rw[List.any_eq_true];exact⟨U.toV (.str y),YL.mpr ⟨.str y,YL.mpr ⟨y,h,rfl⟩,rfl⟩,by simp[U.toV,lX]⟩
 .rw[Yu h];exact Vz h
def G8{L:List Str}:(L.map U.str).all U.flat=true:=by
 rw[wA];intro u hu;obtain⟨z,_,rfl⟩:=YL.mp hu;rfl
structure qY (le:Str->Str->Prop) (c:List Str):Prop where
 ne:c≠[]
 nd:c.Nodup
 st:∀(j:Nat) a b,c[j]? = some a->c[j+1]? = some b->le a b
 la:∀a b,c[c.length-1]? = some a->c[0]? = some b->le a b
structure vS (le:Str->Str->Prop) (gs:List Str) (z:Str):Prop where
 nd:gs.Nodup
 st:∀(j:Nat) a b,gs[j]? = some a->gs[j+1]? = some b->le a b
 la:∀a,gs[gs.length-1]? = some a->le a z
theorem vS.add(h:vS le gs z)(hz:z∉gs)(hy:le z y):vS le (gs++[z]) y:=by
 refine⟨List.nodup_append.mpr ⟨h.nd,by simp,fun a ha b hb e=>hz (by rw[<- Yn.mp hb,<- e];exact ha)⟩,fun j a b ha hb=>?_,fun a ha=>?_⟩
 .by_cases hj:j+1<gs.length
  .rw[Y6 (by lia)]at ha;rw[Y6 hj]at hb;exact h.st j a b ha hb
  .by_cases kY:j+1=gs.length
   .rw[Y6 (by lia)]at ha;rw[YZ (by lia),kY,uO]at hb;cases hb;exact h.la a (by rw[<- kY,Cr];exact ha)
   .rw[YZ (by lia)]at hb;have:j+1-gs.length=(j-gs.length)+1:=by lia
    rw[this]at hb;cases hb
 .rw[Yq,List.length_singleton,Cr,YZ (Yk _),uO]at ha;cases ha;exact hy
theorem vS.Wn(h:vS le gs z)(hi:gs[i]? = some z):qY le (gs.drop i):=by
 have hl:=(Yg.mp hi).1;refine⟨fun e=>?_,h.nd.sublist (List.drop_sublist _ _),fun j a b ha hb=>?_,fun a b ha hb=>?_⟩
 .have:=congrArg List.length e;rw[og,List.length_nil]at this;lia
 .rw[Ct]at ha hb;exact h.st (i+j) a b ha hb
 .rw[Ct]at ha hb;rw[Nat.add_zero,hi]at hb;cases hb;refine h.la a ?_;rw[og]at ha;rw[show gs.length-1=i+(gs.length-i-1) by lia];exact ha
theorem Wo(xs:List α)(k:Nat)(h:k<=xs.length):eu xs (some (k:Int)) none=xs.drop k:=by
 unfold eu;rw[show HT.aO xs.length 0 (some (k:Int))=min k xs.length from HT.d5 xs.length 0 k,show HT.aO xs.length xs.length none=xs.length from rfl,rB h];exact m8 (by rw[og];lia)
def Wq(P:Program)(w:World):bP:=fun us A Q=>∃(z0:Str)(d:Addr)(L:List Str)(vs:List U)(ep:Nat)(le:Str->Str->Prop),us=[.str z0,.ref d]/\A d=some (dS P w ep (L.zip vs))/\vs.length=L.length/\L.Nodup/\L.length<=60/\fF A vs (fun k zs=>∀z,L[k]? = some z->∃y t,zs=y::t/\y∈L/\le z y)/\z0∈L/\∀B l c,Ext A B->A l=none->B l=some (.lst (List.map U.str c))->qY le c->(∀z∈c,z∈L)->Q (.ref l) B
section
include T
theorem Ws:T.tR.Ok aP 3 (aW K (Wq P w)):=by
 apply T.tR.bG;walk_at "f";exact fun S hr=>⟨_,(Zc (Zq (i:=2) S.nd rfl (Or.inl rfl) (ZJ Zd))
   (Zc (wR YG (Zj Kr (pv 0) (pv 2) (by with_unfolding_all rfl)) (Zc (ZP (iK Yz YS YT ZZ (pv 2) (Za (pv 0) Zd)))
   (Ze (Zq (i:=0) S.nd rfl (Or.inl rfl) (Zt ZW (Zt sO (pv 1) (pv 0) (fun _ _=>rfl)) Zg (fun _ _=>rfl))))))
   (Ze (Zp (nv nB (pv 2) (lW (iK Yz PySem.F.slot_list_index PySem.F.type_list_index RZ (pv 2) (Za (pv 0) Zd))) oN))))),by walk_at "ab"⟩
 rintro us A Q ⟨z0,d,L,vs,ep,le,rfl,hA,eZ,uo,ON,kH,BN,q⟩;walk_at "o";refine⟨by decide,fun p hp=>⟨fun m ρ A2=>∃(gs:List Str)(z:Str),m=L.length-gs.length/\ρ=[some (.str z),some (.ref d),some (.ref p)]/\Ext A A2/\A2 p=some (.lst (gs.map U.str))/\vS le gs z/\z∈L/\∀y∈gs,y∈L,⟨_,[],z0,rfl,rfl,Ext.new hp,Zb,⟨List.nodup_nil,(fun j a b h=>nomatch h),fun a h=>nomatch h⟩,BN,fun y h=>nomatch h⟩,?_⟩⟩;rintro m ρ A2 ⟨gs,z,rfl,rfl,e2,h2,hP,hz,BU⟩;have hgl:gs.length<=L.length:=Z2 hP.nd BU;walk_at "d";refine⟨_,h2,rfl,G8,?_⟩;rw[G7];refine kg (fun hb=>?_) fun hb=>?_
 .have BV:z∉gs:=by simpa using hb
  have bq:gs.length<L.length:=by
   have:=Z2 (l:=z::gs) (jV.mpr ⟨BV,hP.nd⟩) (m:=L) fun y hy=>by
    rcases Yp.mp hy with rfl|hy
    .exact hz
    .exact BU y hy
   rw[List.length_cons]at this;exact this
  obtain⟨i,hi⟩:=List.getElem?_of_mem hz;obtain⟨v,hv⟩:∃v,vs[i]? = some v:=⟨_,Yh (by rw[eZ];exact(Yg.mp hi).1)⟩;obtain⟨p2,zs,rfl,vT,hR⟩:=kH i v hv;obtain⟨y,t,rfl,G9,hle⟩:=hR z hi;refine⟨_,fun dg A' h=>h,?_⟩;walk_at "d";refine⟨⟨_,h2⟩,_,h2,ZT (by rw[Yc];lia),?_⟩;have e3:Ext A (af A2 p (.lst (gs.map U.str++[.str z]))):=jP e2 hp;have h3:af A2 p (.lst (gs.map U.str++[.str z])) p=some (.lst ((gs++[z]).map U.str)):=by rw[Zb,Yt];rfl
  generalize af A2 p (.lst (gs.map U.str++[.str z]))=A3 at e3 h3 ⊢;walk_at "d";refine⟨ep,_,_,e3 _ _ hA,qV uo hi hv,?_⟩;walk_at "d";refine⟨_,_,e3 _ _ vT,ZQ (j:=0) rfl,⟨_,?_,gs++[z],y,rfl,rfl,e3,h3,hP.add BV hle,G9,fun x hx=>?_⟩⟩
  .rw[Yq,List.length_singleton];lia
  .rcases Yv.mp hx with hx|hx
   .exact BU x hx
   .rw[Yn.mp hx];exact hz
 .have BV:z∈gs:=by simpa using hb
  obtain⟨j,hj⟩:=List.getElem?_of_mem BV;have yS:=(Yg.mp hj).1;walk_at "d";refine⟨⟨_,h2⟩,gs,j,h2,hj,fun m hm e=>?_,_,h2,fun l hl=>fg (q _ l (gs.drop j) (e2.trans (Ext.new hl)) (iO e2 hl) ?_ (hP.Wn hj) fun x hx=>BU x (List.mem_of_mem_drop hx))⟩
  .have:=Z7 hP.nd e hj;lia
  .rw[Zb,o6,Wo _ _ (by lia)]
end
def Wt(P:Program)(w:World)(D:Addr):pd:=fun us A Q X=>∃(d:Addr)(ns:List Str)(vs:List U)(ep:Nat)(le:Str->Str->Prop),us=[.ref d]/\A d=some (dS P w ep (ns.zip vs))/\vs.length=ns.length/\ns.Nodup/\ns.length<=60/\(∀z∈ns,PyData.strOk z=true)/\fF A vs (fun k zs=>zs.length<=60/\∀z,ns[k]? = some z->∀y,y∈zs↔le z y)/\(∀z∈ns,∀y,le z y->y∈ns)/\((∃rk:Str->Nat,∀z∈ns,∀y,le z y->rk y<rk z)->∀B,Ext A B->Q .ay B)/\∀c,qY le c->(∀z∈c,z∈ns)->∀B l,Ext A B->A l=none->B l=some (.lst (List.map U.str c))->X D [("circle",.ref l)] B
theorem Wu{ns L K:List Str}{le:Str->Str->Prop}{rk:Str->Nat}(hn:∀z∈ns,∀y,le z y->y∈ns)(h:∀z∈ns,z∉L->rk z<n/\∀y,le z y->y∉L/\rk y<rk z)(hK:∀z,z∈K↔z∈L/\∃y∈L,le z y):
  ∃mY:Str->Nat,∀z∈ns,z∉K->mY z<n+1/\∀y,le z y->y∉K/\mY y<mY z:=by
 have uq:∀z,z∉L->z∉K:=fun z hz hk=>hz ((hK z).mp hk).1;refine⟨fun z=>if z∈L then n else rk z,fun z hz G_=>?_⟩;by_cases vU:z∈L
 .have iT:∀y,le z y->y∉L:=fun y hy G9=>G_ ((hK z).mpr ⟨vU,y,G9,hy⟩);refine⟨by simp only[if_pos vU];lia,fun y hy=>⟨uq y (iT y hy),?_⟩⟩;simp only[if_pos vU,if_neg (iT y hy)];exact(h y (hn z hz y hy) (iT y hy)).1
 .obtain⟨h1,h2⟩:=h z hz vU;refine⟨by simp only[if_neg vU];lia,fun y hy=>?_⟩;obtain⟨h3,h4⟩:=h2 y hy;refine⟨uq y h3,?_⟩;simp only[if_neg vU,if_neg h3];exact h4
section
include T
theorem Wv:T.mN.Ok (gi P w) 5 (qG K (Wt P w ZN)):=by
 have G':=Ws T;have Ha:=Wl T;apply T.mN.vD;walk_at "f";exact fun S hr hE=>⟨_,(Zc (Zq (i:=1) S.nd rfl (Or.inr rfl) (yz (Ml rfl) T.eP (Za (pv 0) Zd)))
   (Ze (wR (yk nX) (C6 (pv 1) (fun _=>rfl)) (Zc (Zq (i:=2) S.nd rfl (Or.inr rfl) (Bc (ts:=["name"]) (frs':=[("leans_by",0),("left",1)]) (cl:=_) rfl ⟨(by rfl),rfl,(by decide +kernel),(by decide +kernel),(qo (by rfl) (qo (by rfl) vd)),(DP (by rfl) (by rfl)),(qo ⟨(by rfl),(by first|exact .inl rfl|exact .inr rfl),(by first|exact .inl rfl|exact .inr rfl),(by rfl)⟩ (qo ⟨(by rfl),(by first|exact .inl rfl|exact .inr rfl),(by first|exact .inl rfl|exact .inr rfl),(by rfl)⟩ vd))⟩ (Z5 (pv 1)) (fun _ _ _ _=>Zl (i:=0) (show List.Nodup (["name","leans_by","left"]:List Str)from by decide +kernel) rfl (Or.inl rfl) (.inr rfl)) (fun _ _ _ _=>j7) (fun _ _ _ _=>by exact(pv 0)) (fun _ _ _ _=>by exact(nA (ts:=["one"]) (frs':=[("left",2)]) (cl:=_) rfl ⟨(by rfl),rfl,(by decide +kernel),(by decide +kernel),(qo (by rfl) vd),(DP (by rfl) (by rfl)),(qo ⟨(by rfl),(by first|exact .inl rfl|exact .inr rfl),(by first|exact .inl rfl|exact .inr rfl),(by rfl)⟩ vd)⟩ (Z5 (Zt (MQ P w rfl rfl) (pv 1) (pv 0) (fun _ _=>rfl))) (fun _ _ _ _=>Zl (i:=0) (show List.Nodup (["one","left"]:List Str)from by decide +kernel) rfl (Or.inl rfl) (.inr rfl)) (fun _ _ _ _=>(u6 (Zj (Rj K rfl) (pv 0) (pv 1) (by with_unfolding_all rfl)))) (fun _ _ _ _=>by exact(pv 0))))))
   (Zc (Ap (i:=3) S.nd rfl (Or.inl rfl) (by with_unfolding_all rfl) (ts:=["name"]) (frs':=[("leaning",2)]) (cl:=_) rfl .z (Z5 (pv 1)) (fun _ _ _ _=>Zl (i:=0) (show List.Nodup (["name","leaning"]:List Str)from by decide +kernel) rfl (Or.inl rfl) (.inr rfl)) (fun _ _ _ _=>by exact(u6 (C6 (Zt (MQ P w rfl rfl) (pv 1) (pv 0) (fun _ _=>rfl)) (fun _=>rfl)))) (fun _ _ _ _=>by exact(pv 0)))
   (Zc (ZG (Zj (cM hr) (pv 3) (pv 1) (Zx _)) (Ze (Bq rfl T.jK Ha.mn hr (by rfl) T.gz T.pJ.b (Za (T.tR.pc G' hr (Za (Zt ZW (pv 1) Zg (fun _ _=>rfl)) (Za (pv 2) Zd))) Zd))) Zo)
   (Ze (Zq (i:=1) S.nd rfl (Or.inr rfl) (pv 3))))))))),(ZK (ZR (Zc7 ZeF (Zf Zh Zr)) Zu)
   (ZdZ (ZiS Zh) (ZK (ZR (Zbr (Zbn ZbD Zh) Zu Zbd Zh (Zb5 (Zbn ZbD (ZA Zfe Zh Zh)) Zu (ZaX (ZA ZpR Zh Zh)) Zh)) Zu)
   (ZK (ZR (Zb5 (Zbn ZbD Zh) Zu (ZiS (ZA Zfe Zh Zh)) Zh) Zu)
   (ZK (Zce (ZaX (ZA Zfq Zh Zh)) (Ze3 hE (Zf (Zai (Zf (ZA Zav Zh ZC) (Zf Zh Zr))) Zr)) Zbk)
   (ZR Zh Zu))))))⟩
 rintro us A Q X ⟨d,ns,vs,ep,le,rfl,hA,eZ,cw,dY,aE,kH,Hb,q,qx⟩;walk_at "o";refine⟨ep,_,hA,fun l0 cE=>?_⟩;rw[show(ns.zip vs).map fK=ns.map U.str from by rw[<- lx (xs:=ns) (ys:=vs) eZ.symm,jk,lx eZ.symm];rfl];walk_at "d";refine⟨fun m ρ A2=>∃(l:Addr)(L:List Str)(x2 x3:Option U)(rk:Str->Nat)(n:Nat),m=L.length/\ρ=[some (.ref d),some (.ref l),x2,x3]/\Ext A A2/\A2 l=some (.lst (L.map U.str))/\L.Nodup/\(∀z∈L,z∈ns)/\∀z∈ns,z∉L->rk z<n/\∀y,le z y->y∉L/\rk y<rk z,⟨_,l0,ns,_,_,fun _=>0,0,rfl,rfl,Ext.new cE,Zb,cw,fun z h=>h,fun z h h'=>absurd h h'⟩,?_⟩;rintro m ρ A2 ⟨l,L,x2,x3,rk,n,rfl,rfl,e2,hl,uo,vV,jQ⟩;have ON:L.length<=60:=YB (Z2 uo vV) dY;walk_at "d";refine⟨_,hl,kg (fun aT=>?_) fun he=>?_⟩;rotate_left
 .have he:L=[]:=by cases L with|nil=>rfl|cons=>cases he
  subst he;exact fg (q ⟨rk,fun z hz y hy=>((jQ z hz (fun h=>nomatch h)).2 y hy).2⟩ A2 e2)
 have aT:L≠[]:=fun e=>by rw[e]at aT;cases aT
 refine⟨_,fun dg A' h=>h,?_⟩;walk_at "d";refine⟨⟨_,hl⟩,fun d3 mW=>?_⟩;walk_at "c";refine yx (L.map U.str) L (by rw[Yc]) uo (fun k v A3=>∃p zs,v=.ref p/\A3 p=some (.lst (List.map U.str zs))/\∀z,L[k]? = some z->∀y,y∈zs↔y∈L/\le z y) (fun τ=>∃x,τ=[x,some (.ref d),some (.ref l)]) ⟨_,rfl⟩ mW (by rw[Yc];lia) (fun k A2 _ e3=>⟨_,e3 _ _ hl,rfl⟩) ?_ ?_ ?_
 .rintro k v A1 B h1 h2 ⟨p,zs,rfl,h3,h4⟩;refine⟨p,zs,rfl,h2 _ _ (fun e=>?_) h3,h4⟩;rcases h1 with h1|⟨ep,kus,h1⟩
  .rw[e,h1]at h3;cases h3
  .rw[e,h1]at h3;cases h3
 .rintro k u z τ A3 hu hz ⟨x,rfl⟩ e3 Cy hC;rw[Yj,hz]at hu;cases hu;obtain⟨i,hi⟩:=List.getElem?_of_mem (vV z (Yi hz));obtain⟨v,hv⟩:∃v,vs[i]? = some v:=⟨_,Yh (by rw[eZ];exact(Yg.mp hi).1)⟩;obtain⟨p,zs,rfl,hp,um,qZ⟩:=kH i v hv;have eA:=e2.trans e3;walk_at "d";refine⟨ep,_,_,eA _ _ hA,qV cw hi hv,?_⟩;walk_at "d";refine⟨⟨_,eA _ _ hp⟩,fun l4 yY=>?_⟩;walk_at "c";refine Lh (zs.map U.str) (fun j=>decide ((zs[j]?.getD z)∈L)) (fun j=>.str (zs[j]?.getD z)) yY (by rw[Yc];lia) (fun j A4 _ e4=>⟨_,e4 _ _ (eA _ _ hp),rfl⟩) ?_ ?_
  .intro j u A4 hu e4 Cy' Cn hy hn;obtain⟨y,pQ,rfl⟩:=Z0 hu;rw[pQ]at hy hn;walk_at "d";refine⟨_,e4 _ _ (e3 _ _ hl),rfl,G8,?_⟩;rw[G7];exact kg hy hn
  .refine hC _ _ _ ⟨_,rfl⟩ (Ext.new yY) ⟨l4,((List.range (zs.map U.str).length).filter fun j=>decide ((zs[j]?.getD z)∈L)).map fun j=>zs[j]?.getD z,rfl,by rw[Zb,jk];rfl,fun z' fq y=>?_⟩;rw[hz]at fq;cases fq;rw[<- qZ z hi y];constructor
   .intro hy;obtain⟨j,hj,rfl⟩:=YL.mp hy;obtain⟨vW,kY⟩:=List.mem_filter.mp hj;rw[oj,Yc]at vW;refine⟨lG kY,?_⟩;rw[Yh vW];exact rq vW
   .rintro⟨h1,h2⟩;obtain⟨j,hj⟩:=List.getElem?_of_mem h2;refine YL.mpr ⟨j,List.mem_filter.mpr ⟨?_,?_⟩,by rw[hj];rfl⟩
    .rw[oj,Yc];exact(Yg.mp hj).1
    .rw[hj];exact YC h1
 intro B nQ cP eB kG yZ y6;walk_at "d";have Hc:l≠d3:=dN hl mW;refine⟨⟨_,by rw[Zi Hc];exact eB _ _ hl⟩,fun l5 ur=>?_⟩;walk_at "c";have y8:af B d3 (dS P w cP (L.zip nQ)) d3=some (dS P w cP (L.zip nQ)):=Zb;have jO:Ext B (af B d3 (dS P w cP (L.zip nQ))):=Ext.new kG;generalize af B d3 (dS P w cP (L.zip nQ))=B1 at ur y8 jO ⊢;have cx:=jO _ _ (eB _ _ hl);have uu:l≠l5:=dN cx ur;refine U' (L.map U.str) (fun k ys A3=>∃K,ys=List.map U.str K/\K.Sublist (L.take k)/\(∀z,z∈K↔z∈L.take k/\∃y∈L,le z y)/\A3=af B1 l5 (.lst ys)) ⟨[],rfl,List.nil_sublist _,fun z=>⟨fun h=>(nomatch h),fun h=>nomatch h.1⟩,rfl⟩ (by rw[Yc];lia) (fun k ys A3 aD=>by obtain⟨K,e,hs,_,_⟩:=aD;rw[e,Yc];exact YB hs.length_le (by rw[YD];lia)) (fun k ys A3 _ ⟨K,_,_,_,e⟩=>⟨_,by rw[e,Zi uu];exact cx,rfl⟩) ?_ ?_
 .rintro k u ys A3 hu ⟨K,rfl,hs,hK,rfl⟩ Cy Cn hy hn;obtain⟨z,hz,rfl⟩:=Z0 hu;have hk:=(Yg.mp hz).1;obtain⟨v,hv⟩:∃v,nQ[k]? = some v:=⟨_,Yh (by rw[yZ,Yc];exact hk)⟩;obtain⟨p,zs,rfl,hp,qZ⟩:=y6 k v hv;have jH:=jO _ _ hp;have ht:L.take (k+1)=L.take k++[z]:=by rw[List.take_succ_eq_append_getElem hk,(Yg.mp hz).2]
  have OO:(zs≠[])↔∃y∈L,le z y:=by
   constructor
   .intro h;cases zs with
    | nil=>exact absurd rfl h
    | cons y zs=>obtain⟨a,b⟩:=(qZ z hz y).mp (.head _);exact⟨y,a,b⟩
   .rintro⟨y,a,b⟩ e;have:=(qZ z hz y).mpr ⟨a,b⟩;rw[e]at this;cases this
  walk_at "d";refine⟨cP,_,_,by rw[Zi (dN y8 ur)];exact y8,qV uo hz hv,?_⟩;walk_at "d";refine⟨_,by rw[Zi (dN jH ur)];exact jH,kg (fun h=>?_) fun h=>?_⟩
  .have j9:zs≠[]:=fun e=>by rw[e]at h;cases h
   refine hy _ _ Zb ⟨K++[z],by rw[Yt];rfl,by rw[ht];exact hs.append (List.Sublist.refl _),fun z'=>?_,by rw[ZF]⟩;rw[ht,Yv,Yv,hK];constructor
   .rintro(h|h)
    .exact⟨.inl h.1,h.2⟩
    .rw[Yn]at h;subst h;exact⟨.inr (.head _),OO.mp j9⟩
   .rintro⟨h|h,h2⟩
    .exact .inl ⟨h,h2⟩
    .exact .inr h
  .have j9:zs=[]:=by cases zs with|nil=>rfl|cons=>cases h
   refine hn _ ⟨K,rfl,by rw[ht];exact hs.trans (List.sublist_append_left _ _),fun z'=>?_,rfl⟩;rw[ht,Yv,hK];constructor
   .exact fun h=>⟨.inl h.1,h.2⟩
   .rintro⟨h|h,h2⟩
    .exact⟨h,h2⟩
    .rw[Yn]at h;subst h;exact absurd j9 (OO.mpr h2)
 rintro ys A3 ⟨K,rfl,hs,hK,rfl⟩;rw[Yc,YV]at hs hK;have e5:=((e2.trans eB).trans jO).trans (Ext.new ur (o:=.lst (K.map U.str)));refine nO (decide (K=L)) (fun B2 d9=>?_) ?_
 .walk_at "d";exact BS (fun z hz=>aE z (vV z (hs.subset hz))) (fun z hz=>aE z (vV z hz)) Zb (by rw[Zi uu];exact cx) ⟨_,rfl,d9⟩
 by_cases uq:K=L
 .refine ZH (YC uq) ?_;subst uq;walk_at "d";obtain⟨z0,L0,OP⟩:∃z0 L0,K=z0::L0:=by
   cases K with
   | nil=>exact absurd rfl aT
   | cons a b=>exact⟨a,b,rfl⟩
  refine⟨_,_,by rw[Zi uu];exact cx,ZQ (j:=0) (by rw[OP];rfl),?_⟩;refine⟨z0,d3,K,nQ,cP,le,rfl,by rw[Zi (dN y8 ur)];exact y8,by rw[yZ,Yc],uo,ON,fun k v hv=>?_,by rw[OP];exact .head _,fun B6 l6 c e6 OQ Hd hc Ww=>?_⟩
  .obtain⟨p,zs,h1,h2,h3⟩:=y6 k v hv;refine⟨p,zs,h1,Ext.new ur _ _ (jO _ _ h2),fun z hz=>?_⟩;obtain⟨_,y,hy,hle⟩:=(hK z).mp (Yi hz);have hm:=(h3 z hz y).mpr ⟨hy,hle⟩;cases zs with
   | nil=>cases hm
   | cons a t=>obtain⟨h4,h5⟩:=(h3 z hz a).mp (.head _);exact⟨a,t,rfl,h4,h5⟩
  .have e7:=e5.trans e6;exact⟨l6,_,rfl,Hd,fun l7 OR=>qx c hc (fun z hz=>vV z (Ww z hz)) _ l7 (e7.trans (Ext.new OR)) (iO e7 OR) Zb⟩
 .refine Zm (Yu uq) ?_;walk_at "d";obtain⟨mY,uv⟩:=Wu Hb jQ hK;exact⟨_,Nat.lt_of_le_of_ne hs.length_le fun e=>uq (hs.eq_of_length e),l5,K,_,_,mY,n+1,rfl,rfl,e5,Zb,uo.sublist hs,fun z hz=>vV z (hs.subset hz),uv⟩
end
structure BW (P:Program) (w:World) (C:Addr) (A:aw) (b:Addr) (ps:List (Str×Addr)) (rs:List Rl):Prop where
 mk ::
 all : ∃(dx d1 d2 d3 d4:Addr)(e1 e2 e3 e4:Nat)(v3 v4:List U),A b=some (.ins C dx [("rule_by",.ref d1),("least_by",.ref d2),("leans_by",.ref d3),("speaks_by",.ref d4)])/\A d1=some (dS P w e1 (bU ps))/\A d2=some (dS P w e2 (yV ps rs))/\A d3=some (dS P w e3 ((ps.map (·.1)).zip v3))/\A d4=some (dS P w e4 ((ps.map (·.1)).zip v4)) /\
  v3.length=ps.length/\fF A v3 (G1 (e_ ps rs) rs)/\v4.length=ps.length/\fF A v4 fun k zs=>∀z,(ps.map (·.1))[k]? = some z->BO (fU ps rs) z zs
def BW.ext(h:BW P w C A b ps rs)(e:Ext A B):BW P w C B b ps rs:=by
 obtain⟨dx,d1,d2,d3,d4,e1,e2,e3,e4,v3,v4,h0,h1,h2,h3,h4,h5,h6,h7,h8⟩:=h.all;exact⟨dx,d1,d2,d3,d4,e1,e2,e3,e4,v3,v4,e _ _ h0,e _ _ h1,e _ _ h2,e _ _ h3,e _ _ h4,h5,h6.ext e,h7,h8.ext e⟩
def leB(ps:List (Str×Addr))(rs:List Rl)(z y:Str):Prop:=∃(k:Nat)(r:Rl),(ps.map (·.1))[k]? = some z/\rs[k]? = some r/\y∈r.lean (e_ ps rs)
def OS(P:Program)(w:World)(C DT DN DH DR:Addr)(cs:Nat->Addr):pd:=fun us A Q X=>∃(x dx l:Addr)(A0:aw)(ps:List (Str×Addr))(rs:List Rl),us=[.ref x,.ref l]/\A=af A0 x (.ins C dx [])/\A0 x=none/\A0 l=some (.lst (ps.map fun p=>.tup [.str p.1,.ref p.2]))/\n_ cs A0 ps rs/\(∀z,qS (ps.map (·.1)) z->∀B,Ext A0 B->X DT [("name",.str z)] B)/\((ps.map (·.1)).Nodup->∀z,qT (ps.map (·.1)) rs z->∀B,Ext A0 B->X DN [("name",.str z)] B)/\((ps.map (·.1)).Nodup->Kn (ps.map (·.1)) rs->((∀r∈rs,r.hp (e_ ps rs)=false)->(∃rk:Str->Nat,∀z∈ps.map (·.1),∀y,leB ps rs z y->rk y<rk z)->∀B,Ext A0 B->BW P w C B x ps rs->Q .ay B)/\(∀(k:Nat) z r,(ps.map (·.1))[k]? = some z->rs[k]? = some r->r.hp (e_ ps rs)=true->(∀(j:Nat) r',j<k->rs[j]? = some r'->r'.hp (e_ ps rs)=false)->∀B,Ext A0 B->X DH [("name",.str z)] B)/\((∀r∈rs,r.hp (e_ ps rs)=false)->∀c,qY (leB ps rs) c->(∀z∈c,z∈ps.map (·.1))->∀B l,Ext A0 B->A0 l=none->B l=some (.lst (List.map U.str c))->X DR [("circle",.ref l)] B))
def fF.kp(h:fF A vs R)(e:∀p us,A p=some (.lst us)->B p=some (.lst us)):fF B vs R:=fun k v hv=>by
 obtain⟨p,zs,h1,h2,h3⟩:=h k v hv
 exact⟨p,zs,h1,e _ _ h2,h3⟩
def fF.ins(h:fF A vs R)(hx:A x=some (.ins C dx fs)):fF (af A x o) vs R:=h.kp fun p us hp=>by
 rw[Zi fun e=>by rw[e,hx]at hp;cases hp]
 exact hp
def q_{r:List (Str×U)}:List.lookup a ((a,u)::r)=some u:=List.lookup_cons_self
def BX{r:List (Str×U)}(h:(b==a)=false)(k:List.lookup b r=o):List.lookup b ((a,u)::r)=o:=by rw[List.lookup_cons,h];exact k
theorem Wx:a7 "least_by" v [(("rule_by":Str),u)]=[(("rule_by":Str),u),(("least_by":Str),v)]:=lu (by simp;decide +kernel)
theorem Wy:a7 "leans_by" x [(("rule_by":Str),u),(("least_by":Str),v)]=[(("rule_by":Str),u),(("least_by":Str),v),(("leans_by":Str),x)]:=lu (by simp;decide +kernel)
theorem Wz:a7 "speaks_by" y [(("rule_by":Str),u),(("least_by":Str),v),(("leans_by":Str),x)]=[(("rule_by":Str),u),(("least_by":Str),v),(("leans_by":Str),x),(("speaks_by":Str),y)]:=lu (by simp;decide +kernel)
section
include T
theorem WA:T.pM.Ok (gi P w) 70 (qG K (OS P w aI ZO ZB ZE ZN cS)):=by
 have He:=V7 T;have Hf:=V' T;have Hg:=Wm T;have Hh:=Wc T;have Hi:=Wv T;have Hj:=Wf T;apply T.pM.vD;walk_at "f";exact fun S hr hE=>⟨_,(Zc (jr (pv 0) (Fx nX He.mn hr (by rfl) T.mL.m T.mL.f.kp T.mL.b (Za (pv 1) Zd)) rfl)
   (Zc (jr (pv 0) (T.tO.pc Hf hr (Za (Z6 (pv 0) rfl) Zd)) rfl)
   (Zc (ZP (Fx nX Hg.mn hr (by rfl) T.mM.m T.mM.f.kp T.mM.b (Za (Z6 (pv 0) rfl) (Za (Z6 (pv 0) rfl) Zd))))
   (Zc (jr (pv 0) (T.tP.pc Hh hr (Za (Z6 (pv 0) rfl) (Za (Z6 (pv 0) rfl) Zd))) rfl)
   (Zc (ZP (Fx nX Hi.mn hr (by rfl) T.mN.m T.mN.f.kp T.mN.b (Za (Z6 (pv 0) rfl) Zd)))
   (Ze (jr (pv 0) (Bc (ts:=["name"]) (frs':=[("self",0)]) (cl:=_) rfl .z (Mf (Z6 (pv 0) rfl)) (fun _ _ _ _=>Zl (i:=0) (show List.Nodup (["name","self"]:List Str)from by decide +kernel) rfl (Or.inl rfl) (.inr rfl)) (fun _ _ _ _=>j7) (fun _ _ _ _=>by exact(pv 0)) (fun _ _ _ _=>by exact(T.tT.pc Hj hr (Za (pv 0) (Za (Z6 (pv 1) rfl) Zd))))) rfl))))))),(ZK (ZaQ Zh (Zcp hE (Zf Zh Zr)))
   (ZK (ZaQ Zh (Zai (Zf (ZbK Zh) Zr)))
   (ZK (Zd6 (Zcp hE (Zf (ZbK Zh) (Zf (ZbK Zh) Zr))))
   (ZK (ZaQ Zh (Zai (Zf (ZbK Zh) (Zf (ZbK Zh) Zr))))
   (ZK (Zd6 (Zcp hE (Zf (ZbK Zh) Zr)))
   (ZaQ Zh (Zbr (Zbn ZhT (ZbK Zh)) Zu Zbd Zh (Zai (Zf Zh (Zf (ZbK Zh) Zr))))))))))⟩
 rintro us A Q X ⟨x,dx,l,A0,ps,rs,rfl,rfl,hx,hl,hW,qt,qn,q⟩;walk_at "o";refine⟨l,ps,rs,rfl,Ext.new hx _ _ hl,hW.ext (Ext.new hx),fun z hz B e=>qt z hz B ((Ext.new hx).trans e),fun nd z hz B e=>qn nd z hz B ((Ext.new hx).trans e),fun nd kn B1 d1 d_ e1 mV h1=>?_⟩;have hB:=hW.in nd kn;obtain⟨q,q2,q3⟩:=q nd kn;have h8:∀z∈ps.map (·.1),z.length<=8/\PyData.strOk z=true:=fun z hz=>⟨(AY (hW.wd z hz)).2.2.1,vp (hW.wd z hz)⟩;have sR:=e1 _ _ Zb;replace e1:Ext A0 B1:=(Ext.new hx).trans e1;have n1:d1≠x:=fun e=>by rw[e,Zb]at mV;cases mV
 walk_at "d";refine⟨x,_,dx,_,rfl,sR,T.bu,T.aN,by decide,x,_,dx,_,_,rfl,Zb,T.bu,T.aN,by rw[n6];exact q_,?_⟩;rw[n6];refine⟨d1,ps,rs,d_,rfl,by rw[Zi n1];exact h1,hB.ext (jP e1 hx),fun B2 d2 bJ e2 hd2 h2=>?_⟩;have Bu:=e2 _ _ Zb;replace h1:=e2 _ _ (show af B1 x _ d1=some (dS P w d_ (bU ps)) by rw[Zi n1];exact h1);replace e2:Ext A0 B2:=(jP e1 hx).trans e2;have n2:d2≠x:=fun e=>by rw[e,Zb]at hd2;cases hd2
 clear mV hd2 sR e1;walk_at "d";refine⟨x,_,dx,_,rfl,Bu,T.bu,T.bw,by show(1:Nat)<1000;decide,?_⟩;rw[Wx];have jR:af B2 x (.ins aI dx [("rule_by",.ref d1),("least_by",.ref d2)]) x=some (.ins aI dx [("rule_by",.ref d1),("least_by",.ref d2)]):=Zb;have e3:Ext A0 (af B2 x (.ins aI dx [("rule_by",.ref d1),("least_by",.ref d2)])):=jP e2 hx;replace h1:af B2 x (.ins aI dx [("rule_by",.ref d1),("least_by",.ref d2)]) d1=some (dS P w d_ (bU ps)):=by rw[Zi n1];exact h1
 replace h2:af B2 x (.ins aI dx [("rule_by",.ref d1),("least_by",.ref d2)]) d2=some (dS P w bJ (yV ps rs)):=by rw[Zi n2];exact h2
 generalize af B2 x (.ins aI dx [("rule_by",.ref d1),("least_by",.ref d2)])=B3 at jR e3 h1 h2 ⊢;clear Bu e2;walk_at "d";refine⟨x,_,dx,_,_,rfl,jR,T.bu,T.aN,q_,x,_,dx,_,_,rfl,jR,T.bu,T.bw,BX (by decide +kernel) q_,d1,d2,ps,rs,d_,bJ,rfl,h1,h2,hB.ext e3,fun z hz=>(h8 z hz).1,fun OT B4 e4=>?_,fun k z r g1 g2 g3 g4 B e=>q2 k z r g1 g2 g3 g4 B (e3.trans e)⟩;replace jR:=e4 _ _ jR;replace h1:=e4 _ _ h1;replace h2:=e4 _ _ h2;replace e3:=e3.trans e4;clear e4;walk_at "d";refine⟨x,_,dx,_,_,rfl,jR,T.bu,T.aN,q_,x,_,dx,_,_,rfl,jR,T.bu,T.bw,BX (by decide +kernel) q_,d1,d2,ps,rs,d_,bJ,rfl,h1,h2,hB.ext e3,fun B5 d3 cP v3 e5 mW h3 Hk uw=>?_⟩;replace jR:=e5 _ _ jR;replace h1:=e5 _ _ h1;replace h2:=e5 _ _ h2;replace e3:=e3.trans e5;have n3:d3≠x:=fun e=>by rw[e]at h3;rw[h3]at jR;cases jR
 clear e5 mW;walk_at "d";refine⟨x,_,dx,_,rfl,jR,T.bu,T.b_,by show(2:Nat)<1000;decide,?_⟩;rw[Wy];have ux:af B5 x (.ins aI dx [("rule_by",.ref d1),("least_by",.ref d2),("leans_by",.ref d3)]) x=some (.ins aI dx [("rule_by",.ref d1),("least_by",.ref d2),("leans_by",.ref d3)]):=Zb;have e6:Ext A0 (af B5 x (.ins aI dx [("rule_by",.ref d1),("least_by",.ref d2),("leans_by",.ref d3)])):=jP e3 hx;replace h1:af B5 x (.ins aI dx [("rule_by",.ref d1),("least_by",.ref d2),("leans_by",.ref d3)]) d1=some (dS P w d_ (bU ps)):=by rw[Zi n1];exact h1
 replace h2:af B5 x (.ins aI dx [("rule_by",.ref d1),("least_by",.ref d2),("leans_by",.ref d3)]) d2=some (dS P w bJ (yV ps rs)):=by rw[Zi n2];exact h2
 replace h3:af B5 x (.ins aI dx [("rule_by",.ref d1),("least_by",.ref d2),("leans_by",.ref d3)]) d3=some (dS P w cP ((ps.map (·.1)).zip v3)):=by rw[Zi n3];exact h3
 replace uw:=uw.ins jR (o:=.ins aI dx [("rule_by",.ref d1),("least_by",.ref d2),("leans_by",.ref d3)]);generalize af B5 x (.ins aI dx [("rule_by",.ref d1),("least_by",.ref d2),("leans_by",.ref d3)])=B6 at ux e6 h1 h2 h3 uw ⊢;clear jR e3;have bA:=hB.len;walk_at "d";refine⟨x,_,dx,_,_,rfl,ux,T.bu,T.b_,BX (by decide +kernel) (BX (by decide +kernel) q_),d3,ps.map (·.1),v3,cP,leB ps rs,rfl,h3,by rw[Hk,Yc],hB.nd,by rw[Yc];exact bA,fun z hz=>(h8 z hz).2,fun k v hv=>?_,fun z hz y ⟨k,r,g1,g2,g3⟩=>(hB.sz r (Yi g2)).2.2 y (Rl.eE g3),fun jQ B7 e7=>?_,fun c hc vX B l e hl eR=>q3 OT c hc vX B l (e6.trans e) (iO e6 hl) eR⟩
 .obtain⟨p,zs,f1,f2,f3⟩:=uw k v hv;have hk:k<ps.length:=by rw[<- Hk];exact(Yg.mp hv).1
  obtain⟨r,hr,ho,g1,g2,g3⟩:=hB.get (Yh hk);have so:=f3 r hr;refine⟨p,zs,f1,f2,?_,fun z hz y=>?_⟩
  .have:=Z2 so.nd (m:=ps.map (·.1)) fun y hy=>g3 y (Rl.eE ((so.mem y).mp hy));rw[Yc]at this;lia
  .rw[so.mem];constructor
   .exact fun h=>⟨k,r,hz,hr,h⟩
   .rintro⟨k',r',h1,h2,h3⟩;have:=Z7 hB.nd h1 hz;subst this;rw[hr]at h2;cases h2;exact h3
 replace ux:=e7 _ _ ux;replace h1:=e7 _ _ h1;replace h2:=e7 _ _ h2;replace h3:=e7 _ _ h3;replace e6:=e6.trans e7;replace uw:=uw.ext e7;clear e7;walk_at "d";refine⟨x,_,dx,_,_,rfl,ux,T.bu,T.aN,q_,?_⟩;walk_at "d";refine⟨d_,_,h1,fun d4 WB=>?_⟩;walk_at "c";have hlen:((bU ps).map fK).length=(ps.map (·.1)).length:=by unfold bU;simp
 refine yx ((bU ps).map fK) (ps.map (·.1)) hlen.symm hB.nd (fun k v A2=>∃p zs,v=.ref p/\A2 p=some (.lst (List.map U.str zs))/\∀z,(ps.map (·.1))[k]? = some z->BO (fU ps rs) z zs) (fun τ=>∃u,τ=[u,some (.ref x)]) ⟨_,rfl⟩ WB (by rw[hlen,Yc];lia) (fun k A2 _ e3=>⟨_,e3 _ _ h1,by simp[bU],rfl⟩) ?_ ?_ ?_
 .rintro k v A1 B h1 h2 ⟨p,zs,rfl,h3,h4⟩;refine⟨p,zs,rfl,h2 _ _ (fun e=>?_) h3,h4⟩;rcases h1 with h1|⟨ep,kus,h1⟩
  .rw[e,h1]at h3;cases h3
  .rw[e,h1]at h3;cases h3
 .rintro k u z τ A3 hu hz ⟨x1,rfl⟩ e8 Cy hC;obtain⟨p,hp,rfl⟩:=BM hu;have fq:=hz;rw[Yj,hp]at fq;cases fq;unfold fK;walk_at "d";refine⟨x,_,dx,_,_,rfl,e8 _ _ ux,T.bu,T.aN,q_,p.1,d1,ps,rs,d_,rfl,Yi hz,e8 _ _ h1,hB.ext (e6.trans e8),fun B9 l9 zs e9 _ h9 iJ=>hC _ _ B9 ⟨_,rfl⟩ e9 ⟨l9,zs,rfl,h9,fun z fq=>?_⟩⟩;rw[hz]at fq;cases fq;exact iJ
 intro B8 v4 pS e8 kG WC WD;have y9:af B8 d4 (dS P w pS ((ps.map (·.1)).zip v4)) x=some (.ins aI dx [("rule_by",.ref d1),("least_by",.ref d2),("leans_by",.ref d3)]):=Ext.new kG _ _ (e8 _ _ ux);have h4:af B8 d4 (dS P w pS ((ps.map (·.1)).zip v4)) d4=some (dS P w pS ((ps.map (·.1)).zip v4)):=Zb;have e9:=e8.trans (Ext.new kG (o:=dS P w pS ((ps.map (·.1)).zip v4)));have y_:fF (af B8 d4 (dS P w pS ((ps.map (·.1)).zip v4))) v4 fun k zs=>∀z,(ps.map (·.1))[k]? = some z->BO (fU ps rs) z zs:=fF.ext (fun k v hv=>WD k v hv) (Ext.new kG);generalize af B8 d4 (dS P w pS ((ps.map (·.1)).zip v4))=B9 at y9 h4 e9 y_ ⊢;have n4:d4≠x:=fun e=>by rw[e,y9]at h4;cases h4
 refine⟨x,_,dx,_,rfl,y9,T.bu,T.dz,by show(3:Nat)<1000;decide,?_⟩;rw[Wz];refine fg (q OT jQ _ (jP (e6.trans e9) hx) ⟨dx,d1,d2,d3,d4,d_,bJ,cP,pS,v3,v4,Zb,by rw[Zi n1];exact e9 _ _ h1,by rw[Zi n2];exact e9 _ _ h2,by rw[Zi n3];exact e9 _ _ h3,by rw[Zi n4];exact h4,Hk,(uw.ext e9).ins y9,by rw[WC,hlen,Yc],y_.ins y9⟩)
end
theorem pT:∀r:Rl,r.dep<=r.size:=by
 intro r;induction r with
 | nothing=>exact Yk _
 | bead c=>exact Yk _
 | named c=>exact Yk _
 | or x y i j=>simp only[Rl.dep,Rl.size];have:=x.eC;have:=y.eC;lia
 | bh x y i j=>simp only[Rl.dep,Rl.size];have:=x.eC;have:=y.eC;lia
 | hold k x i=>simp only[Rl.dep,Rl.size];lia
theorem za(xs:List α)(k:Nat):eu xs none (some (k:Int))=xs.take k:=by
 unfold eu;rw[show HT.aO xs.length xs.length (some (k:Int))=min k xs.length from HT.d5 xs.length xs.length k,show HT.aO xs.length 0 none=0 from rfl,zL,Nat.sub_zero];by_cases h:k<=xs.length
 .rw[rB h]
 .rw[Nat.min_eq_right (by lia),YV,m8 (by lia)]
theorem Zip:∀ {ys:List U},(∀(k:Nat) y,ys[k]? = some y->∃z:Int,y=.int z)->∃ms:List Int,ys=ms.map U.int
 | [],_=>⟨[],rfl⟩
 | y :: ys,h=>by
  obtain⟨z,rfl⟩:=h 0 y rfl
  obtain⟨ms,rfl⟩:=Zip (ys:=ys) fun k y hy=>h (k+1) y hy
  exact⟨z::ms,rfl⟩
theorem OU:∀ {ns:List Str} {rs:List Rl} {ys:List U},ys.length=ns.length->rs.length=ns.length->(∀(k:Nat) y,ys[k]? = some y->∃b z r,ns[k]? = some z/\rs[k]? = some r/\y=.tup [.str z,.ref b]/\bZ cs B b r)->∃ps:List (Str×Addr),ys=ps.map (fun p=>.tup [.str p.1,.ref p.2])/\ps.map (·.1)=ns/\ig cs B (ps.map (·.2)) rs
 | [],[],[],_,_,_=>⟨[],rfl,rfl,trivial⟩
 | n :: ns,r::rs,y::ys,h1,h2,h=>by
  obtain⟨b,z,r',e1,e2,rfl,ho⟩:=h 0 y rfl
  cases e1
  cases e2
  obtain⟨ps,p1,p2,p3⟩:=OU (ns:=ns) (rs:=rs) (ys:=ys) (by simpa using h1) (by simpa using h2) fun k y hy=>h (k+1) y hy
  exact⟨(n,b)::ps,by rw[p1];rfl,by rw[Yr,p2],ho,p3⟩
def BY{ns:List Str}{rs:List Rl}{k:Nat}{u:U}(h:((ns.zip (rs.map Rl.toU)).map f)[k]? = some u):∃z r,ns[k]? = some z/\rs[k]? = some r/\u=f (z,r.toU):=by
 rw[Yj]at h;obtain⟨p,hp,rfl⟩:=YM.mp h;obtain⟨h1,h2⟩:=List.getElem?_zip_eq_some.mp hp;rw[Yj]at h2;obtain⟨r,hr,e⟩:=YM.mp h2;exact⟨p.1,r,h1,hr,by rw[e]⟩
def DE(kus:List (Str×U))(e:Str->On):Prop:=∀z,kus.lookup z=(e z).map fun n=>U.int n
def OV(P:Program)(w:World)(n:Nat):bP:=fun us A Q=>∃(r:Rl)(d:Addr)(ep:Nat)(kus:List (Str×U))(e:Str->On),us=[r.toU,.ref d]/\r.dep<=n/\A d=some (dS P w ep kus)/\DE kus e/\Q (oU (r.lst e)) A
def WE:∀us A Q,¬OV P w 0 us A Q:=fun us A Q aD=>by obtain⟨r,_,_,_,_,_,h,_⟩:=aD;have:=r.bC;lia
def DE.get(h:DE kus e)(z:Str):(kus.lookup z).getD .ay=oU (e z):=by
 rw[h z];cases e z<;>rfl
theorem LM:dG (.str (Z8 k)) [.str "nothing",.str "row",.str "bag",.str "choice"]=decide (k<3):=by
 rcases k with _|_|_|k
 .decide +kernel
 .decide +kernel
 .decide +kernel
 .rw[Yu (by lia),show Z8 (k+1+1+1)=Z8 3 from rfl];decide +kernel
section
include T
theorem Hl(n:Nat):T.fz.Ok aP (n+1) (aW K (OV P w n)):=by
 induction n with
 | zero=>exact o5 T.fz.f T.fz.s WE
 | succ n gB =>
  apply T.fz.bG;walk_at "f";exact fun S hr=>⟨_,(Zc (ZG (Zj vb (Zt ZW (pv 0) Zg (fun _ _=>rfl)) (Zz (qm (xs:=["nothing","row","bag","choice"]) rfl)) (by with_unfolding_all rfl)) (Ze (Zp Zg)) Zo)
   (Zc (ZG (Zj (cM hr) (Zt ZW (pv 0) Zg (fun _ _=>rfl)) Zk (Zx _)) (Ze (Zp Zg)) Zo)
   (Zc (ZG (Zj (cM hr) (Zt ZW (pv 0) Zg (fun _ _=>rfl)) Zk (Zx _)) (Ze (Zp (L_ (pv 1) (Za (Zt ZW (pv 0) Zg (fun _ _=>rfl)) Zd)))) Zo)
   (Zc (Zq (i:=2) S.nd rfl (Or.inl rfl) (T.fz.pc gB hr (Za (Zt ZW (pv 0) Zg (fun _ _=>rfl)) (Za (pv 1) Zd))))
   (Zc (ZG (Zj (cM hr) (Zt ZW (pv 0) Zg (fun _ _=>rfl)) Zk (Zx _)) (Ze (Zp (pv 2))) Zo)
   (Zc (Zq (i:=3) S.nd rfl (Or.inl rfl) (T.fz.pc gB hr (Za (Zt ZW (pv 0) Zg (fun _ _=>rfl)) (Za (pv 1) Zd))))
   (Zc (ZG (Zj (cM hr) (Zt ZW (pv 0) Zg (fun _ _=>rfl)) Zk (Zx _)) (Ze (Zp (MO K rfl rfl (by rfl) T.mT (nA (ts:=["_law_many"]) (frs':=[]) (cl:=[]) rfl .z (Z5 (Zz (Za (pv 2) (Za (pv 3) Zd)))) (fun _ _ _ _=>Zl (i:=0) DK rfl (Or.inl rfl) (.inr rfl)) (fun _ _ _ _=>by exact(u6 (Zj C3 (pv 0) oA (Zx _)))) (fun _ _ _ _=>by exact(pv 0)))))) Zo)
   (Zc (ZG ((uR (Zj Jy (pv 2) oA (Zx _)) (wN (Zj Jy (pv 3) oA (Zx _))))).pt (Ze (Zp oA)) Zo)
   (Ze (Zp (Zy fM (pv 2) (pv 3)))))))))))),by walk_at "ab"⟩
  rintro us A Q ⟨r,d,ep,kus,e,rfl,hd,hA,hE,q⟩;refine⟨rfl,?_⟩;walk_at "s";cases r with
  | nothing =>
   unfold Rl.toU;walk_at "g";exact⟨d8,rfl,rfl,ZH (by decide +kernel) (fg q)⟩
  | bead z =>
   unfold Rl.toU;walk_at "g";exact⟨d8,rfl,rfl,Zm (by decide +kernel) (ZH rfl (fg q))⟩
  | named z =>
   unfold Rl.toU;walk_at "g";refine⟨d8,rfl,rfl,Zm (by decide +kernel) (Zm (by decide +kernel) (ZH rfl ⟨d,ep,kus,rfl,hA,⟨z,.ay,ep,kus,rfl,hA,?_⟩⟩))⟩;rw[hE.get];exact fg q
  | or x y =>
   unfold Rl.toU;walk_at "g";simp only[Rl.dep]at hd;refine⟨d8,rfl,rfl,Zm (by decide +kernel) (Zm (by decide +kernel) (Zm (by decide +kernel) ⟨x,d,ep,kus,e,rfl,by lia,hA,hE,Zm (by decide +kernel) ⟨y,d,ep,kus,e,rfl,by lia,hA,hE,ZH rfl ⟨bI,fun l hl=>?_⟩⟩⟩))⟩;walk_at "c";exact NX hl (fun k A2 _ _=>rfl) fun B eB=>sL eB q
  | bh x y =>
   unfold Rl.toU;walk_at "g";simp only[Rl.dep]at hd;refine⟨d8,rfl,rfl,Zm (by decide +kernel) (Zm (by decide +kernel) (Zm (by decide +kernel) ⟨x,d,ep,kus,e,rfl,by lia,hA,hE,Zm (by decide +kernel) ⟨y,d,ep,kus,e,rfl,by lia,hA,hE,Zm (by decide +kernel) ?_⟩⟩))⟩;simp only[Rl.lst]at q;cases hx:x.lst e with
   | none=>rw[hx]at q;exact ZH rfl (by rw[if_pos trivial];exact fg q)
   | some a =>
    rw[hx]at q;cases hy:y.lst e with
    | none=>rw[hy]at q;exact Zm rfl (ZH rfl (fg q))
    | some b=>rw[hy]at q;exact Zm rfl (Zm rfl (fg q))
  | hold k x =>
   unfold Rl.toU;walk_at "g";simp only[Rl.dep]at hd;have hk:∀z∈(["nothing","bead","name","or","by"]:List Str),decide (Z8 k=z)=false:=fun z hz=>Yu (xW k hz);refine⟨d8,rfl,rfl,?_⟩;rw[LM];by_cases h3:k<3
   .refine ZH (YC h3) (fg ?_);simp only[Rl.lst,h3,if_true]at q;exact q
   .refine Zm (Yu h3) (Zm (hk _ (by decide +kernel)) (Zm (hk _ (by decide +kernel)) ⟨x,d,ep,kus,e,rfl,by lia,hA,hE,?_⟩));simp only[Rl.lst,h3,fW]at q;rw[show Z8 k=Z8 3 from by rw[<- Sv k,Nat.min_eq_right (by lia)]];exact ZH (by decide +kernel) (fg q)
end
theorem OW:∀ {kus:List (Str×U)},(a7 k u kus).lookup z=if z=k then some u else kus.lookup z
 | []=>by
  show List.lookup z [(k,u)]=_
  rw[List.lookup_cons]
  by_cases e:z=k
  .rw[beq_iff_eq.mpr e,if_pos e]
  .rw[Yx.mpr e,if_neg e]
 | (a, b)::r=>by
  show List.lookup z (if a=k then(a,u)::r else(a,b)::a7 k u r)=_
  by_cases h:a=k
  .rw[if_pos h,List.lookup_cons,List.lookup_cons,h]
   by_cases e:z=k
   .rw[beq_iff_eq.mpr e,if_pos e]
   .rw[Yx.mpr e,if_neg e]
  .rw[if_neg h,List.lookup_cons,List.lookup_cons,OW]
   by_cases e:z=a
   .rw[beq_iff_eq.mpr e]
    exact(if_neg (fun e'=>h (e.symm.trans e'))).symm
   .rw[Yx.mpr e]
theorem OX:∀ {kus:List (Str×U)},k∈kus.map (·.1)->(a7 k u kus).map (·.1)=kus.map (·.1)
 | (a,b)::r,h=>by
  show(if a=k then(a,u)::r else(a,b)::a7 k u r).map (·.1)=_
  by_cases e:a=k
  .rw[if_pos e];rfl
  .rw[if_neg e,Yr,OX ((Yp.mp h).resolve_left (Ne.symm e))];rfl
def WG{ns:List Str}(h:(kus.map (·.1)).Nodup)(hs:∀z∈kus.map (·.1),z∈ns)(hk:k∈ns):((a7 k u kus).map (·.1)).Nodup/\∀z∈(a7 k u kus).map (·.1),z∈ns:=by
 by_cases e:k∈kus.map (·.1)
 .rw[OX e];exact⟨h,hs⟩
 .rw[lu e,Yt];refine⟨List.nodup_append.mpr ⟨h,by simp,fun a ha b hb q=>e (by rw[show k=a from(q.trans (Yn.mp hb)).symm];exact ha)⟩,fun z hz=>?_⟩;rcases Yv.mp hz with hz|hz
  .exact hs z hz
  .rw[show z=k from Yn.mp hz];exact hk
def lD(e:Str->On)(z:Str)(v:On):Str->On:=fun y=>if y=z then mC v (e z)else e y
def WH:lD e z none=e:=by
 funext y;unfold lD;split
 .rename_i h;rw[h];rfl
 .rfl
theorem DE.put(h:DE kus e)(z:Str)(f:Nat):DE (a7 z (.int (min (f:Int) (((e z).getD f:Nat):Int))) kus) (lD e z (some f)):=fun y=>by
 rw[OW]
 unfold lD
 split
 .cases e z with
  | none =>
   show some (U.int (min (f:Int) (f:Int)))=some (U.int (f:Int))
   rw[Int.min_self]
  | some b=>show some (U.int (min (f:Int) (b:Int)))=some (U.int ((min f b:Nat):Int));congr 2;lia
 .exact h y
structure zb (F:Str->Option Rl) (V:Str->On) (t:Nat) (e:Str->On):Prop where
 lo:∀z,dq (V z) (e z)
 hi:∀z,dq (e z) (lv F t z)
def zb.up{V:Str->On}(h:zb F V t e)(hz:F z=some r)(hV:r.lst V=V z):zb F V t (lD e z (r.lst e))/\dq (lD e z (r.lst e) z) (lv F (t+1) z)/\∀y,dq (lD e z (r.lst e) y) (e y):=by
 have hd:∀y,dq (lD e z (r.lst e) y) (e y):=fun y=>by
  unfold lD;split
  .rename_i h;rw[h];exact Ga _ _
  .exact sY _
 refine⟨⟨fun y=>?_,fun y=>vJ (hd y) (h.hi y)⟩,?_,hd⟩
 .unfold lD;split
  .rename_i h';rw[h'];exact NL (by rw[<- hV];exact r.cm h.lo) (h.lo z)
  .exact h.lo y
 .unfold lD;rw[if_pos rfl];refine vJ (F' _ _) ?_;simp only[lv,hz];exact r.cm h.hi
def jf(ns:List Str)(rs:List Rl)(z:Str):Option Rl:=(ns.zip rs).lookup z
def WI(h:jf ns rs z=some r):z∈ns:=by
 obtain⟨k,h1,_⟩:=yU h;exact Yi h1
def WJ(P:Program)(w:World):bP:=fun us A Q=>∃(d:Addr)(ns:List Str)(rs:List Rl)(ep:Nat),us=[.ref d]/\A d=some (dS P w ep (ns.zip (rs.map Rl.toU)))/\rs.length=ns.length/\ns.length<=60/\ns.Nodup/\(∀r∈rs,r.size<=60)/\∀d' aF kus,A d'=none->DE kus (lV (jf ns rs) ns.length)->Q (.ref d') (af A d' (dS P w aF kus))
section
include T
theorem OY : T.pN.Ok aP 65 (aW K (WJ P w)):=by
 have gB:=Hl T 60;apply T.pN.bG;walk_at "f";exact fun S hr=>⟨_,(Zc (Zq (i:=1) S.nd rfl (Or.inl rfl) sN)
   (Zc (Z3 YG rfl (ql rfl T.bE (Za (Zy fM (ZX E9 T.a9 (Za (pv 0) Zd)) Zg) Zd)) (Zl (i:=2) S.nd rfl (Or.inl rfl))
   (Ze (Z3 YG rfl (vt (pv 0)) (oE (n:=2) rfl (ZD (Zl (i:=3) S.nd rfl (Or.inl rfl)) (ZD (Zl (i:=4) S.nd rfl (Or.inl rfl)) jX)))
   (Zc (Zq (i:=5) S.nd rfl (Or.inl rfl) (T.fz.pc gB hr (Za (pv 4) (Za (pv 1) Zd))))
   (Ze (ZG (Zj C3 (pv 5) oA (Zx _)) (Ze (nq (ZX (RC rfl) T.mT (Za (pv 5) (Za (L_ (pv 1) (Za (pv 3) (Za (pv 5) Zd))) Zd))) (nk (pv 1) (pv 3) sP))) Zo))))))
   (Ze (Zp (pv 1))))),by walk_at "abh"⟩
 rintro us A Q ⟨d,ns,rs,ep,rfl,hA,dC,Hm,cw,hsz,q⟩;walk_at "o";intro d' fb;have WK:d≠d':=dN hA fb;have hlen:(ns.zip (rs.map Rl.toU)).length=ns.length:=by rw[List.length_zip,Yc];lia
 have hF:∀z r,jf ns rs z=some r->z∈ns:=fun z r h=>WI h;walk_at "d";refine⟨ep,_,Ext.new fb _ _ hA,?_⟩;rw[hlen];walk_at "d";refine⟨by lia,by lia,?_⟩;rw[show((ns.length:Int)+1).toNat=ns.length+1 by lia];refine sJ (n:=ns.length+1) (fun t ρ A2=>∃(aF:Nat)(kus:List (Str×U))(e:Str->On)(x2 x3 x4 x5:Option U),ρ=[some (.ref d),some (.ref d'),x2,x3,x4,x5]/\A2=af A d' (dS P w aF kus)/\DE kus e/\(kus.map (·.1)).Nodup/\(∀z∈kus.map (·.1),z∈ns)/\zb (jf ns rs) (lV (jf ns rs) ns.length) t e) ⟨0,[],fun _=>none,_,_,_,_,rfl,rfl,fun z=>rfl,List.nodup_nil,fun z h=>(nomatch h),fun z=>F_ _,fun z=>sY _⟩ ?_ ?_
 .rintro t ρ A2 ht ⟨aF,kus,e,x2,x3,x4,x5,rfl,rfl,hE,jg,iC,hI⟩;walk_at "d";refine⟨ep,_,Ext.new fb _ _ hA,?_⟩;refine vw (ns.zip (rs.map Rl.toU)) (fun j ρ A2=>∃(aF:Nat)(kus:List (Str×U))(e:Str->On)(x2 x3 x4 x5:Option U),ρ=[some (.ref d),some (.ref d'),x2,x3,x4,x5]/\A2=af A d' (dS P w aF kus)/\DE kus e/\(kus.map (·.1)).Nodup/\(∀z∈kus.map (·.1),z∈ns)/\zb (jf ns rs) (lV (jf ns rs) ns.length) t e/\∀i z,i<j->ns[i]? = some z->dq (e z) (lv (jf ns rs) (t+1) z)) ⟨aF,kus,e,_,_,_,_,rfl,rfl,hE,jg,iC,hI,fun i z h=>absurd h (rC i)⟩ (fun j ρ A2 _ aD=>by obtain⟨_,_,_,_,_,_,_,_,e,_⟩:=aD;rw[e,Zi WK];exact hA) ?_ ?_
  .rintro j p ρ A2 hp ⟨aF,kus,e,x2,x3,x4,x5,rfl,rfl,hE,jg,iC,hI,hj⟩;obtain⟨z,r,hz,hr,e1⟩:=BY (f:=fI) (by rw[Yj,hp];rfl);rw[e1];have bV:=hsz r (Yi hr);have xl:=pT r;have qZ:jf ns rs z=some r:=qV cw hz hr;obtain⟨i1,i2,i3⟩:=hI.up qZ (U2 hF qZ);have kY:∀i y,i<j+1->ns[i]? = some y->dq (lD e z (r.lst e) y) (lv (jf ns rs) (t+1) y):=fun i y hi hy=>by
    by_cases h:i<j
    .exact vJ (i3 y) (hj i y h hy)
    .obtain rfl:i=j:=by lia
     rw[hz]at hy;cases hy;exact i2
   have iQ:kus.length<=ns.length:=by
    have:=Z2 jg iC;rwa [Yc]at this
   unfold fI;walk_at "d";refine⟨rfl,r,d',aF,kus,e,rfl,by lia,Zb,hE,?_⟩;cases hf:r.lst e with
   | none =>
    rw[hf,WH]at i1 kY;refine k8 (fun B hB=>?_) ?_
    .walk_at "d";exact hB
    walk_at "d";exact⟨aF,kus,e,_,_,_,_,rfl,rfl,hE,jg,iC,i1,kY⟩
   | some f =>
    rw[hf]at i1 kY;refine nP (fun B hB=>?_) ?_
    .walk_at "d";exact hB
    obtain⟨n1,n2⟩:=WG (u:=.int (min (f:Int) (((e z).getD f:Nat):Int))) jg iC (hF z r qZ);walk_at "d";refine⟨d',aF,kus,rfl,Zb,z,_,aF,kus,rfl,Zb,?_⟩;rw[show(kus.lookup z).getD (oU (some f))=.int (((e z).getD f:Nat):Int)from by rw[hE z];cases e z<;>rfl];show xN [.int (f:Int),.int (((e z).getD f:Nat):Int)] _ _;walk_at "d";exact⟨d',z,aF,kus,rfl,rfl,Zb,by rw[Y2];lia,fun cP=>⟨cP,_,_,_,_,_,_,rfl,by rw[ZF],hE.put z f,n1,n2,i1,kY⟩⟩
  .rintro ρ A2 ⟨aF,kus,e,x2,x3,x4,x5,rfl,rfl,hE,jg,iC,hI,hj⟩;rw[hlen]at hj;walk_at "d";refine⟨aF,kus,e,_,_,_,_,rfl,rfl,hE,jg,iC,hI.lo,fun z=>?_⟩;by_cases hz:z∈ns
   .obtain⟨i,hi⟩:=List.getElem?_of_mem hz;exact hj i z (Yg.mp hi).1 hi
   .cases h:jf ns rs z with
    | none=>simp only[lv,h];exact F_ _
    | some r=>exact absurd (hF z r h) hz
 rintro ρ A2 ⟨aF,kus,e,x2,x3,x4,x5,rfl,rfl,hE,jg,iC,hI⟩;have:e=lV (jf ns rs) ns.length:=funext fun z=>BC (by have:=hI.hi z;rwa [Gb (jf ns rs) hF z]at this) (hI.lo z);rw[this]at hE;walk_at "d";exact fg (q d' aF kus fb hE)
end
def OZ(P:Program)(w:World)(n:Nat):bP:=fun us A Q=>∃(r:Rl)(d:Addr)(ep:Nat)(kus:List (Str×U))(e:Str->On),us=[r.toU,.ref d]/\r.dep<=n/\r.size<=60/\A d=some (dS P w ep kus)/\DE kus e/\∀B l,Ext A B->A l=none->B l=some (.lst ((r.lean e).map U.str))->Q (.ref l) B
def WL:∀us A Q,¬OZ P w 0 us A Q:=fun us A Q aD=>by obtain⟨r,_,_,_,_,_,h,_⟩:=aD;have:=r.bC;lia
theorem WM:dG (.str (Z8 k)) [.str "nothing",.str "bead"]=false:=by
 rcases k with _|_|_|k
 .decide +kernel
 .decide +kernel
 .decide +kernel
 .rw[show Z8 (k+1+1+1)=Z8 3 from rfl];decide +kernel
section
include T
theorem O0(n:Nat):T.ir.Ok aP (n+2) (aW K (OZ P w n)):=by
 induction n with
 | zero=>exact o5 T.ir.f T.ir.s WL
 | succ n kJ =>
  have gB:=Hl T (n+1);apply T.ir.bG;walk_at "f";exact fun S hr=>⟨_,(Zc (ZG (Zj (cM hr) (Zt ZW (pv 0) Zg (fun _ _=>rfl)) Zk (Zx _)) (Ze (Zp (ZJ (Za (Zt ZW (pv 0) Zg (fun _ _=>rfl)) Zd)))) Zo)
   (Zc (ZG (Zj vb (Zt ZW (pv 0) Zg (fun _ _=>rfl)) (Zz (Za Zk (Za Zk Zd))) (by with_unfolding_all rfl)) (Ze (Zp (ZJ Zd))) Zo)
   (Zc (Zq (i:=2) S.nd rfl (Or.inl rfl) (ZJ Zd))
   (Zc (ZG ((uR (Zj (sh hr) (Zt ZW (pv 0) Zg (fun _ _=>rfl)) Zk (Zx _)) (wN (Zj yy (T.fz.pc gB hr (Za (Zt ZW (pv 0) Zg (fun _ _=>rfl)) (Za (pv 1) Zd))) Zg (Zx _))))).pt (Ze (Zq (i:=2) S.nd rfl (Or.inl rfl) (T.ir.pc kJ hr (Za (Zt ZW (pv 0) Zg (fun _ _=>rfl)) (Za (pv 1) Zd))))) Zo)
   (Zc (ZG ((uR (Zj (cM hr) (Zt ZW (pv 0) Zg (fun _ _=>rfl)) Zk (Zx _)) (wN ((ni (Zj (cM hr) (Zt ZW (pv 0) Zg (fun _ _=>rfl)) Zk (Zx _)) (oC (Zj yy (T.fz.pc gB hr (Za (Zt ZW (pv 0) Zg (fun _ _=>rfl)) (Za (pv 1) Zd))) Zg (Zx _))))).pt))).pt (Ze (Zq (i:=2) S.nd rfl (Or.inl rfl) (Zy fM (pv 2) (T.ir.pc kJ hr (Za (Zt ZW (pv 0) Zg (fun _ _=>rfl)) (Za (pv 1) Zd)))))) Zo)
   (Ze (Zp (pv 2)))))))),by walk_at "ab"⟩
  rintro us A Q ⟨r,d,ep,kus,e,rfl,hd,hs,hA,hE,q⟩;refine⟨rfl,?_⟩;walk_at "s";cases r with
  | nothing =>
   unfold Rl.toU;walk_at "g";refine Zm (by decide +kernel) ⟨bI,rfl,rfl,ZH (by decide +kernel) ⟨by decide,fun l hl=>fg (q _ l (Ext.new hl) hl Zb)⟩⟩
  | bead c =>
   unfold Rl.toU;walk_at "g";refine Zm (by decide +kernel) ⟨bI,rfl,rfl,ZH (by decide +kernel) ⟨by decide,fun l hl=>fg (q _ l (Ext.new hl) hl Zb)⟩⟩
  | named c =>
   unfold Rl.toU;walk_at "g";refine ZH rfl ⟨by show 1<=sizeLine;decide,fun l hl=>fg (q _ l (Ext.new hl) hl Zb)⟩
  | or x y =>
   unfold Rl.toU;walk_at "g";simp only[Rl.dep,Rl.size]at hd hs;refine Zm (by decide +kernel) ⟨bI,rfl,rfl,Zm (by decide +kernel) ⟨by decide,fun p hp=>ZH (by decide +kernel) (gI trivial ⟨x,d,ep,kus,e,rfl,by lia,by lia,Ext.new hp _ _ hA,hE,fun B1 l1 e1 cx je=>?_⟩)⟩⟩;replace e1:=(Ext.new hp).trans e1;refine ZH rfl (gI trivial ⟨y,d,ep,kus,e,rfl,by lia,by lia,e1 _ _ hA,hE,fun B2 l2 e2 dj d9=>?_⟩);have h1:=x.bp (e:=e);have h2:=y.bp (e:=e);walk_at "d";refine⟨_,_,e2 _ _ je,d9,by rw[Yc,Yc,Y2];lia,fun l hl=>fg (q _ l ((e1.trans e2).trans (Ext.new hl)) (iO (e1.trans e2) hl) ?_)⟩;rw[Zb,<- Yt];rfl
  | bh x y =>
   unfold Rl.toU;walk_at "g";simp only[Rl.dep,Rl.size]at hd hs;simp only[Rl.lean]at q;have h1:=x.bp (e:=e);have h2:=y.bp (e:=e);refine Zm (by decide +kernel) ⟨bI,rfl,rfl,Zm (by decide +kernel) ⟨by decide,fun p hp=>Zm (by decide +kernel) ⟨y,d,ep,kus,e,rfl,by lia,Ext.new hp _ _ hA,hE,sZ ⟨_,rfl,?_⟩⟩⟩⟩;by_cases hy:y.lst e=some 0
   .refine ZH (YC hy) ⟨x,d,ep,kus,e,rfl,by lia,by lia,Ext.new hp _ _ hA,hE,fun B1 l1 e1 cx je=>?_⟩;replace cx:=iO (Ext.new hp) cx;replace e1:=(Ext.new hp).trans e1;rw[if_pos hy]at q;refine Zm (by decide +kernel) (ZH (by decide) ⟨x,d,ep,kus,e,rfl,by lia,e1 _ _ hA,hE,sZ ⟨_,rfl,?_⟩⟩);by_cases hx:x.lst e=some 0
    .refine ZH (YC hx) ⟨y,d,ep,kus,e,rfl,by lia,by lia,e1 _ _ hA,hE,fun B2 l2 e2 dj d9=>?_⟩;walk_at "d";refine⟨_,_,e2 _ _ je,d9,by rw[Yc,Yc,Y2];lia,fun l hl=>fg (q _ l ((e1.trans e2).trans (Ext.new hl)) (iO (e1.trans e2) hl) ?_)⟩;rw[Zb,<- Yt,if_pos hx]
    .refine Zm (Yu hx) (fg (q _ l1 e1 cx ?_));rw[je,if_neg hx,YW]
   .refine Zm (Yu hy) ?_;rw[if_neg hy]at q;have e1:=Ext.new hp (o:=.lst []);have je:af A p (.lst []) p=some (.lst (([]:List Str).map U.str)):=Zb;have cx:=hp;have h1:([]:List Str).length<=x.size:=Y9 _;generalize af A p (.lst [])=B1 at e1 je ⊢;generalize WN:p=l1 at cx je ⊢;refine Zm (by decide +kernel) (ZH (by decide) ⟨x,d,ep,kus,e,rfl,by lia,e1 _ _ hA,hE,sZ ⟨_,rfl,?_⟩⟩);by_cases hx:x.lst e=some 0
    .refine ZH (YC hx) ⟨y,d,ep,kus,e,rfl,by lia,by lia,e1 _ _ hA,hE,fun B2 l2 e2 dj d9=>?_⟩;walk_at "d";refine⟨_,_,e2 _ _ je,d9,by rw[Yc,Yc,Y2];lia,fun l hl=>fg (q _ l ((e1.trans e2).trans (Ext.new hl)) (iO (e1.trans e2) hl) ?_)⟩;rw[Zb,<- Yt,if_pos hx]
    .refine Zm (Yu hx) (fg (q _ l1 e1 cx ?_));rw[je,if_neg hx,YW]
  | hold k x =>
   unfold Rl.toU;walk_at "g";simp only[Rl.dep,Rl.size]at hd hs;have hk:∀z∈(["nothing","bead","name","or","by"]:List Str),decide (Z8 k=z)=false:=fun z hz=>Yu (xW k hz);refine Zm (hk _ (by decide +kernel)) ⟨bI,rfl,rfl,Zm WM ⟨by decide,fun p hp=>ZH (by rw[hk _ (by decide +kernel)];rfl) (gI trivial ⟨x,d,ep,kus,e,rfl,by lia,by lia,Ext.new hp _ _ hA,hE,fun B1 l1 e1 cx je=>Zm (hk _ (by decide +kernel)) (Zm (hk _ (by decide +kernel)) (Zm rfl (fg (q _ l1 ((Ext.new hp).trans e1) (iO (Ext.new hp) cx) je))))⟩)⟩⟩
end
def _root_.L2.Rl.subs:Rl->List Rl
 | .or x y=>.or x y::(x.subs++y.subs)
 | .bh x y=>.bh x y::(x.subs++y.subs)
 | .hold k x=>.hold k x::x.subs
 | r=>[r]
def _root_.L2.Rl.tl:Rl->List U
 | .nothing=>[]
 | .bead c=>[.str c]
 | .named c=>[.str c]
 | .or x y=>[x.toU,y.toU]
 | .bh x y=>[x.toU,y.toU]
 | .hold _ x=>[x.toU]
def _root_.L2.Rl.hd:Rl->Str
 | .nothing=>"nothing"
 | .bead _=>"bead"
 | .named _=>"name"
 | .or _ _=>"or"
 | .bh _ _=>"by"
 | .hold k _=>Z8 k
def _root_.L2.Rl.eT(r:Rl):r.toU=.tup (.str r.hd::r.tl):=by cases r<;>rfl
def _root_.L2.Rl.jS(r:Rl):r.subs=r::(r.kids.map Rl.subs).flatten:=by cases r<;>simp[Rl.subs,Rl.kids]
theorem _root_.L2.Rl.eU(r:Rl):r.subs.length<=r.size:=by
 induction r with
 | nothing=>exact Yk _
 | bead c=>exact Yk _
 | named c=>exact Yk _
 | or x y i j=>simp only[Rl.subs,Rl.size,List.length_cons,Yq];lia
 | bh x y i j=>simp only[Rl.subs,Rl.size,List.length_cons,Yq];lia
 | hold k x i=>simp only[Rl.subs,Rl.size,List.length_cons];lia
def _root_.L2.Rl.uy{r:Rl}{k:Nat}{u:U}(h:r.tl[k]? = some u):(∃y,r.kids[k]? = some y/\u=y.toU)\/∃z,u=.str z/\r.kids=[]:=by
 cases r with
 | nothing=>cases h
 | bead c =>
  rcases k with _|k
  .exact .inr ⟨c,(YA h).symm,rfl⟩
  .cases h
 | named c =>
  rcases k with _|k
  .exact .inr ⟨c,(YA h).symm,rfl⟩
  .cases h
 | or x y =>
  rcases k with _|_|k
  .exact .inl ⟨x,rfl,(YA h).symm⟩
  .exact .inl ⟨y,rfl,(YA h).symm⟩
  .cases h
 | bh x y =>
  rcases k with _|_|k
  .exact .inl ⟨x,rfl,(YA h).symm⟩
  .exact .inl ⟨y,rfl,(YA h).symm⟩
  .cases h
 | hold j x =>
  rcases k with _|k
  .exact .inl ⟨x,rfl,(YA h).symm⟩
  .cases h
def _root_.L2.Rl.pU(r:Rl):r.kids.length<=r.tl.length:=by cases r<;>simp[Rl.kids,Rl.tl]
def _root_.L2.Rl.dc{r:Rl}{z:Str}:z∈r.bb↔Rl.named z∈r.subs:=by
 induction r with
 | nothing=>simp[Rl.bb,Rl.subs]
 | bead c=>simp[Rl.bb,Rl.subs]
 | named c=>simp[Rl.bb,Rl.subs]
 | or x y i j=>simp[Rl.bb,Rl.subs,i,j]
 | bh x y i j=>simp[Rl.bb,Rl.subs,i,j]
 | hold k x i=>simp[Rl.bb,Rl.subs,i]
def O1(n:Nat):bP:=fun us A Q=>∃r:Rl,us=[r.toU]/\r.dep<=n/\r.size<=60/\∀B l,Ext A B->A l=none->B l=some (.lst (r.subs.map Rl.toU))->Q (.ref l) B
def WO:∀us A Q,¬O1 0 us A Q:=fun us A Q aD=>by obtain⟨r,_,h,_⟩:=aD;have:=r.bC;lia
section
include T
theorem O2(n:Nat):T.i9.Ok aP (n+1) (aW K (O1 n)):=by
 induction n with
 | zero=>exact o5 T.i9.f T.i9.s WO
 | succ n mZ =>
  apply T.i9.bG;walk_at "f";exact fun S hr=>⟨_,(Zc (Zq (i:=1) S.nd rfl (Or.inl rfl) (ZJ (Za (pv 0) Zd)))
   (Zc (Z3 YG rfl (Z5 (nv nB (pv 0) (lW Zg) oN)) (Zl (i:=2) S.nd rfl (Or.inl rfl))
   (Ze (ZG (gQ (ZX Si T.aA (Za (pv 2) (Za (DI (T:="tuple") (by rfl) T.pO (by decide +kernel)) Zd)))) (Ze (Zq (i:=1) S.nd rfl (Or.inl rfl) (Zy fM (pv 1) (T.i9.pc mZ hr (Za (pv 2) Zd))))) Zo)))
   (Ze (Zp (pv 1))))),by walk_at "ab"⟩
  rintro us A Q ⟨r,rfl,hd,hs,q⟩;refine⟨rfl,?_⟩;walk_at "s";rw[r.eT];walk_at "g";rw[<- r.eT];refine⟨by show 1<=sizeLine;decide,fun p hp=>?_⟩;refine Ld (us:=r.tl) (fun k ρ A2=>∃(l1:Addr)(x2:Option U),ρ=[some r.toU,some (.ref l1),x2]/\Ext A A2/\A l1=none/\A2 l1=some (.lst ((r::((r.kids.take k).map Rl.subs).flatten).map Rl.toU))) ⟨p,_,rfl,Ext.new hp,hp,Zb⟩ ?_ ?_
  .rintro k u ρ A2 hu ⟨l1,x2,rfl,e2,cx,h2⟩;rcases Rl.uy hu with⟨y,hy,rfl⟩|⟨z,rfl,hk⟩
   .have hm:=Yi hy;have OC:=Rl.ck hm;rw[y.eT];walk_at "d";rw[<- y.eT];have h3:=GQ Rl.subs r.kids k;have h4:=r.eU;rw[r.jS,List.length_cons]at h4;have h5:=y.eU;refine⟨.inr (.inr (.inr trivial)),trivial,ZH (by rw[y.eT];rfl) ⟨y,rfl,by lia,by lia,fun B1 l2 e1 dj je=>?_⟩⟩;walk_at "d";refine⟨_,_,e1 _ _ h2,je,by rw[Yc,Yc,List.length_cons,Y2];lia,fun l hl=>⟨l,_,rfl,(e2.trans e1).trans (Ext.new hl),iO (e2.trans e1) hl,?_⟩⟩;rw[Zb,GR hy,<- Yt];rfl
   .walk_at "d";refine⟨.inr (.inr (.inr trivial)),trivial,Zm rfl ⟨l1,_,rfl,e2,cx,?_⟩⟩;rw[hk]at h2 ⊢;rw[h2,List.take_nil,List.take_nil]
  .rintro ρ A2 ⟨l1,x2,rfl,e2,cx,h2⟩;walk_at "d";refine fg (q _ l1 e2 cx ?_);rw[h2,r.jS,m8 r.pU]
end
def WQ(P:Program)(w:World):bP:=fun us A Q=>∃(r:Rl)(d:Addr)(ep:Nat)(kus:List (Str×U))(e:Str->On),us=[r.toU,.ref d]/\r.size<=60/\A d=some (dS P w ep kus)/\DE kus e/\∀B,Ext A B->Q (.bl (r.hp e)) B
def uz(e:Str->On):Rl->Bool
 | .hold _ x=>decide (x.lst e=some 0)
 | _=>false
def WR(e:Str->On)(r:Rl):r.hp e=r.subs.any (uz e):=by
 induction r with
 | nothing=>rfl
 | bead c=>rfl
 | named c=>rfl
 | or x y i j=>simp[Rl.hp,Rl.subs,uz,i,j]
 | bh x y i j=>simp[Rl.hp,Rl.subs,uz,i,j]
 | hold k x i=>simp[Rl.hp,Rl.subs,uz,i]
theorem WS{r s:Rl}(h:s∈r.subs):s.dep<=r.dep:=by
 induction r with
 | nothing=>rw[Yn.mp h];exact Yk _
 | bead c=>rw[Yn.mp h];exact Yk _
 | named c=>rw[Yn.mp h];exact Yk _
 | or x y i j =>
  rcases Yp.mp h with rfl|h
  .exact Yk _
  .simp only[Rl.dep];rcases Yv.mp h with h|h
   .have:=i h;lia
   .have:=j h;lia
 | bh x y i j =>
  rcases Yp.mp h with rfl|h
  .exact Yk _
  .simp only[Rl.dep];rcases Yv.mp h with h|h
   .have:=i h;lia
   .have:=j h;lia
 | hold k x i =>
  rcases Yp.mp h with rfl|h
  .exact Yk _
  .simp only[Rl.dep];have:=i h;lia
theorem WT:dG (.str (Z8 k)) [.str "row",.str "bag",.str "choice",.str "ring"]=true:=by
 rcases k with _|_|_|k
 .decide +kernel
 .decide +kernel
 .decide +kernel
 .rw[show Z8 (k+1+1+1)=Z8 3 from rfl];decide +kernel
def iE{α:Type}{l:List α}{x s:α}(hs:l[k]? = some s)(h:x∈l.take (k+1)):x∈l.take k\/x=s:=by
 rw[List.take_succ,hs]at h;simpa using h
section
include T
theorem WU:T.tZ.Ok aP 63 (aW K (WQ P w)):=by
 have mZ:=O2 T 61;have gB:=Hl T 61;apply T.tZ.bG;walk_at "f";exact fun S hr=>⟨_,(Zc (Z3 YG rfl (Z5 (T.i9.pc mZ hr (Za (pv 0) Zd))) (Zl (i:=2) S.nd rfl (Or.inl rfl))
   (Ze (ZG ((ni (Zj vb (Zt ZW (pv 2) Zg (fun _ _=>rfl)) (Zz (qm (xs:=["row","bag","choice","ring"]) rfl)) (by with_unfolding_all rfl)) (oC (Zj yy (T.fz.pc gB hr (Za (Zt ZW (pv 2) Zg (fun _ _=>rfl)) (Za (pv 1) Zd))) Zg (Zx _))))).pt (Ze (Zp kS)) Zo)))
   (Ze (Zp kS))),by walk_at "abh"⟩
 rintro us A Q ⟨r,d,ep,kus,e,rfl,hs,hA,hE,q⟩;walk_at "o";have xl:=pT r;refine⟨r,rfl,by lia,hs,fun B l eB hl hB=>?_⟩;walk_at "d";refine⟨⟨_,hB⟩,?_⟩;rw[WR]at q;refine nK (r.subs.map Rl.toU) (fun k ρ A2=>∃x2,ρ=[some r.toU,some (.ref d),x2]/\A2=B/\∀s∈r.subs.take k,uz e s=false) ⟨_,rfl,rfl,fun s h=>nomatch h⟩ (fun k ρ A2 _ hq=>by obtain⟨_,_,e,_⟩:=hq;rw[e];exact hB) ?_ ?_
 .rintro k u ρ A2 hu ⟨x2,rfl,rfl,hk⟩;obtain⟨s,g9,rfl⟩:=Z0 hu;have vY:=Yi g9;have Hn:=WS vY;walk_at "d";refine nO (uz e s) (fun C hC=>?_) ?_
  .cases s with
   | hold i x =>
    unfold Rl.toU;walk_at "g";simp only[Rl.dep]at Hn;exact⟨d8,rfl,rfl,ZH WT ⟨x,d,ep,kus,e,rfl,by lia,eB _ _ hA,hE,sZ ⟨_,rfl,hC⟩⟩⟩
   | nothing=>unfold Rl.toU;walk_at "g";exact⟨d8,rfl,rfl,Zm (by decide +kernel) hC⟩
   | bead c=>unfold Rl.toU;walk_at "g";exact⟨d8,rfl,rfl,Zm (by decide +kernel) hC⟩
   | named c=>unfold Rl.toU;walk_at "g";exact⟨d8,rfl,rfl,Zm (by decide +kernel) hC⟩
   | or a b=>unfold Rl.toU;walk_at "g";exact⟨d8,rfl,rfl,Zm (by decide +kernel) hC⟩
   | bh a b=>unfold Rl.toU;walk_at "g";exact⟨d8,rfl,rfl,Zm (by decide +kernel) hC⟩
  cases hb:uz e s with
  | true =>
   refine ZH rfl ?_;walk_at "d";rw[List.any_eq_true.mpr ⟨s,vY,hb⟩]at q;exact fg (q _ eB)
  | false =>
   refine Zm rfl ?_;walk_at "d";refine⟨_,rfl,trivial,fun x hx=>?_⟩;rcases iE g9 hx with h|rfl
   .exact hk x h
   .exact hb
 .rintro ρ A2 ⟨x2,rfl,rfl,hk⟩;walk_at "d";rw[Yc,YV]at hk;rw[List.any_eq_false.mpr fun s h=>by rw[hk s h];decide]at q;exact fg (q _ eB)
end
def WV(P:Program)(w:World):bP:=fun us A Q=>∃(d d2:Addr)(ns:List Str)(rs:List Rl)(ep bJ:Nat)(kus:List (Str×U))(e:Str->On),us=[.ref d,.ref d2]/\A d=some (dS P w ep (ns.zip (rs.map Rl.toU)))/\rs.length=ns.length/\ns.length<=60/\ns.Nodup/\(∀r∈rs,r.size<=60/\∀y∈r.bb,y∈ns)/\A d2=some (dS P w bJ kus)/\DE kus e/\∀B b,Ext A B->(b=false->∃rk:Str->Nat,∀(k:Nat) z r,ns[k]? = some z->rs[k]? = some r->∀y∈r.lean e,rk y<rk z)->(b=true->∃L:List Str,L≠[]/\(∀z∈L,z∈ns)/\∀(k:Nat) z r,ns[k]? = some z->rs[k]? = some r->z∈L->∃y∈L,y∈r.lean e)->Q (.bl b) B
def WW{ns K K':List Str}{le:Str->Str->Prop}{rk:Str->Nat}(hn:∀z∈ns,∀y,le z y->y∈ns)(h:∀z∈ns,z∉K->rk z<n/\∀y,le z y->y∉K/\rk y<rk z)(hz:z0∈K)(h0:∀y∈K,¬le z0 y)(hK:∀x,x∈K'↔x∈K/\x≠z0):
  ∃mY:Str->Nat,∀z∈ns,z∉K'->mY z<n+1/\∀y,le z y->y∉K'/\mY y<mY z:=by
 have aT:∀y,y∉K->y≠z0:=fun y hy e=>hy (e▸hz);have O3:∀y,y∉K->y∉K':=fun y hy hk=>hy ((hK y).mp hk).1;refine⟨fun z=>if z=z0 then n else rk z,fun z iD G_=>?_⟩;by_cases e:z=z0
 .subst e;refine⟨by simp only[if_true];lia,fun y hy=>?_⟩;have Ho:y∉K:=fun hk=>h0 y hk hy;refine⟨O3 y Ho,?_⟩;simp only[if_true,if_neg (aT y Ho)];exact(h y (hn z iD y hy) Ho).1
 .have Hq:z∉K:=fun hk=>G_ ((hK z).mpr ⟨hk,e⟩);obtain⟨h1,h2⟩:=h z iD Hq;refine⟨by simp only[if_neg e];lia,fun y hy=>?_⟩;obtain⟨h3,h4⟩:=h2 y hy;refine⟨O3 y h3,?_⟩;simp only[if_neg e,if_neg (aT y h3)];exact h4
theorem O4{α:Type}{u:α}:∀ {kus:List (Str×α)},kus.lookup z=some u->(z,u)∈kus
 | (a, b)::r,h=>by
  rw[List.lookup_cons]at h
  by_cases e:z=a
  .rw[beq_iff_eq.mpr e]at h
   cases h
   rw[e];exact .head _
  .rw[Yx.mpr e]at h
   exact .tail _ (O4 h)
def O5{kus:List (Str×α)}:x∈(jI z kus).map (·.1)↔x∈kus.map (·.1)/\x≠z:=by
 unfold jI;constructor
 .intro h;obtain⟨p,hp,rfl⟩:=YL.mp h;obtain⟨h1,h2⟩:=List.mem_filter.mp hp;exact⟨YL.mpr ⟨p,h1,rfl⟩,lG h2⟩
 .rintro⟨h,e⟩;obtain⟨p,hp,rfl⟩:=YL.mp h;exact YL.mpr ⟨p,List.mem_filter.mpr ⟨hp,YC e⟩,rfl⟩
def WX{kus:List (Str×α)}(h:z∈kus.map (·.1)):(jI z kus).length+1<=kus.length:=by
 obtain⟨p,hp,rfl⟩:=YL.mp h;exact List.length_filter_lt_length_iff_exists.mpr ⟨p,hp,by simp⟩
section
include T
theorem WY : T.t9.Ok aP 64 (aW K (WV P w)):=by
 have kJ:=O0 T 60;apply T.t9.bG;walk_at "f";exact fun S hr=>⟨_,(Zc (Zq (i:=2) S.nd rfl (Or.inr rfl) sN)
   (Zc (Z3 YG rfl (vt (pv 0)) (oE (n:=2) rfl (ZD (Zl (i:=3) S.nd rfl (Or.inl rfl)) (ZD (Zl (i:=4) S.nd rfl (Or.inl rfl)) jX)))
   (Ze (nq (T.ir.pc kJ hr (Za (pv 4) (Za (pv 1) Zd))) (nk (pv 2) (pv 3) sP))))
   (Zc (Z3 YG rfl (ql rfl T.bE (Za (ZX E9 T.a9 (Za (pv 0) Zd)) Zd)) (Zl (i:=5) S.nd rfl (Or.inl rfl))
   (Ze (Z3 YG rfl (Z5 (yz (Ml rfl) T.eP (Za (pv 2) Zd))) (Zl (i:=3) S.nd rfl (Or.inl rfl))
   (Ze (ZG (zV (gQ (ZX (NP rfl) T.qN (Za (nA (ts:=["_law_other"]) (frs':=[("_law_left",2)]) (cl:=_) rfl .z (Z5 (Zt sO (pv 2) (pv 3) (fun _ _=>rfl))) (fun _ _ _ _=>Zl (i:=0) (show List.Nodup (["_law_other","_law_left"]:List Str)from by decide +kernel) rfl (Or.inl rfl) (.inr rfl)) (fun _ _ _ _=>j7) (fun _ _ _ _=>by exact(wV (TN P w rfl rfl) (pv 0) (pv 1) (by with_unfolding_all rfl)))) Zd)))) (Ze (ZP (Vk (pv 2) (Za (pv 3) Zd)))) Zo)))))
   (Ze (Zp (wV xq (ZX E9 T.a9 (Za (pv 2) Zd)) Zg (Zx _))))))),by walk_at "abh"⟩
 rintro us A Q ⟨d,d2,ns,rs,ep,bJ,kus,e,rfl,hA,dC,dY,cw,bV,yW,hE,q⟩;walk_at "o";intro p hp;have hlen:(ns.zip (rs.map Rl.toU)).length=ns.length:=by rw[List.length_zip,Yc];lia
 refine⟨ep,_,Ext.new hp _ _ hA,?_⟩;refine vw (ns.zip (rs.map Rl.toU)) (fun j ρ A2=>∃(vs:List U)(aF:Nat)(x3 x4 x5:Option U),ρ=[some (.ref d),some (.ref d2),some (.ref p),x3,x4,x5]/\Ext A A2/\A2 p=some (dS P w aF ((ns.take j).zip vs))/\vs.length=min j ns.length/\fF A2 vs fun k zs=>∀r,rs[k]? = some r->zs=r.lean e) ⟨[],0,_,_,_,rfl,Ext.new hp,Zb,by simp,fun k v h=>nomatch h⟩ (fun j ρ A2 _ hq=>by obtain⟨_,_,_,_,_,_,e,_⟩:=hq;exact e _ _ hA) ?_ ?_
 .rintro j p' ρ A2 j6 ⟨vs,aF,x3,x4,x5,rfl,e2,h2,eZ,kH⟩;obtain⟨z,r,hz,hr,e1⟩:=BY (f:=fI) (by rw[Yj,j6];rfl);rw[e1];have WZ:=(Yg.mp hz).1;rw[rB (by lia)]at eZ;have gC:=bV r (Yi hr);have xl:=pT r;unfold fI;walk_at "d";refine⟨rfl,r,d2,bJ,kus,e,rfl,by lia,gC.1,e2 _ _ yW,hE,fun B l eB hl hB=>?_⟩;have iD:z∉((ns.take j).zip vs).map (·.1):=by
   rw[lx (by rw[YD,eZ];lia)];intro hm;obtain⟨i,hi,e⟩:=p_.mp hm;rw[YD]at hi;rw[List.getElem_take]at e;have:=Z7 cw (i:=i) (j:=j) (x:=z) (by rw[Yh (by lia),e]) hz;lia
  walk_at "d";refine⟨p,z,aF,_,rfl,rfl,eB _ _ h2,by rw[List.length_zip,YD,Y2];lia,fun cP=>⟨vs++[.ref l],cP,_,_,_,rfl,jP (e2.trans eB) hp,?_,by rw[Yq,List.length_singleton,eZ];lia,?_⟩⟩
  .rw[Zb,lu iD,List.take_succ_eq_append_getElem WZ,(Yg.mp hz).2,List.zip_append (by rw[YD,eZ];lia)];rfl
  .have kp : ∀q us,B q=some (.lst us)->af B p (dS P w cP (a7 z (.ref l) ((ns.take j).zip vs))) q=some (.lst us):=fun q us hq=>by
    rw[Zi fun e=>by rw[e,eB _ _ h2]at hq;cases hq];exact hq
   intro k v hv;by_cases hk:k<vs.length
   .rw[Y6 hk]at hv;obtain⟨q,zs,g1,g2,g3⟩:=kH k v hv;exact⟨q,zs,g1,kp _ _ (eB _ _ g2),g3⟩
   .rw[YZ (by lia)]at hv;have W0:k=vs.length:=by
     rcases Nat.lt_or_ge vs.length k with h|h
     .rw[show k-vs.length=(k-vs.length-1)+1 by lia]at hv;cases hv
     .lia
    subst W0;rw[uO]at hv;cases hv;refine⟨l,_,rfl,kp _ _ hB,fun r' cO=>?_⟩;rw[eZ,hr]at cO;cases cO;rfl
 rintro ρ A2 ⟨vs,aF,x3,x4,x5,rfl,e2,h2,eZ,kH⟩;rw[hlen,YV]at h2;rw[hlen,Nat.min_self]at eZ;walk_at "d";refine⟨ep,_,e2 _ _ hA,by rw[hlen];lia,by rw[hlen];lia,?_⟩;rw[hlen,show((ns.length:Int)).toNat=ns.length by lia];obtain⟨le,hle⟩:∃le:Str->Str->Prop,le=fun z y=>∃(k:Nat)(r:Rl),ns[k]? = some z/\rs[k]? = some r/\y∈r.lean e:=⟨_,rfl⟩;have Hb:∀z∈ns,∀y,le z y->y∈ns:=fun z _ y hy=>by
  rw[hle]at hy;obtain⟨k,r,_,h2,h3⟩:=hy;exact(bV r (Yi h2)).2 y (Rl.eE h3)
 have Hr:(ns.zip vs).map (·.1)=ns:=lx eZ.symm;have W2:∀ {B:aw} {d_ bJ:Nat} {k1 k2:List (Str×U)} {R:Nat->List Str->Prop},B p=some (dS P w d_ k1)->fF B vs R->fF (af B p (dS P w bJ k2)) vs R:=fun hb h=>h.kp fun q us hq=>by
  rw[Zi fun e=>by rw[e,hb]at hq;cases hq];exact hq
 refine sJ (n:=ns.length) (fun t ρ A2=>∃(k':List (Str×U))(aF:Nat)(x3 x4 x5:Option U)(rk:Str->Nat)(n:Nat),ρ=[some (.ref d),some (.ref d2),some (.ref p),x3,x4,x5]/\Ext A A2/\A2 p=some (dS P w aF k')/\k'.Sublist (ns.zip vs)/\(fF A2 vs fun k zs=>∀r,rs[k]? = some r->zs=r.lean e)/\(∀z∈ns,z∉k'.map (·.1)->rk z<n/\∀y,le z y->y∉k'.map (·.1)/\rk y<rk z)/\((∀z∈k'.map (·.1),∃y∈k'.map (·.1),le z y)\/k'.length+t<=ns.length)) ⟨ns.zip vs,aF,_,_,_,fun _=>0,0,rfl,e2,h2,List.Sublist.refl _,kH,fun z hz hn=>absurd (by rw[Hr];exact hz) hn,.inr (by rw[List.length_zip];lia)⟩ ?_ ?_
 .rintro t ρ A3 ht ⟨k',d_,x3,x4,x5,rk,n,rfl,e3,h3,vZ,zc,jQ,jq⟩;have jg:(k'.map (·.1)).Nodup:=(vZ.map (·.1)).nodup (by rw[Hr];exact cw);have iQ:k'.length<=ns.length:=by have:=vZ.length_le;rw[List.length_zip]at this;lia
  walk_at "d";refine⟨d_,k',h3,fun l hl=>?_⟩;rw[show k'.map fK=(k'.map (·.1)).map U.str from by rw[jk];rfl];have bA:p≠l:=dN h3 hl;have cE:=iO e3 hl;have e4:=e3.trans (Ext.new hl (o:=.lst ((k'.map (·.1)).map U.str)));have h4:=Ext.new hl (o:=.lst ((k'.map (·.1)).map U.str)) _ _ h3;have zd:=zc.ext (Ext.new hl (o:=.lst ((k'.map (·.1)).map U.str)));have l4:af A3 l (.lst ((k'.map (·.1)).map U.str)) l=some (.lst ((k'.map (·.1)).map U.str)):=Zb;generalize af A3 l (.lst ((k'.map (·.1)).map U.str))=A4 at e4 h4 zd l4 ⊢;walk_at "d";refine⟨⟨_,l4⟩,?_⟩;refine nK ((k'.map (·.1)).map U.str) (fun j ρ A5=>∃(kj:List (Str×U))(aF:Nat)(x3:Option U)(rk:Str->Nat)(n:Nat),ρ=[some (.ref d),some (.ref d2),some (.ref p),x3,x4,some (.int (0+(t:Int)))]/\Ext A A5/\A5 l=some (.lst ((k'.map (·.1)).map U.str))/\A5 p=some (dS P w aF kj)/\kj.Sublist k'/\(fF A5 vs fun k zs=>∀r,rs[k]? = some r->zs=r.lean e)/\(∀z∈ns,z∉kj.map (·.1)->rk z<n/\∀y,le z y->y∉kj.map (·.1)/\rk y<rk z)/\(∀(i:Nat) z,j<=i->(k'.map (·.1))[i]? = some z->z∈kj.map (·.1))/\((∀z∈k'.map (·.1),∃y∈k'.map (·.1),le z y)->kj=k')/\(kj=k'/\(∀z∈(k'.map (·.1)).take j,∃y∈k'.map (·.1),le z y)\/kj.length+1<=k'.length)) ⟨k',d_,_,rk,n,rfl,e4,l4,h4,List.Sublist.refl _,zd,jQ,(fun i z _ h=>Yi h),(fun _=>rfl),.inl ⟨rfl,fun z h=>nomatch h⟩⟩ (fun j ρ A5 _ hq=>by obtain⟨_,_,_,_,_,_,_,h,_⟩:=hq;exact h) ?_ ?_
  .rintro j u ρ A5 hu ⟨kj,cP,x3,rk,n,rfl,e5,l5,h5,v5,m3,pV,k_,pW,uA⟩;obtain⟨z,hz,rfl⟩:=Z0 hu;have qU:=k_ j z (Yk _) hz;obtain⟨v,hv⟩:=zB.mp (vQ qU);obtain⟨i,hi⟩:=List.getElem?_of_mem (vZ.subset (v5.subset (O4 hv)));obtain⟨Hs,W3⟩:=List.getElem?_zip_eq_some.mp hi;obtain⟨r,hr⟩:∃r,rs[i]? = some r:=⟨_,Yh (by rw[dC];exact(Yg.mp Hs).1)⟩;obtain⟨q5,zs,rfl,v8,j9⟩:=m3 i v W3;have j9:=j9 r hr;subst j9;have qW:=r.bp (e:=e);have m4:=bV r (Yi hr);have ze:∀y,le z y↔y∈r.lean e:=fun y=>by
    rw[hle];constructor
    .rintro⟨k,r',a,b,c⟩;have:=Z7 cw a Hs;subst this;rw[hr]at b;cases b;exact c
    .exact fun h=>⟨i,r,Hs,hr,h⟩
   walk_at "d";refine mE (!((r.lean e).map fun y=>(kj.lookup y).isSome).any id) (fun B hB=>?_) fun B eB=>?_
   .walk_at "d";refine⟨cP,kj,_,h5,hv,?_⟩;walk_at "d";refine⟨⟨_,v8⟩,fun l6 OQ=>?_⟩;walk_at "c";refine yw ((r.lean e).map U.str) (fun _=>true) (fun k=>.bl (kj.lookup ((r.lean e)[k]?.getD ("":Str))).isSome) (fun τ=>∃x,τ=[x,some (.ref p)]) ⟨_,rfl⟩ OQ (by rw[Yc];lia) (fun k A2 _ e6=>⟨_,e6 _ _ v8,rfl⟩) ?_ ?_
    .rintro k u τ A6 hu ⟨x,rfl⟩ e6 Cy Cn hy _;obtain⟨y,pQ,rfl⟩:=Z0 hu;walk_at "d";have:=hy rfl [some (.str y),some (.ref p)] A6 ⟨_,rfl⟩ (Ext.refl _);rw[pQ,Option.getD_some]at this;exact gI trivial ⟨cP,kj,e6 _ _ h5,this⟩
    intro B6 e6 Hd;have hW:((List.range ((r.lean e).map U.str).length).filter fun _=>true).map (fun k=>U.bl (kj.lookup ((r.lean e)[k]?.getD ("":Str))).isSome)=((r.lean e).map fun y=>(kj.lookup y).isSome).map U.bl:=by
     rw[zF.mpr fun _ _=>rfl,Yc,jk];exact Gf (fun y=>U.bl (kj.lookup y).isSome) (r.lean e) ("":Str)
    rw[hW];walk_at "d";exact⟨_,Zb,hB _ (e6.trans (Ext.new Hd))⟩
   have zf:((r.lean e).map fun y=>(kj.lookup y).isSome).any id=true↔∃y∈kj.map (·.1),le z y:=by
    rw[List.any_map,List.any_eq_true];constructor
    .rintro⟨y,h1,h2⟩;refine⟨y,Classical.byContradiction fun hn=>?_,(ze y).mpr h1⟩;have h2:(kj.lookup y).isSome=true:=h2;rw[BD hn]at h2;cases h2
    .rintro⟨y,h1,h2⟩;exact⟨y,(ze y).mp h2,vQ h1⟩
   by_cases hb:((r.lean e).map fun y=>(kj.lookup y).isSome).any id=true
   .refine Zm (by rw[hb];rfl) ?_;walk_at "d";refine⟨kj,cP,_,rk,n,rfl,e5.trans eB,eB _ _ l5,eB _ _ h5,v5,m3.ext eB,pV,fun i z' h=>k_ i z' (by lia),pW,?_⟩;rcases uA with⟨rfl,h⟩|h
    .refine .inl ⟨rfl,fun x hx=>?_⟩;rcases iE hz hx with hx|rfl
     .exact h x hx
     .exact zf.mp hb
    .exact .inr h
   .refine ZH (by rw[Bool.not_eq_true]at hb;rw[hb];rfl) ?_;have h0:∀y∈kj.map (·.1),¬le z y:=fun y hy hl=>hb (zf.mpr ⟨y,hy,hl⟩);obtain⟨mY,uv⟩:=WW Hb pV qU h0 (fun x=>O5 (z:=z) (kus:=kj));have bq:=WX qU;have yS:=v5.length_le;walk_at "d";refine⟨p,cP,kj,rfl,eB _ _ h5,z,cP,kj,_,rfl,eB _ _ h5,hv,fun pS=>⟨jI z kj,pS,_,mY,n+1,rfl,jP (e5.trans eB) hp,by rw[Zi (Ne.symm bA)];exact eB _ _ l5,Zb,List.filter_sublist.trans v5,W2 (eB _ _ h5) (m3.ext eB),uv,fun i z' hi fq=>O5.mpr ⟨k_ i z' (by lia) fq,fun e=>?_⟩,fun hs=>?_,.inr (by lia)⟩⟩
    .rw[e]at fq;have:=Z7 jg fq hz;lia
    .have hk:=pW hs;subst hk;obtain⟨y,hy,hl⟩:=hs z qU;exact absurd hl (h0 y hy)
  .rintro ρ A5 ⟨kj,cP,x3,rk,n,rfl,e5,l5,h5,v5,m3,pV,k_,pW,uA⟩;walk_at "d";refine⟨kj,cP,_,_,_,rk,n,rfl,e5,h5,v5.trans vZ,m3,pV,?_⟩;rcases uA with⟨rfl,h⟩|h
   .refine .inl ?_;rw[Yc,YV]at h;exact h
   .rcases jq with hs|bq
    .have hk:=pW hs;rw[hk]at h;lia
    .exact .inr (by lia)
 rintro ρ A3 ⟨k',d_,x3,x4,x5,rk,n,rfl,e3,h3,vZ,zc,jQ,jq⟩;walk_at "d";refine⟨d_,k',h3,fg (q _ _ e3 (fun hb=>?_) fun hb=>?_)⟩
 .have hk:k'=[]:=wt.mp (by have:=of_decide_eq_false hb;lia);subst hk;refine⟨rk,fun k z r hz hr y hy=>((jQ z (Yi hz) (fun h=>nomatch h)).2 y ?_).2⟩;rw[hle];exact⟨k,r,hz,hr,hy⟩
 .have hb:=lG hb;have hs:∀z∈k'.map (·.1),∃y∈k'.map (·.1),le z y:=by
   rcases jq with h|h
   .exact h
   .lia
  refine⟨k'.map (·.1),fun h=>?_,fun z hz=>by rw[<- Hr];exact(vZ.map (·.1)).subset hz,fun k z r hz hr hm=>?_⟩
  .rw[List.map_eq_nil_iff]at h;rw[h]at hb;cases hb
  .obtain⟨y,hy,hl⟩:=hs z hm;rw[hle]at hl;obtain⟨k2,r2,a,b,c⟩:=hl;have:=Z7 cw a hz;subst this;rw[hr]at b;cases b;exact⟨y,hy,c⟩
end
def oa(ns:List Str)(rs:List Rl):Str->On:=lV (jf ns rs) ns.length
def BZ(ns:List Str)(rs:List Rl)(z y:Str):Prop:=∃(k:Nat)(r:Rl),ns[k]? = some z/\rs[k]? = some r/\y∈r.lean (oa ns rs)
def Ht(ns:List Str)(rs:List Rl):Prop:=∀r∈rs,r.hp (oa ns rs)=false
def Rk(ns:List Str)(rs:List Rl):Prop:=∃rk:Str->Nat,∀z∈ns,∀y,BZ ns rs z y->rk y<rk z
def v9(ns:List Str)(rs:List Rl)(z:Str):Prop:=∃(k:Nat)(r:Rl),ns[k]? = some z/\rs[k]? = some r/\r.hp (oa ns rs)=true/\∀(j:Nat) r',j<k->rs[j]? = some r'->r'.hp (oa ns rs)=false
def Due(ns:List Str)(rs:List Rl):Nat->Str->Prop
 | 0,z=>qS ns z
 | 1,z=>ns.Nodup/\qT ns rs z
 | 2,z=>ns.Nodup/\Kn ns rs/\v9 ns rs z
 | 3,z=>ns.Nodup/\Kn ns rs/\Ht ns rs/\¬Rk ns rs/\z=""
 | _,z=>ns.Nodup/\Kn ns rs/\Ht ns rs/\Rk ns rs/\z=""
def kK:Nat->Str
 | 0=>"twice"
 | 1=>"class"
 | 2=>"hollow"
 | 3=>"round"
 | _=>"sound"
theorem qS.uniq(h:qS ns z)(k:qS ns y):z=y:=by
 obtain⟨i,h1,h2,h3⟩:=h;obtain⟨j,k1,k2,k3⟩:=k;have go:∀ {i j:Nat} {z:Str},ns[i]? = some z->z∈ns.take i->(ns.take j).Nodup->¬i<j:=fun {i j z} a b c bq=>by
  obtain⟨m,hm,e⟩:=p_.mp b;rw[YD]at hm;rw[List.getElem_take]at e;have:=Z7 c (i:=m) (j:=i) (x:=z) (by rw[Ci (by lia),Yh (by lia),e]) (by rw[Ci bq];exact a);lia
 have:i=j:=Nat.le_antisymm (uM (go k1 k2 h3)) (uM (go h1 h2 k3));subst this;rw[h1]at k1;exact YA k1
def qT.uniq(h:qT ns rs z)(k:qT ns rs y):z=y:=by
 obtain⟨i,r,h1,h2,h3⟩:=h;obtain⟨j,r',k1,k2,k3⟩:=k;have:i=j:=by
  rcases Nat.lt_trichotomy i j with h|h|h
  .exact absurd (k2 i r h h1 z h3.m) h3.n
  .exact h
  .exact absurd (h2 j r' h k1 y k3.m) k3.n
 subst this;rw[h1]at k1;cases k1;have a:=h3.f y k3.m k3.n;have b:=k3.f z h3.m h3.n;rw[PyProof.Rows.ltCps_eq,zC]at a b;exact Str.o7 (List.le_antisymm (List.not_lt.mp a) (List.not_lt.mp b))
def v9.uniq(h:v9 ns rs z)(k:v9 ns rs y):z=y:=by
 obtain⟨i,r,h0,h1,h2,h3⟩:=h;obtain⟨j,r',k0,k1,k2,k3⟩:=k;have:i=j:=by
  rcases Nat.lt_trichotomy i j with h|h|h
  .rw[k3 i r h h1]at h2;cases h2
  .exact h
  .rw[h3 j r' h k1]at k2;cases k2
 subst this;rw[h0]at k0;exact YA k0
def qS.no(h:qS ns z)(nd:ns.Nodup):False:=by
 obtain⟨i,h1,h2,_⟩:=h;obtain⟨m,hm,e⟩:=p_.mp h2;rw[YD]at hm;rw[List.getElem_take]at e;have:=Z7 nd (i:=m) (j:=i) (x:=z) (by rw[Yh (by lia),e]) h1;lia
def qT.no(h:qT ns rs z)(kn:Kn ns rs):False:=by
 obtain⟨i,r,h1,_,h3⟩:=h;exact h3.n (kn r (Yi h1) z h3.m)
def v9.no(h:v9 ns rs z)(n:Ht ns rs):False:=by
 obtain⟨i,r,_,h1,h2,_⟩:=h;rw[n r (Yi h1)]at h2;cases h2
theorem B0(hi:i<5)(hj:j<5)(h:Due ns rs i z)(k:Due ns rs j y):i=j/\z=y:=by
 rcases i with _|_|_|_|_|i;all_goals rcases j with _|_|_|_|_|j
 all_goals first
  | lia
  | exact⟨rfl,h.uniq k⟩
  | exact⟨rfl,h.2.uniq k.2⟩
  | exact⟨rfl,h.2.2.uniq k.2.2⟩
  | exact⟨rfl,h.2.2.2.2.trans k.2.2.2.2.symm⟩
  | exact(h.no k.1).elim
  | exact(k.no h.1).elim
  | exact(h.2.no k.2.1).elim
  | exact(k.2.no h.2.1).elim
  | exact(h.2.2.no k.2.2.1).elim
  | exact(k.2.2.no h.2.2.1).elim
  | exact(h.2.2.2.1 k.2.2.2.1).elim
  | exact(k.2.2.2.1 h.2.2.2.1).elim
theorem W4{ns:List Str}{rs:List Rl}{rk:Str->Nat}(dC:rs.length=ns.length)(h0:L≠[])(hn:∀z∈L,z∈ns)(hL:∀(k:Nat) z r,ns[k]? = some z->rs[k]? = some r->z∈L->∃y∈L,y∈r.lean e)(hr:∀(k:Nat) z r,ns[k]? = some z->rs[k]? = some r->∀y∈r.lean e,rk y<rk z):False:=by
 have go:∀(n:Nat) z,z∈L->rk z<=n->False:=by
  intro n;induction n with
  | zero =>
   intro z hz hle;obtain⟨k,hk⟩:=List.getElem?_of_mem (hn z hz);obtain⟨r,cO⟩:∃r,rs[k]? = some r:=⟨_,Yh (by rw[dC];exact(Yg.mp hk).1)⟩;obtain⟨y,hy,kI⟩:=hL k z r hk cO hz;have:=hr k z r hk cO y kI;lia
  | succ n ih =>
   intro z hz hle;obtain⟨k,hk⟩:=List.getElem?_of_mem (hn z hz);obtain⟨r,cO⟩:∃r,rs[k]? = some r:=⟨_,Yh (by rw[dC];exact(Yg.mp hk).1)⟩;obtain⟨y,hy,kI⟩:=hL k z r hk cO hz;have:=hr k z r hk cO y kI;exact ih y hy (by lia)
 cases L with
 | nil=>exact h0 rfl
 | cons z L=>exact go _ z (.head _) (Yk _)
def W5(P:Program)(w:World):bP:=fun us A Q=>∃(l:Addr)(ns:List Str)(rs:List Rl),us=[.ref l]/\A l=some (.lst ((ns.zip rs).map fun p=>.tup [.str p.1,p.2.toU]))/\rs.length=ns.length/\ns.length<=60/\(∀r∈rs,r.size<=60/\r.wd=true)/\∀i z,i<5->Due ns rs i z->∀B,Ext A B->Q (.tup [.str (kK i),.str z]) B
def v_(ns:List Str)(xs:List Rl)(k:Nat):Bool:=match xs[k]? with
 | some (.named v)=>!decide (v∈ns)
 | _=>false
def wb(xs:List Rl)(k:Nat):Str:=match xs[k]? with
 | some (.named v)=>v
 | _=>""
def pX(ns:List Str)(xs:List Rl):List Str:=((List.range xs.length).filter (v_ ns xs)).map (wb xs)
def ee:z∈pX ns xs↔Rl.named z∈xs/\z∉ns:=by
 unfold pX;rw[YL];constructor
 .rintro⟨k,hk,rfl⟩;rw[List.mem_filter]at hk;have h2:=hk.2;unfold v_ at h2;unfold wb;split at h2
  .rename_i v hv;exact⟨Yi hv,by simpa using h2⟩
  .cases h2
 .rintro⟨h1,h2⟩;obtain⟨k,hk⟩:=List.getElem?_of_mem h1;refine⟨k,List.mem_filter.mpr ⟨oj.mpr (Yg.mp hk).1,?_⟩,?_⟩
  .unfold v_;rw[hk];simpa using h2
  .unfold wb;rw[hk]
def W6:(pX ns xs).length<=xs.length:=by
 unfold pX;rw[Yc];exact YB (List.length_filter_le ..) (by simp)
def uk.W7(hp:(z::zs).Perm (pX ns r.subs))(hs:PyProof.Rows.sortedS (z::zs)=true):uk ns r z:=by
 have h0:=ee.mp (hp.mem_iff.mp (.head _));refine⟨Rl.dc.mpr h0.1,h0.2,fun y hy hn=>?_⟩;rcases Yp.mp (hp.mem_iff.mpr (ee.mpr ⟨Rl.dc.mp hy,hn⟩))with rfl|h
 .rw[PyProof.Rows.ltCps_eq];simp[List.lt_irrefl]
 .exact F1 _ z hs y h
def W8(R:Bool->Prop)(h1:∀B:Bool->aw->Prop,(∀k A',R k->Ext A A'->B k A')->c ρ A B)(h2:∀k A',R k->Ext A A'->if k=true then t D ρ A' else e D ρ A'):nN c t e D ρ A:=h1 _ h2
section
include T
theorem W9:T.t_.Ok aP 66 (aW K (W5 P w)):=by
 have mZ:=O2 T 61;have uB:=OY T;have Hu:=WU T;have Hv:=WY T;apply T.t_.bG;walk_at "f";exact fun S hr=>⟨_,(Zc (Zq (i:=1) S.nd rfl (Or.inr rfl) sN)
   (Zc (Z3 YG rfl (Z5 (pv 0)) (oE (n:=2) rfl (ZD (Zl (i:=2) S.nd rfl (Or.inl rfl)) (ZD (Zl (i:=3) S.nd rfl (Or.inl rfl)) jX)))
   (Zc (ZG (Zj A_ (pv 2) (pv 1) (by with_unfolding_all rfl)) (Ze (Zp (Zz (Za Zk (Za (pv 2) Zd))))) Zo)
   (Ze (nq (pv 3) (nk (pv 1) (pv 2) sP)))))
   (Zc (Z3 YG rfl (Mg (pv 1)) (Zl (i:=3) S.nd rfl (Or.inl rfl))
   (Zc (Zq (i:=4) S.nd rfl (Or.inl rfl) (ZX Vd T.c_ (Za (nA (ts:=["_law_one"]) (frs':=[("_law_rules_here",1)]) (cl:=_) rfl .z (Z5 (T.i9.pc mZ hr (Za (pv 3) Zd))) (fun _ _ _ _=>Zl (i:=0) (show List.Nodup (["_law_one","_law_rules_here"]:List Str)from by decide +kernel) rfl (Or.inl rfl) (.inr rfl)) (fun _ _ _ _=>by exact(u6 ((ni (Zj (Ky K rfl hr) (Zt (vc K rfl) (pv 0) Zg (fun _ _=>rfl)) Zk (Zx _)) (oC (Zj (TQ P w rfl rfl) (Zt (vc K rfl) (pv 0) Zg (fun _ _=>rfl)) (pv 1) (by with_unfolding_all rfl))))).pt)) (fun _ _ _ _=>by exact(Zt (vc K rfl) (pv 0) Zg (fun _ _=>rfl)))) Zd)))
   (Ze (ZG (Zj (sh hr) (pv 4) (ZJ Zd) (Zx _)) (Ze (Zp (Zz (Za Zk (Za (Zt ZW (pv 4) Zg (fun _ _=>rfl)) Zd))))) Zo))))
   (Zc (Zq (i:=5) S.nd rfl (Or.inl rfl) (T.pN.pc uB hr (Za (pv 1) Zd)))
   (Zc (Z3 YG rfl (vt (pv 1)) (oE (n:=2) rfl (ZD (Zl (i:=2) S.nd rfl (Or.inl rfl)) (ZD (Zl (i:=3) S.nd rfl (Or.inl rfl)) jX)))
   (Ze (ZG (gQ (T.tZ.pc Hu hr (Za (pv 3) (Za (pv 5) Zd)))) (Ze (Zp (Zz (Za Zk (Za (pv 2) Zd))))) Zo)))
   (Zc (ZG (gQ (T.t9.pc Hv hr (Za (pv 1) (Za (pv 5) Zd)))) (Ze (Zp (Zz (Za Zk (Za Zk Zd))))) Zo)
   (Ze (Zp (Zz (Za Zk (Za Zk Zd))))))))))),by walk_at "abh"⟩
 rintro us A Q ⟨l,ns,rs,rfl,hl,dC,dY,bV,q⟩;walk_at "o";intro d hd;have uC:l≠d:=dN hl hd;have um:(ns.zip rs).length=ns.length:=by rw[List.length_zip];lia
 walk_at "d";refine⟨⟨_,by rw[Zi uC];exact hl⟩,?_⟩;have yT:∀k,((ns.zip (rs.map Rl.toU)).take k).map (·.1)=ns.take k:=fun k=>by rw[wD,lx (by rw[Yc];lia)]
 refine nK ((ns.zip rs).map fun p=>.tup [.str p.1,p.2.toU]) (fun k ρ A2=>∃(ep:Nat)(x2 x3 x4 x5:Option U),ρ=[some (.ref l),some (.ref d),x2,x3,x4,x5]/\A2=af A d (dS P w ep ((ns.zip (rs.map Rl.toU)).take k))/\(ns.take k).Nodup) ⟨0,_,_,_,_,rfl,rfl,by simp⟩ (fun k ρ A2 _ hq=>by obtain⟨_,_,_,_,_,_,e,_⟩:=hq;rw[e,Zi uC];exact hl) ?_ ?_
 .rintro k u ρ A2 hu ⟨ep,x2,x3,x4,x5,rfl,rfl,wc⟩;obtain⟨p,hp,rfl⟩:=Z0 hu;obtain⟨hz,hr⟩:=List.getElem?_zip_eq_some.mp hp;have zg:(ns.zip (rs.map Rl.toU))[k]? = some (p.1,p.2.toU):=List.getElem?_zip_eq_some.mpr ⟨hz,by rw[Yj,hr];rfl⟩;have hk:=(Yg.mp zg).1;walk_at "d";refine⟨rfl,nO (decide (p.1∈ns.take k)) (fun B hB=>?_) ?_⟩
  .walk_at "d";refine⟨ep,_,Zb,?_⟩;rw[BL,yT];exact hB
  by_cases iD:p.1∈ns.take k
  .refine ZH (YC iD) ?_;walk_at "d";exact⟨bI,fg (q 0 p.1 (by decide) ⟨k,hz,iD,wc⟩ _ (Ext.new hd))⟩
  refine Zm (Yu iD) ?_;walk_at "d";refine⟨d,p.1,ep,_,rfl,rfl,Zb,?_,fun aF=>⟨aF,_,_,_,_,rfl,?_,OH wc hz iD⟩⟩
  .rw[YD,List.length_zip,Y2];lia
  .rw[ZF,lu (by rw[yT];exact iD),List.take_succ_eq_append_getElem hk,(Yg.mp zg).2]
 rintro ρ A2 ⟨ep,x2,x3,x4,x5,rfl,rfl,cw⟩;rw[Yc,um,YV]at cw;rw[Yc,m8 (by rw[List.length_zip,List.length_zip,Yc];exact Yk _)];have e1:=Ext.new hd (o:=dS P w ep (ns.zip (rs.map Rl.toU)));have d1:af A d (dS P w ep (ns.zip (rs.map Rl.toU))) d=some (dS P w ep (ns.zip (rs.map Rl.toU))):=Zb;generalize af A d (dS P w ep (ns.zip (rs.map Rl.toU)))=A1 at e1 d1 ⊢;walk_at "d";refine⟨ep,_,d1,?_⟩;have hlen:(ns.zip (rs.map Rl.toU)).length=ns.length:=by rw[List.length_zip,Yc];lia
 refine vw (ns.zip (rs.map Rl.toU)) (fun k ρ A2=>∃(x2 x3 x4 x5:Option U),ρ=[some (.ref l),some (.ref d),x2,x3,x4,x5]/\Ext A1 A2/\∀(j:Nat) r',j<k->rs[j]? = some r'->∀y∈r'.bb,y∈ns) ⟨_,_,_,_,rfl,Ext.refl _,fun j _ h=>absurd h (rC j)⟩ (fun k ρ A2 _ hq=>by obtain⟨_,_,_,_,_,e,_⟩:=hq;exact e _ _ d1) ?_ ?_
 .rintro k p' ρ A2 j6 ⟨x2,x3,x4,x5,rfl,e2,jg⟩;obtain⟨z,r,hz,hr,e3⟩:=BY (f:=fun x=>x.2) (by rw[Yj,j6];rfl);have e3:p'.2=r.toU:=e3;rw[e3];have m4:=bV r (Yi hr);have xl:=pT r;have pw:=r.eU;walk_at "d";refine⟨r,rfl,by lia,m4.1,fun B l2 eB dj d9=>?_⟩;walk_at "d";refine⟨⟨_,d9⟩,fun l3 qR=>?_⟩;walk_at "c";refine yw (r.subs.map Rl.toU) (v_ ns r.subs) (fun k=>.str (wb r.subs k)) (fun τ=>∃x,τ=[x,some (.ref d)]) ⟨_,rfl⟩ qR (by rw[Yc];lia) (fun k A2 _ e4=>⟨_,e4 _ _ d9,rfl⟩) ?_ ?_
  .rintro m u τ A6 hu ⟨x,rfl⟩ e6 Cy Cn hy hn;obtain⟨s,hs,rfl⟩:=Z0 hu;unfold v_ at hy hn;unfold wb at hy;simp only[hs]at hy hn;cases s with
   | named v =>
    replace hy:=fun h=>hy h [some (Rl.named v).toU,some (.ref d)] A6 ⟨_,rfl⟩ (Ext.refl _);replace hn:=fun h=>hn h [some (Rl.named v).toU,some (.ref d)] A6 ⟨_,rfl⟩ (Ext.refl _);unfold Rl.toU at hy hn ⊢;walk_at "g";refine ZH rfl ⟨ep,_,(e2.trans (eB.trans e6)) _ _ d1,?_⟩;rw[BL,lx (by rw[Yc];lia)];cases hv:decide (v∈ns)with
    | true=>exact Zm rfl (hn (by show(!decide (v∈ns))=false;rw[hv];rfl))
    | false=>exact ZH rfl (hy (by show(!decide (v∈ns))=true;rw[hv];rfl))
   | nothing=>have hn:=hn rfl [some Rl.nothing.toU,some (.ref d)] A6 ⟨_,rfl⟩ (Ext.refl _);unfold Rl.toU at hn ⊢;walk_at "g";exact Zm (by decide +kernel) (Zm rfl hn)
   | bead c=>have hn:=hn rfl [some (Rl.bead c).toU,some (.ref d)] A6 ⟨_,rfl⟩ (Ext.refl _);unfold Rl.toU at hn ⊢;walk_at "g";exact Zm (by decide +kernel) (Zm rfl hn)
   | or a b=>have hn:=hn rfl [some (Rl.or a b).toU,some (.ref d)] A6 ⟨_,rfl⟩ (Ext.refl _);unfold Rl.toU at hn ⊢;walk_at "g";exact Zm (by decide +kernel) (Zm rfl hn)
   | bh a b=>have hn:=hn rfl [some (Rl.bh a b).toU,some (.ref d)] A6 ⟨_,rfl⟩ (Ext.refl _);unfold Rl.toU at hn ⊢;walk_at "g";exact Zm (by decide +kernel) (Zm rfl hn)
   | hold i a=>have hn:=hn rfl [some (Rl.hold i a).toU,some (.ref d)] A6 ⟨_,rfl⟩ (Ext.refl _);unfold Rl.toU at hn ⊢;walk_at "g";exact Zm (Yu (xW i (by decide +kernel))) (Zm rfl hn)
  intro B5 e5 W_;rw[Yc,show((List.range r.subs.length).filter (v_ ns r.subs)).map (fun k=>U.str (wb r.subs k))=(pX ns r.subs).map U.str from by unfold pX;rw[jk];rfl];have hul:=W6 (ns:=ns) (xs:=r.subs);walk_at "d";refine⟨_,Zb,by lia,fun D zs hD kE n9=>?_⟩;have W':∀z∈zs,PyData.strOk z=true:=fun z hz=>vp (Rl.jd m4.2 (Rl.dc.mpr (ee.mp (kE.mem_iff.mp hz)).1));have e7:=(eB.trans (e5.trans (Ext.new W_))).trans (Ext.new hD (o:=.lst (zs.map U.str)));have d7:af (af B5 l3 (.lst ((pX ns r.subs).map U.str))) D (.lst (zs.map U.str)) D=some (.lst (zs.map U.str)):=Zb;generalize af (af B5 l3 (.lst ((pX ns r.subs).map U.str))) D (.lst (zs.map U.str))=A7 at e7 d7 ⊢;refine mE (!decide (zs=[])) (fun C hC=>?_) fun A8 e8=>?_
  .walk_at "d";exact⟨by decide,fun l4 yY=>BS (zs:=[]) W' (fun z h=>nomatch h) (Ext.new yY _ _ d7) Zb ⟨_,rfl,hC _ (Ext.new yY)⟩⟩
  cases zs with
  | cons z zs =>
   refine ZH rfl ?_;walk_at "d";exact⟨_,_,e8 _ _ d7,ZQ (j:=0) rfl,bI,fg (q 1 z (by decide) ⟨cw,k,r,hr,jg,uk.W7 kE n9⟩ _ (((e1.trans e2).trans e7).trans e8))⟩
  | nil =>
   refine Zm rfl ?_;walk_at "d";refine⟨_,_,_,_,rfl,(e2.trans e7).trans e8,fun j r' bq cO y hy=>?_⟩;rcases Nat.lt_succ_iff_lt_or_eq.mp bq with h|rfl
   .exact jg j r' h cO y hy
   .rw[hr]at cO;cases cO;exact Classical.byContradiction fun GW=>nomatch kE.mem_iff.mpr (ee.mpr ⟨Rl.dc.mp hy,GW⟩)
 rintro ρ A2 ⟨x2,x3,x4,x5,rfl,e2,jg⟩;have kn:Kn ns rs:=fun r hr=>by
  obtain⟨j,mU⟩:=List.getElem?_of_mem hr;exact jg j r (by rw[hlen,<- dC];exact(Yg.mp mU).1) mU
 have gC:∀r∈rs,r.size<=60/\∀y∈r.bb,y∈ns:=fun r hr=>⟨(bV r hr).1,kn r hr⟩;walk_at "d";refine⟨d,ns,rs,ep,rfl,e2 _ _ d1,dC,dY,cw,fun r hr=>(bV r hr).1,fun d' aF kus fb hE=>?_⟩;have e3:=e2.trans (Ext.new fb (o:=dS P w aF kus));have d3:af A2 d' (dS P w aF kus) d'=some (dS P w aF kus):=Zb;generalize af A2 d' (dS P w aF kus)=A3 at e3 d3 ⊢;walk_at "d";refine⟨ep,_,e3 _ _ d1,?_⟩;refine vw (ns.zip (rs.map Rl.toU)) (fun k ρ A4=>∃(x2 x3 x4:Option U),ρ=[some (.ref l),some (.ref d),x2,x3,x4,some (.ref d')]/\Ext A3 A4/\∀(j:Nat) r',j<k->rs[j]? = some r'->r'.hp (oa ns rs)=false) ⟨_,_,_,rfl,Ext.refl _,fun j _ h=>absurd h (rC j)⟩ (fun k ρ A4 _ hq=>by obtain⟨_,_,_,_,e,_⟩:=hq;exact e _ _ (e3 _ _ d1)) ?_ ?_
 .rintro k p' ρ A4 j6 ⟨x2,x3,x4,rfl,e4,hj⟩;obtain⟨z,r,hz,hr,e5⟩:=BY (f:=fI) (by rw[Yj,j6];rfl);rw[e5];unfold fI;walk_at "d";refine⟨rfl,mE (r.hp (oa ns rs)) (fun C hC=>?_) fun B eB=>?_⟩
  .walk_at "d";exact⟨r,d',aF,kus,_,rfl,(bV r (Yi hr)).1,e4 _ _ d3,hE,fun B1 e1=>⟨_,rfl,hC B1 e1⟩⟩
  cases hh:r.hp (oa ns rs)with
  | true =>
   refine ZH rfl ?_;walk_at "d";exact⟨bI,fg (q 2 z (by decide) ⟨cw,kn,k,r,hz,hr,hh,hj⟩ _ (e1.trans (e3.trans (e4.trans eB))))⟩
  | false =>
   refine Zm rfl ?_;walk_at "d";refine⟨_,_,_,rfl,e4.trans eB,fun j r' bq cO=>?_⟩;rcases Nat.lt_succ_iff_lt_or_eq.mp bq with h|rfl
   .exact hj j r' h cO
   .rw[hr]at cO;cases cO;exact hh
 rintro ρ A4 ⟨x2,x3,x4,rfl,e4,hj⟩;have oQ:∀r∈rs,r.hp (oa ns rs)=false:=fun r hr=>by
  obtain⟨j,mU⟩:=List.getElem?_of_mem hr;exact hj j r (by rw[hlen,<- dC];exact(Yg.mp mU).1) mU
 walk_at "d";have e5:=e1.trans (e3.trans e4);refine W8 (fun b=>(b=false->∃rk:Str->Nat,∀(k:Nat) z r,ns[k]? = some z->rs[k]? = some r->∀y∈r.lean (oa ns rs),rk y<rk z)/\(b=true->∃L:List Str,L≠[]/\(∀z∈L,z∈ns)/\∀(k:Nat) z r,ns[k]? = some z->rs[k]? = some r->z∈L->∃y∈L,y∈r.lean (oa ns rs))) (fun C hC=>?_) fun b A5 hb e6=>?_
 .walk_at "d";exact⟨d,d',ns,rs,ep,aF,kus,_,rfl,e4 _ _ (e3 _ _ d1),dC,dY,cw,gC,e4 _ _ d3,hE,fun B b eB h1 h2=>⟨_,rfl,hC b B ⟨h1,h2⟩ eB⟩⟩
 cases b with
 | true =>
  refine ZH rfl ?_;walk_at "d";obtain⟨L,h1,h2,h3⟩:=hb.2 rfl;exact⟨bI,fg (q 3 _ (by decide) ⟨cw,kn,oQ,fun⟨rk,jQ⟩=>W4 dC h1 h2 h3 fun k z r hz hr y hy=>jQ z (Yi hz) y ⟨k,r,hz,hr,hy⟩,rfl⟩ _ (e5.trans e6))⟩
 | false =>
  refine Zm rfl ?_;walk_at "d";obtain⟨rk,jQ⟩:=hb.1 rfl;exact⟨bI,fg (q 4 _ (by decide) ⟨cw,kn,oQ,⟨rk,fun z _ y ⟨k,r,hz,hr,hy⟩=>jQ k z r hz hr y hy⟩,rfl⟩ _ (e5.trans e6))⟩
end
def Xa(P:Program)(w:World):bP:=fun us A Q=>∃(lc l:Addr)(c:List Str)(ns:List Str)(rs:List Rl),us=[.ref lc,.ref l]/\A lc=some (.lst (c.map U.str))/\A l=some (.lst ((ns.zip rs).map fun p=>.tup [.str p.1,p.2.toU]))/\rs.length=ns.length/\ns.length<=60/\ns.Nodup/\(∀r∈rs,r.size<=60/\∀y∈r.bb,y∈ns)/\qY (BZ ns rs) c/\(∀z∈c,z∈ns)/\∀B,Ext A B->Q (.bl true) B
section
include T
theorem Xb:T.ua.Ok aP 67 (aW K (Xa P w)):=by
 have uB:=OY T;have kJ:=O0 T 60;apply T.ua.bG;walk_at "f";exact fun S hr=>⟨_,(Zc (Zq (i:=2) S.nd rfl (Or.inl rfl) sN)
   (Zc (Z3 YG rfl (Z5 (pv 1)) (oE (n:=2) rfl (ZD (Zl (i:=3) S.nd rfl (Or.inl rfl)) (ZD (Zl (i:=4) S.nd rfl (Or.inl rfl)) jX)))
   (Ze (nq (pv 4) (nk (pv 2) (pv 3) sP))))
   (Zc (Zq (i:=5) S.nd rfl (Or.inl rfl) (T.pN.pc uB hr (Za (pv 2) Zd)))
   (Zc (ZG ((uR (zV (gQ (ZX US T.aA (Za (pv 0) (Za (DI (T:="list") (by rfl) T.eP (by decide +kernel)) Zd))))) (uR (Zj (cM hr) (ZX iL T.a9 (Za (pv 0) Zd)) Zg (Zx _)) (wN (Zj (sh hr) (ZX Vl T.a9 (Za (yz (Nv rfl) T.jN (Za (pv 0) Zd)) Zd)) (ZX iL T.a9 (Za (pv 0) Zd)) (Zx _)))))).pt (Ze (Zp kS)) Zo)
   (Zc (Z3 YG rfl (ql rfl T.bE (Za (ZX iL T.a9 (Za (pv 0) Zd)) Zd)) (Zl (i:=6) S.nd rfl (Or.inl rfl))
   (Ze (ZG ((uR (Zj E8 (Zt ZW (pv 0) (Zy va (pv 6) Zg) (fun _ _=>rfl)) (pv 2) (by with_unfolding_all rfl)) (wN (Zj Kr (Zt ZW (pv 0) (pv 6) (fun _ _=>rfl)) (T.ir.pc kJ hr (Za (Zt sO (pv 2) (Zt ZW (pv 0) (Zy va (pv 6) Zg) (fun _ _=>rfl)) (fun _ _=>rfl)) (Za (pv 5) Zd))) (by with_unfolding_all rfl))))).pt (Ze (Zp kS)) Zo)))
   (Ze (Zp kS))))))),by walk_at "abh"⟩
 rintro us A Q ⟨lc,l,c,ns,rs,rfl,hc,hl,dC,dY,cw,bV,m5,vX,q⟩;walk_at "o";intro d hd;have uC:l≠d:=dN hl hd;walk_at "d";refine⟨⟨_,by rw[Zi uC];exact hl⟩,?_⟩;refine nK ((ns.zip rs).map fun p=>.tup [.str p.1,p.2.toU]) (fun k ρ A2=>∃(ep:Nat)(x3 x4 x5 x6:Option U),ρ=[some (.ref lc),some (.ref l),some (.ref d),x3,x4,x5,x6]/\A2=af A d (dS P w ep ((ns.zip (rs.map Rl.toU)).take k))) ⟨0,_,_,_,_,rfl,rfl⟩ (fun k ρ A2 _ hq=>by obtain⟨_,_,_,_,_,_,e⟩:=hq;rw[e,Zi uC];exact hl) ?_ ?_
 .rintro k u ρ A2 hu ⟨ep,x3,x4,x5,x6,rfl,rfl⟩;obtain⟨p,hp,rfl⟩:=Z0 hu;obtain⟨hz,hr⟩:=List.getElem?_zip_eq_some.mp hp;have zg:(ns.zip (rs.map Rl.toU))[k]? = some (p.1,p.2.toU):=List.getElem?_zip_eq_some.mpr ⟨hz,by rw[Yj,hr];rfl⟩;have hk:=(Yg.mp zg).1;have iD:p.1∉((ns.zip (rs.map Rl.toU)).take k).map (·.1):=by
   rw[wD,lx (by rw[Yc];lia)];intro hm;obtain⟨j,hj,e⟩:=p_.mp hm;rw[YD]at hj;rw[List.getElem_take]at e;have:=Z7 cw (i:=j) (j:=k) (x:=p.1) (by rw[Yh (by lia),e]) hz;lia
  walk_at "d";refine⟨rfl,d,p.1,ep,_,rfl,rfl,Zb,?_,fun aF=>⟨aF,_,_,_,_,rfl,?_⟩⟩
  .rw[YD,List.length_zip,Y2];lia
  .rw[ZF,lu iD,List.take_succ_eq_append_getElem hk,(Yg.mp zg).2]
 rintro ρ A2 ⟨ep,x3,x4,x5,x6,rfl,rfl⟩;rw[Yc,m8 (by rw[List.length_zip,List.length_zip,Yc];exact Yk _)];have e1:=Ext.new hd (o:=dS P w ep (ns.zip (rs.map Rl.toU)));have d1:af A d (dS P w ep (ns.zip (rs.map Rl.toU))) d=some (dS P w ep (ns.zip (rs.map Rl.toU))):=Zb;generalize af A d (dS P w ep (ns.zip (rs.map Rl.toU)))=A1 at e1 d1 ⊢;walk_at "d";refine⟨d,ns,rs,ep,rfl,d1,dC,dY,cw,fun r hr=>(bV r hr).1,fun d' aF kus fb hE=>?_⟩;have e3:=Ext.new fb (o:=dS P w aF kus);have d3:af A1 d' (dS P w aF kus) d'=some (dS P w aF kus):=Zb;generalize af A1 d' (dS P w aF kus)=A3 at e3 d3 ⊢;have c3:=e3 _ _ (e1 _ _ hc);have r3:=e3 _ _ d1;replace e3:=e1.trans e3;walk_at "d";have gK:0<c.length/\c.length<=60:=⟨List.length_pos_iff.mpr m5.ne,YB (Z2 m5.nd vX) dY⟩;refine mE false (fun C hC=>?_) fun A4 e4=>?_
 .walk_at "d";obtain⟨Hn,vY⟩:=F7 c c.length (Yk _);have pw:(ib c c.length).length=c.length:=(NI Hn m5.nd fun z=>by rw[vY,YV]).length_eq;refine⟨_,c3,Zm rfl ⟨_,c3,Zm (Yu ?_) ⟨c,c3,by show c.length+1<4096;lia,fun p hp=>⟨_,Zb,_,Ext.new hp _ _ c3,?_⟩⟩⟩⟩
  .rw[Yc];lia
  .rw[pw,Yc,YC rfl];exact hC _ (Ext.new hp)
 refine Zm rfl ?_;walk_at "d";refine⟨_,e4 _ _ c3,by rw[Yc];lia,by rw[Yc];lia,?_⟩;rw[Yc,show((c.length:Int)).toNat=c.length by lia];refine sJ (n:=c.length) (fun k ρ A5=>∃x6,ρ=[some (.ref lc),some (.ref l),some (.ref d),x3,x4,some (.ref d'),x6]/\Ext A4 A5) ⟨_,rfl,Ext.refl _⟩ ?_ ?_
 .rintro k ρ A5 hk ⟨x6,rfl,e5⟩;obtain⟨b,hb⟩:∃b,c[k]? = some b:=⟨_,Yh hk⟩;obtain⟨a,ha,Kl,sy⟩:∃a,a∈c/\BZ ns rs a b/\bX (c.map U.str) (0+(k:Int)-1)=some (.str a):=by
   rcases k with _|k
   .obtain⟨a,ha⟩:∃a,c[c.length-1]? = some a:=⟨_,Yh (by lia)⟩;refine⟨a,Yi ha,m5.la a b ha hb,?_⟩;show(iU (c.map U.str).length (-1)).bind _=_;unfold iU;rw[if_neg (by decide),Yc,if_pos (by lia),Option.bind_some,show((-1:Int)+(c.length:Int)).toNat=c.length-1 by lia,Yj,ha];rfl
   .obtain⟨a,ha⟩:∃a,c[k]? = some a:=⟨_,Yh (by lia)⟩;refine⟨a,Yi ha,m5.st k a b ha hb,?_⟩;rw[show(0:Int)+((k+1:Nat):Int)-1=(k:Int) by lia];exact ZQ (by rw[Yj,ha];rfl)
  have e6:=e4.trans e5;obtain⟨i,r,hi,hr,hl⟩:=Kl;have m4:=bV r (Yi hr);have xl:=pT r;walk_at "d";refine mE false (fun C hC=>?_) fun A6 f6=>?_
  .walk_at "d";refine⟨_,_,e6 _ _ c3,sy,?_⟩;walk_at "d";refine⟨ep,_,e6 _ _ r3,?_⟩;rw[vQ (by rw[lx (by rw[Yc];lia)];exact Yi hi)];refine Zm rfl ⟨_,_,e6 _ _ c3,by rw[Int.zero_add];exact ZQ (by rw[Yj,hb];rfl),_,_,e6 _ _ c3,sy,?_⟩;walk_at "d";refine⟨ep,_,_,e6 _ _ r3,qV cw hi (by rw[Yj,hr];rfl),r,d',aF,kus,_,rfl,by lia,m4.1,e6 _ _ d3,hE,fun B l2 eB dj hB=>?_⟩;walk_at "d";refine⟨_,hB,rfl,G8,?_⟩;rw[G7,YC (show b∈r.lean (lV (jf ns rs) ns.length)from hl)];exact hC _ eB
  refine Zm rfl ?_;walk_at "d";exact⟨_,rfl,e5.trans f6⟩
 .rintro ρ A5 ⟨x6,rfl,e5⟩;walk_at "d";exact fg (q _ (e3.trans (e4.trans e5)))
end
def iN(H:List Str):Rl->Bool
 | .nothing=>true
 | .bead _=>false
 | .named z=>decide (z∈H)
 | .or x y=>iN H x||iN H y
 | .bh x y=>iN H x&&iN H y
 | .hold k _=>decide (k<3)
structure cJ (ns:List Str) (r:Rl):Prop where
 wd:r.wd=true
 nm:∀z∈r.bb,z∈ns
def O6(P:Program)(w:World)(n:Nat):bP:=fun us A Q=>∃(r:Rl)(d:Addr)(ep:Nat)(kus:List (Str×U)),us=[r.toU,.ref d]/\r.dep<=n/\A d=some (dS P w ep kus)/\Q (.bl (iN (kus.map (·.1)) r)) A
def Xc:∀us A Q,¬O6 P w 0 us A Q:=fun us A Q aD=>by obtain⟨r,_,_,_,_,h,_⟩:=aD;have:=r.bC;lia
def Xe:List Str:=["red","ash","blue","redder","as"]
theorem KH(h0:0<=k)(h5:k<5):∃c,bX (Xe.map U.str) k=some (.str c)/\d6 c=true:=by
 obtain⟨n,rfl⟩:=uI h0;have hn:n<5:=by lia
 rcases n with _|_|_|_|_|n
 .exact⟨"red",rfl,by decide +kernel⟩
 .exact⟨"ash",rfl,by decide +kernel⟩
 .exact⟨"blue",rfl,by decide +kernel⟩
 .exact⟨"redder",rfl,by decide +kernel⟩
 .exact⟨"as",rfl,by decide +kernel⟩
 .lia
def Xf{α:Type}{kus:List (Str×α)}:(kus.lookup z).isSome=decide (z∈kus.map (·.1)):=by
 by_cases h:z∈kus.map (·.1)
 .rw[vQ h,YC h]
 .rw[BD h,Yu h];rfl
def Xg:bP:=fun us A Q=>∃z:Int,us=[.int z]/\∀c,d6 c=true->Q (.str c) A
section
include T
def Xh:T.tV.Ok aP 1 (aW K Xg):=by
 apply T.tV.bG;walk_at "f";exact fun S hr=>⟨_,(Ze (Zp (Zt ZW (ZJ (qm (xs:=["red","ash","blue","redder","as"]) rfl)) (Zy cL (pv 0) Zg) (fun _ _=>rfl)))),by walk_at "ab"⟩;rintro us A Q ⟨z,rfl,q⟩;walk_at "o";have h5:0<=z % 5/\z % 5<5:=⟨ng _ (by decide),qc _ (by decide)⟩;obtain⟨c,hc,hw⟩:=KH h5.1 h5.2;exact⟨show 5<=sizeLine by decide,fun p hp=>⟨by decide,_,_,Zb,hc,sL (Ext.new hp) (q c hw)⟩⟩
theorem O7(n:Nat):T.fw.Ok aP (n+1) (aW K (O6 P w n)):=by
 induction n with
 | zero=>exact o5 T.fw.f T.fw.s Xc
 | succ n iF =>
  apply T.fw.bG;walk_at "f";exact fun S hr=>⟨_,(Zc (ZG (Zj (cM hr) (Zt ZW (pv 0) Zg (fun _ _=>rfl)) Zk (Zx _)) (Ze (Zp (Pz (T.fw.pc iF hr (Za (Zt ZW (pv 0) Zg (fun _ _=>rfl)) (Za (pv 1) Zd))) (Ji (T.fw.pc iF hr (Za (Zt ZW (pv 0) Zg (fun _ _=>rfl)) (Za (pv 1) Zd))))))) Zo)
   (Zc (ZG (Zj (cM hr) (Zt ZW (pv 0) Zg (fun _ _=>rfl)) Zk (Zx _)) (Ze (Zp (Py (T.fw.pc iF hr (Za (Zt ZW (pv 0) Zg (fun _ _=>rfl)) (Za (pv 1) Zd))) (Ji (T.fw.pc iF hr (Za (Zt ZW (pv 0) Zg (fun _ _=>rfl)) (Za (pv 1) Zd))))))) Zo)
   (Zc (ZG (Zj (cM hr) (Zt ZW (pv 0) Zg (fun _ _=>rfl)) Zk (Zx _)) (Ze (Zp (wV A_ (Zt ZW (pv 0) Zg (fun _ _=>rfl)) (pv 1) (by with_unfolding_all rfl)))) Zo)
   (Ze (Zp (wV vb (Zt ZW (pv 0) Zg (fun _ _=>rfl)) (Zz (qm (xs:=["nothing","row","bag","choice"]) rfl)) (by with_unfolding_all rfl))))))),by walk_at "ab"⟩
  rintro us A Q ⟨r,d,ep,kus,rfl,hd,hA,q⟩;refine⟨rfl,?_⟩;walk_at "s";cases r with
  | nothing =>
   unfold Rl.toU;walk_at "g";exact Zm (by decide +kernel) (Zm (by decide +kernel) (Zm (by decide +kernel) ⟨d8,rfl,rfl,by rw[show dG (.str "nothing") [.str "nothing",.str "row",.str "bag",.str "choice"]=true by decide +kernel];exact fg q⟩))
  | bead z =>
   unfold Rl.toU;walk_at "g";exact Zm (by decide +kernel) (Zm (by decide +kernel) (Zm (by decide +kernel) ⟨d8,rfl,rfl,by rw[show dG (.str "bead") [.str "nothing",.str "row",.str "bag",.str "choice"]=false by decide +kernel];exact fg q⟩))
  | named z =>
   unfold Rl.toU;walk_at "g";refine Zm (by decide +kernel) (Zm (by decide +kernel) (ZH rfl ⟨ep,_,hA,?_⟩));rw[Xf];exact fg q
  | or x y =>
   unfold Rl.toU;walk_at "g";simp only[Rl.dep]at hd;refine ZH rfl ⟨x,d,ep,kus,rfl,by lia,hA,_,rfl,?_⟩;simp only[iN]at q;cases h:iN (kus.map (·.1)) x with
   | true=>rw[h]at q;exact ZH rfl (fg q)
   | false=>rw[h]at q;exact Zm rfl ⟨y,d,ep,kus,rfl,by lia,hA,fg q⟩
  | bh x y =>
   unfold Rl.toU;walk_at "g";simp only[Rl.dep]at hd;refine Zm (by decide +kernel) (ZH rfl ⟨x,d,ep,kus,rfl,by lia,hA,_,rfl,?_⟩);simp only[iN]at q;cases h:iN (kus.map (·.1)) x with
   | true=>rw[h]at q;exact ZH rfl ⟨y,d,ep,kus,rfl,by lia,hA,fg q⟩
   | false=>rw[h]at q;exact Zm rfl (fg q)
  | hold k x =>
   unfold Rl.toU;walk_at "g";have hk:∀z∈(["nothing","bead","name","or","by"]:List Str),decide (Z8 k=z)=false:=fun z hz=>Yu (xW k hz);refine Zm (hk _ (by decide +kernel)) (Zm (hk _ (by decide +kernel)) (Zm (hk _ (by decide +kernel)) ⟨d8,rfl,rfl,?_⟩));have e:dG (.str (Z8 k)) [.str "nothing",.str "row",.str "bag",.str "choice"]=decide (k<3):=by
    rcases k with _|_|_|k
    .decide +kernel
    .decide +kernel
    .decide +kernel
    .rw[Yu (by lia),show Z8 (k+1+1+1)=Z8 3 from rfl];decide +kernel
   rw[e];exact fg q
end
def ef(rs:List Rl):Nat:=(rs.map Rl.size).sum
def B_(a b:List Rl):ef (a++b)=ef a+ef b:=by unfold ef;rw[Yt,List.sum_append_nat]
def B'(a:Rl):ef [a]=a.size:=by simp[ef]
theorem Hw:∀rs:List Rl,rs.length<=ef rs
 | []=>Yk _
 | r :: rs=>by
  have:=Hw rs
  have h:=r.eC
  have e:ef (r::rs)=r.size+ef rs:=by simp[ef]
  rw[e,List.length_cons];lia
theorem Hx:∀ {rs:List Rl},r∈rs->r.size<=ef rs
 | x :: rs,h=>by
  have e:ef (x::rs)=x.size+ef rs:=by simp[ef]
  rcases Yp.mp h with rfl|h
  .lia
  .have:=Hx h;lia
theorem z_(h:ns≠[]):∃z∈ns,0<(ns.length:Int)/\bX (ns.map U.str) (t % (ns.length:Int))=some (.str z):=by
 have hp:0<(ns.length:Int):=by have:=List.length_pos_iff.mpr h;lia
 have h0:=ng t (show(ns.length:Int)≠0 by lia);have h1:=qc t hp;obtain⟨n,hn⟩:=uI h0;have hl:n<ns.length:=by lia
 refine⟨ns[n],rq hl,hp,?_⟩;rw[hn];exact ZQ (by rw[Yj,Yh hl];rfl)
def Xi(h:k=5\/k=6\/k=7):∃(z:Str)(f:Rl->Rl->Rl),bX [U.str "or",U.str "by",U.str "or"] (k-5)=some (.str z)/\(∀x y,U.tup [.str z,x.toU,y.toU]=(f x y).toU/\(f x y).size=x.size+y.size+1)/\∀ns x y,cJ ns x->cJ ns y->cJ ns (f x y):=by
 have ho:∀ns x y,cJ ns x->cJ ns y->cJ ns (.or x y):=fun ns x y a b=>⟨by simp only[Rl.wd,a.wd,b.wd,Bool.and_self],fun z hz=>(Yv.mp hz).elim (a.nm z) (b.nm z)⟩;have hb:∀ns x y,cJ ns x->cJ ns y->cJ ns (.bh x y):=fun ns x y a b=>⟨by simp only[Rl.wd,a.wd,b.wd,Bool.and_self],fun z hz=>(Yv.mp hz).elim (a.nm z) (b.nm z)⟩;rcases h with rfl|rfl|rfl
 .exact⟨_,.or,rfl,fun x y=>⟨rfl,rfl⟩,ho⟩
 .exact⟨_,.bh,rfl,fun x y=>⟨rfl,rfl⟩,hb⟩
 .exact⟨_,.or,rfl,fun x y=>⟨rfl,rfl⟩,ho⟩
def Kx(l:Addr)(A B:aw):Prop:=∀y u,y≠l->A y=some u->B y=some u
def Kx.of(e:Ext A B):Kx l A B:=fun y u _ h=>e y u h
def Kx.upd(e:Kx l A B):Kx l A (af B l o):=fun y u n h=>by rw[Zi n];exact e y u n h
def Kx.new(e:Kx l A B)(hp:B p=none):Kx l A (af B p o):=fun y u n h=>Ext.new hp y u (e y u n h)
def Kx.put(e:Kx l A B):Ext (af A l o) (af B l o):=fun y u h=>by
 by_cases n:y=l
 .rw[n,Zb]at h ⊢;exact h
 .rw[Zi n]at h ⊢;exact e y u n h
theorem O8:dG (.int k) [.int 5,.int 6,.int 7]=decide (k=5\/k=6\/k=7):=by
 unfold dG ny;simp only[Yr,Ya4,List.any_cons,List.any_nil,U.toV,lX,Bool.or_false];by_cases h:k=5\/k=6\/k=7
 .rw[YC h];rcases h with rfl|rfl|rfl<;>rfl
 .rw[Yu h];simp only[Bool.or_eq_false_iff,Yx];exact⟨fun e=>h (by lia),fun e=>h (by lia),fun e=>h (by lia)⟩
def jT{α:Type}{a b c:α}:[a,b,c].length<=sizeLine:=by show 3<=sizeLine;decide
def LP(P:Program)(w:World):bP:=fun us A Q=>∃(l nl ll d:Addr)(c:Int)(rs:List Rl)(ns low:List Str)(ep:Nat)(kus:List (Str×U)),us=[.ref l,.int c,.ref nl,.ref ll,.ref d]/\A l=some (.lst (rs.map Rl.toU))/\A nl=some (.lst (ns.map U.str))/\A ll=some (.lst (low.map U.str))/\A d=some (dS P w ep kus)/\0<=c/\ns≠[]/\(∀z∈ns,d6 z=true)/\(∀z∈low,z∈ns)/\(∀r∈rs,cJ ns r)/\ef rs+rs.length<=36 /\
 ∀jh,(∀r∈jh,cJ ns r)->ef jh+jh.length<=ef rs+rs.length+4->jh≠[]->Q .ay (af A l (.lst (jh.map Rl.toU)))
section
include T
theorem Xj : T.tW.Ok aP 62 (aW K (LP P w)):=by
 have Hy:=Xh T;have iF:=O7 T 60;apply T.tW.bG;walk_at "f";exact fun S hr=>⟨_,(Zc (Zq (i:=5) S.nd rfl (Or.inl rfl) (Zy cL (pv 1) Zg))
   (Zc (Zq (i:=6) S.nd rfl (Or.inl rfl) (Zy gc (pv 1) Zg))
   (Zc (Zq (i:=7) S.nd rfl (Or.inl rfl) (Zz (Za Zk (Za (T.tV.pc Hy hr (Za (pv 6) Zd)) Zd))))
   (Ze (ZG (Zj (cM hr) (pv 5) Zg (Zx _)) (Ze (ZP (iK Yz YS YT ZZ (pv 0) (Za (Zz (Za Zk Zd)) Zd)))) (Ze (ZG (Zj (cM hr) (pv 5) Zg (Zx _)) (Ze (ZP (iK Yz YS YT ZZ (pv 0) (Za (Zz (Za Zk (Za (pv 7) (Za (Zz (Za Zk (Za (Zt ZW (pv 2) (Zy cL (Zy gc (pv 6) Zg) (ZX iL T.a9 (Za (pv 2) Zd))) (fun _ _=>rfl)) Zd))) Zd)))) Zd)))) (Ze (ZG ((ni (Zj (cM hr) (pv 5) Zg (Zx _)) (oC (Zj (sh hr) (pv 3) (ZJ Zd) (Zx _))))).pt (Ze (ZP (iK Yz YS YT ZZ (pv 0) (Za (Zz (Za Zk (Za (Zt ZW (pv 3) (Zy cL (pv 6) (ZX iL T.a9 (Za (pv 3) Zd))) (fun _ _=>rfl)) Zd))) Zd)))) (Ze (ZG ((ni (Zj vb (pv 5) (Zz (Za Zg (Za Zg (Za Zg Zd)))) (by with_unfolding_all rfl)) (oC (Zj xq (ZX iL T.a9 (Za (pv 0) Zd)) Zg (Zx _))))).pt (Zc (Zq (i:=8) S.nd rfl (Or.inl rfl) (uZ Yz uJ uK u0 (pv 0)))
   (Ze (ZP (iK Yz YS YT ZZ (pv 0) (Za (Zz (Za (Zt ZW (ZJ (qm (xs:=["or","by","or"]) rfl)) (Zy va (pv 5) Zg) (fun _ _=>rfl)) (Za (uZ Yz uJ uK u0 (pv 0)) (Za (pv 8) Zd)))) Zd))))) (Ze (ZG ((ni (Zj xq (pv 5) Zg (Zx _)) (ni (Zj Ko (pv 5) Zg (Zx _)) (oC (Zj xq (ZX iL T.a9 (Za (pv 0) Zd)) Zg (Zx _)))))).pt (Zc (Zq (i:=9) S.nd rfl (Or.inl rfl) (uZ Yz uJ uK u0 (pv 0)))
   (Zc (ZG (gQ (T.fw.pc iF hr (Za (pv 9) (Za (pv 4) Zd)))) (Ze (Zq (i:=9) S.nd rfl (Or.inl rfl) (Zz (Za Zk (Za (pv 7) (Za (pv 9) Zd)))))) Zo)
   (Ze (ZP (iK Yz YS YT ZZ (pv 0) (Za (Zz (Za (Zt ZW (ZJ (qm (xs:=["row","bag","choice","ring"]) rfl)) (Zy va (pv 5) Zg) (fun _ _=>rfl)) (Za (pv 9) Zd))) Zd)))))) (Ze (ZP (iK Yz YS YT ZZ (pv 0) (Za (pv 7) Zd))))))))))))))))),by walk_at "abh"⟩
 rintro us A Q ⟨l,nl,ll,d,c,rs,ns,low,ep,kus,rfl,hl,dY,qW,hd,hc,aT,iG,m7,bV,ji,q⟩;walk_at "o";have hk:0<=c % 13/\c % 13<13:=⟨ng _ (by decide),qc _ (by decide)⟩;refine⟨by decide,⟨by decide,by decide⟩,c / 13,rfl,fun cc kQ=>⟨bI,?_⟩⟩;generalize c % 13=k at hk ⊢;generalize c / 13=t;have dC:=Hw rs;have Ca:(rs.map Rl.toU).length=rs.length:=Yc _;have fin:∀(A3:aw)(r:Rl),Ext A A3->cJ ns r->r.size<=3->Fg Q .ay (af A3 l (.lst (rs.map Rl.toU++[r.toU]))):=fun A3 r e h1 h2=>by
  have:=q (rs++[r]) (fun x hx=>(Yv.mp hx).elim (bV x) fun hx=>by rw[Yn.mp hx];exact h1) (by rw[B_,B',Yq,List.length_singleton];lia) (by simp);rw[Yt]at this;exact sL e.put this
 have Xk:cJ ns (.bead cc):=⟨kQ,fun z hz=>nomatch hz⟩;by_cases h2:k=2
 .refine nP (fun B hB=>?_) ?_
  .walk_at "d";rw[YC h2];exact hB
  walk_at "d";exact⟨⟨_,hl⟩,qw,_,hl,ZT (by lia),fin A .nothing (Ext.refl A) ⟨rfl,fun z hz=>nomatch hz⟩ (by decide)⟩
 refine k8 (fun B hB=>?_) ?_
 .walk_at "d";rw[Yu h2];exact hB
 by_cases h3:k=3
 .refine nP (fun B hB=>?_) ?_
  .walk_at "d";rw[YC h3];exact hB
  obtain⟨z,hz,hp,sy⟩:=z_ (t:=t / 5) aT;walk_at "d";refine⟨⟨_,hl⟩,⟨by decide,by decide⟩,_,dY,?_⟩;rw[Yc];exact⟨hp,_,_,dY,sy,bI,Sj,_,hl,ZT (by lia),fin A (.bh (.bead cc) (.named z)) (Ext.refl A) ⟨by simp only[Rl.wd,kQ,iG z hz,Bool.and_self],fun y hy=>by rw[Yn.mp hy];exact hz⟩ (Yk 3)⟩
 refine k8 (fun B hB=>?_) ?_
 .walk_at "d";rw[Yu h3];exact hB
 have zh:∀z∈low,PyData.strOk z=true:=fun z hz=>vp (iG z (m7 z hz));by_cases h4:k=4/\low≠[]
 .refine mE true (fun B hB=>?_) fun B eB=>ZH rfl ?_
  .walk_at "d";refine ZH (YC h4.1) ⟨by decide,fun p hp=>BS zh (zs:=[]) (fun z hz=>nomatch hz) (Ext.new hp _ _ qW) Zb ⟨_,rfl,?_⟩⟩;rw[Yu h4.2];exact hB _ (Ext.new hp)
  obtain⟨z,hz,hp,sy⟩:=z_ (t:=t) h4.2;walk_at "d";refine⟨⟨_,eB _ _ hl⟩,_,eB _ _ qW,?_⟩;rw[Yc];exact⟨hp,_,_,eB _ _ qW,sy,bI,_,eB _ _ hl,ZT (by lia),fin B (.named z) eB ⟨iG z (m7 z hz),fun y hy=>by rw[Yn.mp hy];exact m7 z hz⟩ (show 1<=3 by decide)⟩
 refine mE false (fun B hB=>?_) fun B eB=>Zm rfl ?_
 .walk_at "d";refine kg (fun h=>⟨by decide,fun p hp=>BS zh (zs:=[]) (fun z hz=>nomatch hz) (Ext.new hp _ _ qW) Zb ⟨_,rfl,?_⟩⟩) fun _=>hB A (Ext.refl A);have:low=[]:=Classical.byContradiction fun e=>h4 ⟨lG h,e⟩;rw[YC this];exact hB _ (Ext.new hp)
 replace hl:=eB _ _ hl;replace hd:=eB _ _ hd;have zi:∀(A3:aw)(jh:List Rl),Kx l A A3->(∀r∈jh,cJ ns r)->ef jh+jh.length<=ef rs+rs.length+4->jh≠[]->Fg Q .ay (af A3 l (.lst (jh.map Rl.toU))):=fun A3 jh e h1 h2 h3=>sL e.put (q jh h1 h2 h3);by_cases h5:(k=5\/k=6\/k=7)/\1<rs.length
 .refine nP (fun B hB=>?_) ?_
  .walk_at "d";refine⟨jT,rfl,rfl,?_⟩;rw[O8];refine ZH (YC h5.1) ⟨_,hl,?_⟩;rw[Ca,YC (by lia)];exact hB
  obtain⟨iH,x,y,rfl⟩:=LO h5.2;obtain⟨zz,f,hz,hf,hR⟩:=Xi h5.1;rw[Yt]at hl;walk_at "d";refine⟨⟨_,hl⟩,_,_,hl,⟨_,Zb⟩,jT,fun p hp=>⟨_,_,Zb,hz,?_⟩⟩;have bA:p≠l:=fun e=>by rw[e,Zb]at hp;cases hp
  have h3:af (af B l (.lst ((iH++[x]).map Rl.toU))) p (.lst [.str "or",.str "by",.str "or"]) l=some (.lst (iH.map Rl.toU++[x.toU])):=by rw[Zi (Ne.symm bA),Zb,Yt];rfl
  refine⟨⟨_,h3⟩,_,_,h3,jT,_,Zb,ZT (by rw[Yc];simp only[Yq,List.length_cons,List.length_nil]at dC;lia),?_⟩;rw[ZF,(hf x y).1];rw[show iH.map Rl.toU++[(f x y).toU]=(iH++[f x y]).map Rl.toU from by rw[Yt];rfl];refine zi _ _ ((Kx.of eB).upd.new hp) (fun r hr=>?_) ?_ (by simp)
  .rcases Yv.mp hr with hr|hr
   .exact bV r (by simp[hr])
   .rw[Yn.mp hr];exact hR _ x y (bV x (by simp)) (bV y (by simp))
  .simp only[B_,B',(hf x y).2,Yq,List.length_cons,List.length_nil];lia
 refine k8 (fun B hB=>?_) ?_
 .walk_at "d";refine⟨jT,rfl,rfl,?_⟩;rw[O8];refine kg (fun h=>⟨_,hl,?_⟩) fun _=>hB;rw[Ca,Yu fun h'=>h5 ⟨lG h,by lia⟩];exact hB
 by_cases h6:(7<k/\k<12)/\0<rs.length
 .refine nP (fun B hB=>?_) ?_
  .walk_at "d";refine ZH (YC h6.1.1) (ZH (YC h6.1.2) ⟨_,hl,?_⟩);rw[Ca,YC (by lia)];exact hB
  obtain⟨iH,x,rfl⟩:=Sy h6.2;obtain⟨j,hj⟩:=Sz (k:=k-8) (by lia) (by lia);have hx:=bV x (by simp);rw[Yt]at hl;walk_at "d";refine⟨⟨_,hl⟩,_,_,hl,?_⟩;have uC:d≠l:=fun e=>by rw[e,hl]at hd;cases hd
  have Ft:=Hx (r:=x) (rs:=iH++[x]) (by simp);have Oz:=pT x;have h7 : ∀(y:Rl),cJ ns y->y.size<=x.size+2->Ek (Ei AM AN (gh 0) (iZ (vh (iZ (ka jA (xH (Eg [U.str "row",U.str "bag",U.str "choice",U.str "ring"])) (ka (xI fun i j=>U.int (i-j)) (gh 5) (aC (U.int 8)))) (iZ (gh 9) nD))) nD)) { nx:=fun _ A'=>Fg Q U.ay A',rt:=Fg Q } [some (.ref l),some (.int c),some (.ref nl),some (.ref ll),some (.ref d),some (.int k),some (.int t),some (.tup [.str "bead",.str cc]),none,some y.toU] (af B l (.lst (iH.map Rl.toU))):=fun y hy hs=>by
   walk_at "d";refine⟨⟨_,Zb⟩,d8,fun p hp=>⟨_,_,Zb,hj,bI,?_⟩⟩;have bA:p≠l:=fun e=>by rw[e,Zb]at hp;cases hp
   refine⟨_,by rw[Zi (Ne.symm bA),Zb],ZT (by rw[Yc];simp only[Yq,List.length_cons,List.length_nil]at dC;lia),?_⟩;rw[show iH.map Rl.toU++[U.tup [.str (Z8 j),y.toU]]=(iH++[Rl.hold j y]).map Rl.toU from by rw[Yt];rfl];refine zi _ _ ((Kx.of eB).upd.new hp) (fun r hr=>?_) ?_ (by simp)
   .rcases Yv.mp hr with hr|hr
    .exact bV r (by simp[hr])
    .rw[Yn.mp hr];exact⟨hy.wd,hy.nm⟩
   .simp only[B_,B',Rl.size,Yq,List.length_cons,List.length_nil];lia
  walk_at "d";refine nO (iN (kus.map (·.1)) x) (fun B hB=>?_) ?_
  .walk_at "d";exact⟨x,d,ep,kus,rfl,by lia,by rw[Zi uC];exact hd,_,rfl,hB⟩
  cases hh:iN (kus.map (·.1)) x with
  | true =>
   refine ZH rfl ?_;walk_at "d";exact⟨jT,h7 (.bh (.bead cc) x) ⟨by simp only[Rl.wd,kQ,hx.wd,Bool.and_self],hx.nm⟩ (by simp only[Rl.size];lia)⟩
  | false =>
   refine Zm rfl ?_;walk_at "d";exact h7 x hx (by lia)
 refine k8 (fun B hB=>?_) ?_
 .walk_at "d";refine kg (fun g1=>kg (fun g2=>⟨_,hl,?_⟩) fun _=>hB) fun _=>hB;rw[Ca,Yu fun h'=>h6 ⟨⟨lG g1,lG g2⟩,by lia⟩];exact hB
 walk_at "d";exact⟨⟨_,hl⟩,_,hl,ZT (by lia),fin B (.bead cc) eB Xk (show 1<=3 by decide)⟩
end
def Xl(P:Program)(w:World):bP:=fun us A Q=>∃(cl nl ll d:Addr)(cs:List Int)(ns low:List Str)(ep:Nat)(kus:List (Str×U)),us=[.ref cl,.ref nl,.ref ll,.ref d]/\A cl=some (.lst (cs.map U.int))/\cs.length<=10/\A nl=some (.lst (ns.map U.str))/\A ll=some (.lst (low.map U.str))/\A d=some (dS P w ep kus)/\ns≠[]/\(∀z∈ns,d6 z=true)/\(∀z∈low,z∈ns) /\
 ∀r,cJ ns r->r.size<=40->Q r.toU A
def O9(h:k=0\/k=1):∃(z:Str)(f:Rl->Rl->Rl),bX [U.str "or",U.str "by"] k=some (.str z)/\(∀x y,U.tup [.str z,x.toU,y.toU]=(f x y).toU/\(f x y).size=x.size+y.size+1)/\∀ns x y,cJ ns x->cJ ns y->cJ ns (f x y):=by
 have ho:∀ns x y,cJ ns x->cJ ns y->cJ ns (.or x y):=fun ns x y a b=>⟨by simp only[Rl.wd,a.wd,b.wd,Bool.and_self],fun z hz=>(Yv.mp hz).elim (a.nm z) (b.nm z)⟩;have hb:∀ns x y,cJ ns x->cJ ns y->cJ ns (.bh x y):=fun ns x y a b=>⟨by simp only[Rl.wd,a.wd,b.wd,Bool.and_self],fun z hz=>(Yv.mp hz).elim (a.nm z) (b.nm z)⟩;rcases h with rfl|rfl
 .exact⟨_,.or,rfl,fun x y=>⟨rfl,rfl⟩,ho⟩
 .exact⟨_,.bh,rfl,fun x y=>⟨rfl,rfl⟩,hb⟩
def Xm(k:Bool)(h1:∀B:Bool->aw->Prop,B k A->c ρ A B)(h2:k=true->∀N:aQ->aw->Prop,N ρ A'->t { D with nx:=N } ρ A)(h3:k=false->∀N:aQ->aw->Prop,N ρ A'->e { D with nx:=N } ρ A)(h:D.nx ρ A'):nN c t e D ρ A:=h1 _ (by
 cases k with
 | true=>exact gI rfl (h2 rfl D.nx h)
 | false=>exact jw (by decide) (h3 rfl D.nx h))
section
include T
theorem Xn:T.tX.Ok aP 64 (aW K (Xl P w)):=by
 have Hz:=Xj T;apply T.tX.bG;walk_at "f";exact fun S hr=>⟨_,(Zc (Zq (i:=4) S.nd rfl (Or.inl rfl) (ZJ Zd))
   (Zc (Z3 YG rfl (Z5 (pv 0)) (Zl (i:=5) S.nd rfl (Or.inl rfl))
   (Ze (ZP (T.tW.pc Hz hr (Za (pv 4) (Za (Zy cL (pv 5) (Zy DG Zg Zg)) (Za (pv 1) (Za (pv 2) (Za (pv 3) Zd)))))))))
   (Zc (ZG (Zj (cM hr) (ZX iL T.a9 (Za (pv 4) Zd)) Zg (Zx _)) (Ze (ZP (iK Yz YS YT ZZ (pv 4) (Za (Zz (Za Zk (Za Zk Zd))) Zd)))) Zo)
   (Zc (wR YG (Zj xq (ZX iL T.a9 (Za (pv 4) Zd)) Zg (Zx _)) (Zc (Zq (i:=6) S.nd rfl (Or.inl rfl) (uZ Yz uJ uK u0 (pv 4)))
   (Ze (ZP (iK Yz YS YT ZZ (pv 4) (Za (Zz (Za (Zt ZW (ZJ (Za Zk (Za Zk Zd))) (Zy cL (ZX iL T.a9 (Za (pv 4) Zd)) Zg) (fun _ _=>rfl)) (Za (uZ Yz uJ uK u0 (pv 4)) (Za (pv 6) Zd)))) Zd))))))
   (Ze (Zp (Zt ZW (pv 4) Zg (fun _ _=>rfl)))))))),by walk_at "abh"⟩
 rintro us A Q ⟨cl,nl,ll,d,cs,ns,low,ep,kus,rfl,gK,rV,dY,qW,hd,aT,iG,m7,q⟩;walk_at "o";refine⟨by decide,fun l hl=>⟨⟨_,Ext.new hl _ _ gK⟩,?_⟩⟩;refine nK (cs.map U.int) (fun k ρ A2=>∃(rs:List Rl)(x5 x6:Option U),ρ=[some (.ref cl),some (.ref nl),some (.ref ll),some (.ref d),some (.ref l),x5,x6]/\A2=af A l (.lst (rs.map Rl.toU))/\(∀r∈rs,cJ ns r)/\ef rs+rs.length<=4*k) ⟨[],_,_,rfl,rfl,fun r h=>(nomatch h),by simp[ef]⟩ (fun k ρ A2 _ aD=>by obtain⟨rs,_,_,_,e,_⟩:=aD;rw[e,Zi (dN gK hl)];exact gK) ?_ ?_
 .rintro k u ρ A2 hu ⟨rs,x5,x6,rfl,rfl,bV,ji⟩;obtain⟨c,hc,rfl⟩:=Z0 hu;have hk:=(Yg.mp hc).1;walk_at "d";refine⟨⟨by decide,by decide,by decide⟩,by decide,l,nl,ll,d,_,rs,ns,low,ep,kus,rfl,Zb,Ext.new hl _ _ dY,Ext.new hl _ _ qW,Ext.new hl _ _ hd,ng _ (by decide),aT,iG,m7,bV,by lia,fun jh h1 h2 _=>⟨jh,_,_,rfl,by rw[ZF],h1,by lia⟩⟩
 rintro ρ A2 ⟨rs,x5,x6,rfl,rfl,bV,ji⟩;rw[Yc]at ji;walk_at "d";obtain⟨pY,h1,h2,h3,h4⟩:∃pY:List Rl,pY≠[]/\(∀r∈pY,cJ ns r)/\ef pY+pY.length<=40/\pY=if rs=[]then[.bead "red"]else rs:=by
  by_cases h:rs=[]
  .exact⟨[.bead "red"],by simp,fun r hr=>by rw[Yn.mp hr];exact⟨by decide +kernel,fun z hz=>nomatch hz⟩,by simp[ef,Rl.size],by rw[if_pos h]⟩
  .exact⟨rs,h,bV,by lia,by rw[if_neg h]⟩
 refine Xm (decide (rs=[])) (A':=af A l (.lst (pY.map Rl.toU))) (fun B hB=>?_) (fun h=>?_) (fun h=>?_) ?_
 .walk_at "d";refine⟨_,Zb,?_⟩;rw[Yc,show decide ((rs.length:Int)=0)=decide (rs=[])from decide_eq_decide.mpr (by rw[<- wt];lia)];exact hB
 .rw[if_pos (lG h)]at h4;subst h4;intro N hN;walk_at "d";refine⟨⟨_,Zb⟩,bI,_,Zb,?_⟩;rw[lG h];exact⟨ZT (Y9 _),by rw[ZF];exact hN⟩
 .rw[if_neg (of_decide_eq_false h)]at h4;subst h4;intro N hN;exact hN
 clear ji bV h4;walk_at "d";have hlen:=Hw pY;refine⟨fun m ρ A2=>∃(rs:List Rl)(x5 x6:Option U),m=rs.length/\ρ=[some (.ref cl),some (.ref nl),some (.ref ll),some (.ref d),some (.ref l),x5,x6]/\Kx l A A2/\A2 l=some (.lst (rs.map Rl.toU))/\rs≠[]/\(∀r∈rs,cJ ns r)/\ef rs+rs.length<=40,⟨_,pY,_,_,rfl,rfl,(Kx.of (Ext.refl A)).upd,Zb,h1,h2,h3⟩,?_⟩;rintro m ρ A2 ⟨rs,x5,x6,rfl,rfl,e2,dj,hn,bV,ji⟩;walk_at "d";refine⟨_,dj,?_⟩;rw[Yc];refine kg (fun bq=>?_) fun bq=>?_
 .have bq:=lG bq;obtain⟨iH,x,y,rfl⟩:=LO (ws:=rs) (by lia);rw[Yt]at dj;refine⟨_,fun dg A' h=>h,?_⟩;walk_at "d";refine⟨⟨_,dj⟩,_,_,dj,⟨_,Zb⟩,bI,fun p hp=>?_⟩;have bA:p≠l:=fun e=>by rw[e,Zb]at hp;cases hp
  have h3:af (af A2 l (.lst ((iH++[x]).map Rl.toU))) p (.lst [.str "or",.str "by"]) l=some (.lst (iH.map Rl.toU++[x.toU])):=by rw[Zi (Ne.symm bA),Zb,Yt];rfl
  have hk:(((iH.map Rl.toU++[x.toU]).length:Nat):Int) % 2=0\/(((iH.map Rl.toU++[x.toU]).length:Nat):Int) % 2=1:=by lia
  obtain⟨zz,f,hz,hf,hR⟩:=O9 hk;refine⟨_,h3,by decide,_,_,Zb,hz,⟨_,h3⟩,_,_,h3,jT,_,Zb,ZT (by rw[Yc];simp only[Yq,List.length_cons,List.length_nil]at ji;lia),?_⟩;rw[ZF,(hf x y).1,show iH.map Rl.toU++[(f x y).toU]=(iH++[f x y]).map Rl.toU from by rw[Yt];rfl];refine⟨_,?_,iH++[f x y],_,_,rfl,rfl,(e2.upd.new hp).upd,Zb,by simp,fun r hr=>?_,?_⟩
  .simp only[Yq,List.length_cons,List.length_nil];lia
  .rcases Yv.mp hr with hr|hr
   .exact bV r (by simp[hr])
   .rw[Yn.mp hr];exact hR _ x y (bV x (by simp)) (bV y (by simp))
  .simp only[B_,B',(hf x y).2,Yq,List.length_cons,List.length_nil]at ji ⊢;lia
 .have bq:=of_decide_eq_false bq;cases rs with
  | nil=>exact absurd rfl hn
  | cons r rs =>
   walk_at "d";refine⟨_,_,dj,ZQ (j:=0) rfl,sL (fun y u h=>e2 y u (dN h hl) h) (q r (bV r (.head _)) ?_)⟩;have:=Hx (r:=r) (rs:=r::rs) (.head _);lia
end
def O_(e:Ext A B)(h:B x=some o):Ext (af A x o) B:=fun y u q=>by
 by_cases n:y=x
 .rw[n,Zb]at q;rw[n,h];exact q
 .rw[Zi n]at q;exact e y u q
theorem Pa{α β:Type}{ns:List α}{rs:List β}{z:α}{r:β}(hz:ns[rs.length]? = some z):(ns.take (rs.length+1)).zip (rs++[r])=(ns.take rs.length).zip rs++[(z,r)]:=by
 have hl:=(Yg.mp hz).1;rw[List.take_succ_eq_append_getElem hl,List.zip_append (by rw[YD];lia),(Yg.mp hz).2];rfl
theorem HA{α β:Type}:∀ {ns:List α} {rs:List β},(ns.take rs.length).zip rs=ns.zip rs
 | [],rs=>by simp
 | n::ns,[]=>by simp
 | n::ns,r::rs=>by rw[List.length_cons,List.take_succ_cons,List.zip_cons_cons,List.zip_cons_cons,HA]
def ZsI{α β:Type}{ns:List α}{rs:List β}{z:α}{r:β}(hz:ns[rs.length]? = some z):ns.zip (rs++[r])=ns.zip rs++[(z,r)]:=by
 rw[<- HA (ns:=ns) (rs:=rs++[r]),Yq,List.length_singleton,Pa hz,HA]
def Xo(P:Program)(w:World):bP:=fun us A Q=>∃(cl nl:Addr)(cs:List Int)(ns:List Str),us=[.ref cl,.ref nl]/\A cl=some (.lst (cs.map U.int))/\cs.length<=63/\A nl=some (.lst (ns.map U.str))/\ns≠[]/\ns.length<=60/\ns.Nodup/\(∀z∈ns,d6 z=true) /\
 ∀d ep (rs:List Rl),A d=none->rs.length=ns.length->(∀r∈rs,cJ ns r/\r.size<=40)->Q (.ref d) (af A d (dS P w ep (ns.zip (rs.map Rl.toU))))
section
include T
theorem Xp:T.tY.Ok aP 66 (aW K (Xo P w)):=by
 have HB:=Xn T;have iF:=O7 T 60;apply T.tY.bG;walk_at "f";exact fun S hr=>⟨_,(Zc (Zq (i:=2) S.nd rfl (Or.inl rfl) sN)
   (Zc (Zq (i:=3) S.nd rfl (Or.inl rfl) sN)
   (Zc (Z3 YG rfl (ql rfl T.bE (Za (ZX iL T.a9 (Za (pv 1) Zd)) Zd)) (Zl (i:=4) S.nd rfl (Or.inl rfl))
   (Zc (Ap (i:=5) S.nd rfl (Or.inl rfl) (by with_unfolding_all rfl) (ts:=["_law_k"]) (frs':=[("_law_cells",0)]) (cl:=_) rfl .z (TV rfl T.bE (Za (pv 4) (Za (ZX iL T.a9 (Za (pv 0) Zd)) (Za (ZX iL T.a9 (Za (pv 1) Zd)) Zd)))) (fun _ _ _ _=>Zl (i:=0) (show List.Nodup (["_law_k","_law_cells"]:List Str)from by decide +kernel) rfl (Or.inl rfl) (.inr rfl)) (fun _ _ _ _=>j7) (fun _ _ _ _=>by exact(Zt (vc K rfl) (pv 1) (pv 0) (fun _ _=>rfl))))
   (Zc (Zq (i:=6) S.nd rfl (Or.inl rfl) (T.tX.pc HB hr (Za (nv nB (pv 5) oN (lW Zg)) (Za (pv 1) (Za (nv nB (pv 1) oN (lW (pv 4))) (Za (pv 3) Zd))))))
   (Zc (nq (pv 6) (nk (pv 2) (Zt ZW (pv 1) (pv 4) (fun _ _=>rfl)) sP))
   (Ze (ZG (gQ (T.fw.pc iF hr (Za (pv 6) (Za (pv 3) Zd)))) (Ze (nq kS (nk (pv 3) (Zt ZW (pv 1) (pv 4) (fun _ _=>rfl)) sP))) Zo))))))
   (Ze (Zp (pv 2)))))),by walk_at "abh"⟩
 rintro us A Q ⟨cl,nl,cs,ns,rfl,gK,rV,dY,aT,Hm,cw,iG,q⟩;walk_at "o";intro d1 mV d2 hd2;have HC:A d2=none:=iO (Ext.new mV) hd2;have HD:d1≠d2:=dN Zb hd2;have e0:Ext A (af (af A d1 (dS P w 0 [])) d2 (dS P w 0 [])):=(Ext.new mV).trans (Ext.new hd2);walk_at "d";refine⟨_,e0 _ _ dY,?_⟩;rw[Yc];walk_at "d";refine⟨by lia,by lia,?_⟩;refine sJ (n:=ns.length) (fun k ρ A2=>∃(rs:List Rl)(d_ bJ:Nat)(kus:List (Str×U))(x4 x5 x6:Option U),ρ=[some (.ref cl),some (.ref nl),some (.ref d1),some (.ref d2),x4,x5,x6]/\Ext A A2/\A2 d1=some (dS P w d_ ((ns.take k).zip (rs.map Rl.toU)))/\A2 d2=some (dS P w bJ kus)/\rs.length=k/\(∀z∈kus.map (·.1),z∈ns.take k)/\kus.length<=k/\∀r∈rs,cJ ns r/\r.size<=40) ⟨[],0,0,[],_,_,_,rfl,e0,by rw[Zi HD,Zb];rfl,Zb,rfl,fun z h=>(nomatch h),Yk _,fun r h=>nomatch h⟩ ?_ ?_
 .rintro k ρ A2 hk ⟨rs,d_,bJ,kus,x4,x5,x6,rfl,e2,h1,h2,dC,HE,iQ,hS⟩;have zj:=e2 _ _ gK;have pZ:=e2 _ _ dY;rw[Int.zero_add];subst dC;obtain⟨z0,hz⟩:∃z0,ns[rs.length]? = some z0:=⟨_,Yh hk⟩;walk_at "d";refine⟨_,zj,_,pZ,?_⟩;rw[Yc,Yc];walk_at "d";refine⟨⟨by lia,by lia,by lia,by lia,by lia,by lia⟩,fun n hn hb l hl=>?_⟩;walk_at "c";refine Gd (qH rs.length ns.length n) (fun _ v _=>∃z:Int,v=.int z) (fun τ=>∃x,τ=[x,some (.ref cl)]) ⟨_,rfl⟩ hl (by unfold qH;rw[Yc,qd];lia) (fun j A3 _ _=>rfl) (fun j v A1 B _ _ h=>h) ?_ ?_
  .rintro j u τ A3 hu ⟨x,rfl⟩ e3 Cy hC;rw[MS]at hu;split at hu
   .rename_i hj;cases hu;have vW:=hb j hj;have kY:(0:Int)<=(j:Int)*ns.length:=Int.mul_nonneg (by lia) (by lia);obtain⟨z,yd,_⟩:=Lj (ns:=cs) (i:=(rs.length:Int)+j*ns.length) (by lia) (by lia);walk_at "d";exact⟨_,_,e3 _ _ zj,yd,hC _ _ A3 ⟨_,rfl⟩ (Ext.refl _) ⟨z,rfl⟩⟩
   .cases hu
  intro B ys eB eR kI we;obtain⟨ms,rfl⟩:=Zip we;have zk:=Ext.new eR (o:=.lst (ms.map U.int)) _ _ (eB _ _ pZ);have e3:Ext A2 (af B l (.lst (ms.map U.int))):=eB.trans (Ext.new eR);have qR:af B l (.lst (ms.map U.int)) l=some (.lst (ms.map U.int)):=Zb;generalize af B l (.lst (ms.map U.int))=B3 at zk e3 qR ⊢;walk_at "d";refine⟨_,qR,?_⟩;rw[o6,show(some 10:Option Int)=some ((10:Nat):Int)from rfl,za];refine fun p hp=>⟨_,Ext.new hp _ _ zk,?_⟩;rw[o6,za];intro p2 vT;have e5:=(e3.trans (Ext.new hp (o:=.lst ((ms.take 10).map U.int)))).trans (Ext.new vT (o:=.lst ((ns.take rs.length).map U.str)));have zl:af (af B3 p (.lst ((ms.take 10).map U.int))) p2 (.lst ((ns.take rs.length).map U.str)) p=some (.lst ((ms.take 10).map U.int)):=Ext.new vT _ _ Zb;have Cb:af (af B3 p (.lst ((ms.take 10).map U.int))) p2 (.lst ((ns.take rs.length).map U.str)) p2=some (.lst ((ns.take rs.length).map U.str)):=Zb;generalize af (af B3 p (.lst ((ms.take 10).map U.int))) p2 (.lst ((ns.take rs.length).map U.str))=B5 at e5 zl Cb ⊢;refine⟨p,nl,p2,d2,ms.take 10,ns,ns.take rs.length,bJ,kus,rfl,zl,by rw[YD];lia,e5 _ _ pZ,Cb,e5 _ _ h2,aT,iG,fun z hz=>List.mem_of_mem_take hz,fun r hr bV=>?_⟩;refine⟨_,_,e5 _ _ pZ,ZQ (by rw[Yj,hz];rfl),d1,_,d_,_,rfl,rfl,e5 _ _ h1,?_,fun aF=>?_⟩
  .rw[List.length_zip,YD,Yc,Y2];lia
  have wc:z0∉((ns.take rs.length).zip (rs.map Rl.toU)).map (·.1):=by
   rw[lx (by rw[YD,Yc];lia)];intro hm;obtain⟨j,hj,e⟩:=p_.mp hm;rw[YD]at hj;rw[List.getElem_take]at e;have:=Z7 cw (i:=j) (j:=rs.length) (Yh (by lia)) (by rw[hz,e]);lia
  have i7:∀r'∈rs++[r],cJ ns r'/\r'.size<=40:=fun r' h=>(Yv.mp h).elim (hS r') fun h=>by rw[Yn.mp h];exact⟨hr,bV⟩
  have zm:∀z∈kus.map (·.1),z∈ns.take (rs.length+1):=fun z hz=>by rw[List.take_succ_eq_append_getElem hk];exact YY _ (HE z hz)
  have h6:af B5 d1 (dS P w aF (a7 z0 r.toU ((ns.take rs.length).zip (rs.map Rl.toU)))) d1=some (dS P w aF ((ns.take (rs.length+1)).zip ((rs++[r]).map Rl.toU))):=by
   have:=Pa (ns:=ns) (rs:=rs.map Rl.toU) (r:=r.toU) (by rw[Yc];exact hz);rw[Yc]at this;rw[Zb,lu wc,Yt];exact congrArg (fun z=>some (dS P w aF z)) this.symm
  have h7:af B5 d1 (dS P w aF (a7 z0 r.toU ((ns.take rs.length).zip (rs.map Rl.toU)))) d2=some (dS P w bJ kus):=by rw[Zi (Ne.symm HD)];exact e5 _ _ h2
  have e6:Ext A (af B5 d1 (dS P w aF (a7 z0 r.toU ((ns.take rs.length).zip (rs.map Rl.toU))))):=jP (e2.trans e5) mV;generalize af B5 d1 (dS P w aF (a7 z0 r.toU ((ns.take rs.length).zip (rs.map Rl.toU))))=B6 at h6 h7 e6 ⊢;have hdz:=pT r;refine nO (iN (kus.map (·.1)) r) (fun B hB=>?_) ?_
  .walk_at "d";exact⟨r,d2,bJ,kus,rfl,by lia,h7,_,rfl,hB⟩
  cases hh:iN (kus.map (·.1)) r with
  | true =>
   refine ZH rfl ?_;walk_at "d";refine⟨_,_,e6 _ _ dY,ZQ (by rw[Yj,hz];rfl),d2,_,bJ,kus,rfl,rfl,h7,by rw[Y2];lia,fun cP=>?_⟩;have HF:z0∉kus.map (·.1):=fun hm=>by
    rw[lx (by rw[YD,Yc];lia)]at wc;exact wc (HE _ hm)
   rw[lu HF];refine⟨rs++[r],aF,cP,_,_,_,_,rfl,jP e6 HC,by rw[Zi HD];exact h6,Zb,by simp,fun z fq=>?_,by simp;lia,i7⟩;rw[Yt]at fq;rcases Yv.mp fq with h|h
   .exact zm z h
   .rw[show z=z0 from Yn.mp h,List.take_succ_eq_append_getElem hk,(Yg.mp hz).2];exact Yy _ (.head _)
  | false =>
   refine Zm rfl ?_;walk_at "d";exact⟨rs++[r],aF,bJ,kus,_,_,_,rfl,e6,h6,h7,by simp,zm,by lia,i7⟩
 rintro ρ A2 ⟨rs,d_,bJ,kus,x4,x5,x6,rfl,e2,h1,h2,dC,HE,iQ,hS⟩;rw[YV]at h1;walk_at "d";exact sL (O_ e2 h1) (q d1 d_ rs mV dC hS)
end
theorem Xq:∀ts:List Str,(Txt.join "" ts).cps.toList=(ts.map fun t=>t.cps.toList).flatten:=by
 have e0:(("":Str)).cps.toList=[]:=by decide +kernel
 have go:∀(x:Str)(ts:List Str),(Str.join "" (x::ts)).cps.toList=((x::ts).map fun t=>t.cps.toList).flatten:=fun x ts=>by
  induction ts generalizing x with
  | nil=>show x.cps.toList=_;simp
  | cons y ts ih =>
   show(x++""++Str.join "" (y::ts)).cps.toList=_;rw[Str.cps_append,Str.cps_append,ID,ID,e0,ih y];simp
 intro ts;unfold Txt.join;rw[StrLaws.glued_eq_join];cases ts with
 | nil=>exact e0
 | cons x ts=>exact go x ts
def p7:List Nat:=(Str.ofString "ckmpsuvxzdhjqt").cps.toList
def fG(cs:List Nat):Str:=⟨cs.toArray⟩
def Xr(cs:List Nat):Txt.join "" (cs.map fun c=>fG [c])=fG cs:=by
 apply Str.ext';rw[<- Cz,Xq,jk];show(cs.map fun c=>[c]).flatten=cs;induction cs with
 | nil=>rfl
 | cons c cs ih=>rw[Yr,List.flatten_cons,ih];rfl
theorem Xs(h:∀c∈cs,c∈p7)(h1:1<=cs.length)(h8:cs.length<=8):d6 (fG cs)=true:=by
 have k1:∀c∈p7,c∈EU.cps.toList:=by decide +kernel
 have k2:∀t∈i0,∃c∈t.cps.toList,c∉p7:=by decide +kernel
 have hl:(fG cs).length=cs.length:=rfl;unfold d6;rw[YQ,YQ,YQ,wA];refine⟨⟨fun c hc=>YC (k1 c (h c hc)),YC (by lia),YC (by lia)⟩,?_⟩;simp only[Bool.not_eq_true',List.contains_eq_mem,zC];intro hm;obtain⟨c,hc,hn⟩:=k2 _ hm;exact hn (h c hc)
theorem Xu(h:∀t∈ts,t.length<=1)(hl:ts.length<=1000):JoinOk "" ts=true:=by
 unfold JoinOk;have h3:(("":Str)).length=0:=by decide +kernel
 rw[StrLaws.joinFits h (by rw[h3];lia)];rfl
def HG(pre post:List Nat)(s:Nat):Str:=fG (pre++s::post)
def Xv(h:HG pre post s=HG pre post t):s=t:=by
 have:=congrArg (fun z:Str=>z.cps.toList) h;have:=List.append_cancel_left (show pre++s::post=pre++t::post from this);injection this
def Pb(xs:List α)(k:Nat)(h:k<=xs.length):eu xs (some (k:Int)) none=xs.drop k:=by
 unfold eu;rw[show HT.aO xs.length 0 (some (k:Int))=min k xs.length from HT.d5 xs.length 0 k,show HT.aO xs.length xs.length none=xs.length from rfl,rB h];exact m8 (by rw[og];lia)
theorem Pc{α:Type}:∀ {l:List α},(∀(i j:Nat) x,l[i]? = some x->l[j]? = some x->i=j)->l.Nodup
 | [],_=>List.nodup_nil
 | a :: l,h=>jV.mpr ⟨fun hm=>by
   obtain⟨i,hi⟩:=List.getElem?_of_mem hm
   have:=h 0 (i+1) a rfl hi
   lia,Pc fun i j x h1 h2=>by
   have:=h (i+1) (j+1) x h1 h2
   lia⟩
def Xw:bP:=fun us A Q=>∃(c:Int)(m:Nat),us=[.int c,.int m]/\0<=c/\m<=14/\∀l ws,A l=none->ws.length=m->ws.Nodup->(∀z∈ws,d6 z=true)->Q (.ref l) (af A l (.lst (List.map U.str ws)))
section
include T
theorem Xx:T.tU.Ok aP 2 (aW K Xw):=by
 apply T.tU.bG;walk_at "f";exact fun S hr=>⟨_,(Zc (Zq (i:=2) S.nd rfl (Or.inr rfl) Zk)
   (Zc (Ap (i:=3) S.nd rfl (Or.inl rfl) (by with_unfolding_all rfl) (ts:=["_law_k"]) (frs':=[("_law_letters",2),("_law_cell_here",0)]) (cl:=_) rfl .z (ql rfl T.bE (Za (Zy cL (pv 0) Zg) Zd)) (fun _ _ _ _=>Zl (i:=0) (show List.Nodup (["_law_k","_law_letters","_law_cell_here"]:List Str)from by decide +kernel) rfl (Or.inl rfl) (.inr rfl)) (fun _ _ _ _=>j7) (fun _ _ _ _=>by exact(Zt (vc K rfl) (pv 1) (Zy cL (Zy (RK K rfl) (Zy gc (pv 2) Zg) (Zy Am (pv 0) (pv 0))) Zg) (fun _ _=>rfl))))
   (Zc (Zq (i:=4) S.nd rfl (Or.inl rfl) (Zy cL (Zy gc (pv 0) Zg) (Zy fM (ZX iL T.a9 (Za (pv 3) Zd)) Zg)))
   (Zc (Zq (i:=5) S.nd rfl (Or.inl rfl) (ZJ Zd))
   (Zc (Z3 YG rfl (ql rfl T.bE (Za (pv 1) Zd)) (Zl (i:=6) S.nd rfl (Or.inl rfl))
   (Zc (Zq (i:=7) S.nd rfl (Or.inl rfl) (Zt ZW (pv 2) (Zy cL (Zy fM (pv 6) (Zy gc (pv 0) Zg)) Zg) (fun _ _=>rfl)))
   (Ze (ZP (iK Yz YS YT ZZ (pv 5) (Za (iK PySem.F.plainAttrs_str PySem.F.slot_str_join PySem.F.type_str_join Sm Zk (Za (Zy fM (Zy fM (nv nB (pv 3) oN (lW (pv 4))) (ZJ (Za (pv 7) Zd))) (nv nB (pv 3) (lW (pv 4)) oN)) Zd)) Zd))))))
   (Ze (Zp (pv 5)))))))),by walk_at "ab"⟩
 rintro us A Q ⟨c,m,rfl,hc,hm,q⟩;walk_at "o";have h8:0<=c % 8/\c % 8<8:=⟨ng _ (by decide),qc _ (by decide)⟩;have Xy:p7.length=14:=by decide +kernel
 have HH:p7.Nodup:=by decide +kernel
 refine⟨by decide,by lia,by lia,fun l1 cx=>?_⟩;walk_at "c";have zo:∀t:Int,∃v,bX (Str.ofString "ckmpsuvxzdhjqt").cps.toList (t % 14)=some v/\p7[(t % 14).toNat]? = some v:=fun t=>Kw (ng _ (by decide)) (by rw[show(Str.ofString "ckmpsuvxzdhjqt").cps.toList.length=14 from Xy];exact qc _ (by decide));refine Gd (mm 0 (c % 8).toNat) (fun _ v _=>∃s∈p7,v=.str (fG [s])) (fun τ=>∃x,τ=[x,some (.str "ckmpsuvxzdhjqt"),some (.int c)]) ⟨_,rfl⟩ cx (by rw[et];lia) (fun j A3 _ _=>rfl) (fun j v A1 B _ _ h=>h) ?_ ?_
 .rintro k u τ A3 hu ⟨x,rfl⟩ e3 Cy hC;rw[Er]at hu;split at hu
  .rename_i hk;cases hu;obtain⟨v,h1,h2⟩:=zo (c / 8+(0+(k:Int))*(0+(k:Int)));walk_at "d";refine⟨⟨by decide,by decide⟩,An (.inl ⟨by lia,by lia⟩),by decide,by decide +kernel,v,h1,hC _ _ A3 ⟨_,rfl⟩ (Ext.refl _) ⟨v,Yi h2,rfl⟩⟩
  .cases hu
 intro B ys eB eR kI we;rw[et]at kI;obtain⟨cs,rV,rfl⟩:∃cs:List Nat,(∀c∈cs,c∈p7)/\ys=(cs.map fun c=>fG [c]).map U.str:=by
  clear kI;induction ys with
  | nil=>exact⟨[],(fun c h=>by cases h),rfl⟩
  | cons y ys ih =>
   obtain⟨s,hs,rfl⟩:=we 0 y rfl;obtain⟨cs,h1,rfl⟩:=ih fun k y hy=>we (k+1) y hy;exact⟨s::cs,fun c hc=>(Yp.mp hc).elim (fun e=>e▸hs) (h1 c),rfl⟩
 rw[Yc,Yc]at kI;have e1:Ext A (af B l1 (.lst ((cs.map fun c=>fG [c]).map U.str))):=eB.trans (Ext.new eR);have h1:af B l1 (.lst ((cs.map fun c=>fG [c]).map U.str)) l1=some (.lst ((cs.map fun c=>fG [c]).map U.str)):=Zb;generalize af B l1 (.lst ((cs.map fun c=>fG [c]).map U.str))=B1 at e1 h1 ⊢;refine⟨⟨by decide,by decide⟩,?_⟩;walk_at "d";refine⟨_,h1,?_⟩;rw[Yc,Yc];walk_at "d";have zp:(0:Int)<(cs.length:Int)+1:=by lia
 have Xz:=ng (c / 112) (show(cs.length:Int)+1≠0 by lia);have sQ:=qc (c / 112) zp;obtain⟨a,ha⟩:=uI Xz;rw[ha]at sQ ⊢;refine⟨zp,by decide,fun l hl=>⟨by lia,by lia,?_⟩⟩;have Pd:A l=none:=iO e1 hl;refine sJ (n:=m) (fun k ρ A2=>∃(ss:List Nat)(x6 x7:Option U),ρ=[some (.int c),some (.int m),some (.str "ckmpsuvxzdhjqt"),some (.ref l1),some (.int a),some (.ref l),x6,x7]/\Ext A A2/\A2 l1=some (.lst ((cs.map fun c=>fG [c]).map U.str))/\A2 l=some (.lst ((ss.map (HG (cs.take a) (cs.drop a))).map U.str))/\ss.length=k/\∀(j:Nat) s,ss[j]? = some s->p7[(((j:Int)+c / 896) % 14).toNat]? = some s) ⟨[],_,_,rfl,e1.trans (Ext.new hl),Ext.new hl _ _ h1,Zb,rfl,fun j s h=>by simp at h⟩ ?_ ?_
 .rintro k ρ A2 hk ⟨ss,x6,x7,rfl,e2,h2,h3,pw,zq⟩;obtain⟨v,h4,h5⟩:=zo (0+(k:Int)+c / 896);walk_at "d";refine⟨⟨by decide,by decide⟩,by decide,by decide +kernel,v,h4,⟨⟨_,h3⟩,trivial,_,h2,?_⟩⟩;rw[o6,za,<- wD];refine fun p hp=>⟨qw,fun p1 jH=>⟨_,_,Ext.new jH _ _ Zb,Zb,EG (by simp;lia),fun p2 vT=>?_⟩⟩;rw[show((cs.take a).map fun c=>fG [c]).map U.str++[U.str ⟨#[v]⟩]=((cs.take a++[v]).map fun c=>fG [c]).map U.str from by rw[Yt,Yt];rfl];have e3:=((Ext.new hp (o:=.lst (((cs.take a).map fun c=>fG [c]).map U.str))).trans (Ext.new jH (o:=.lst [.str ⟨#[v]⟩]))).trans (Ext.new vT (o:=.lst (((cs.take a++[v]).map fun c=>fG [c]).map U.str)));have h6:af (af (af A2 p (.lst (((cs.take a).map fun c=>fG [c]).map U.str))) p1 (.lst [.str ⟨#[v]⟩])) p2 (.lst (((cs.take a++[v]).map fun c=>fG [c]).map U.str)) p2=some (.lst (((cs.take a++[v]).map fun c=>fG [c]).map U.str)):=Zb;generalize af (af (af A2 p (.lst (((cs.take a).map fun c=>fG [c]).map U.str))) p1 (.lst [.str ⟨#[v]⟩])) p2 (.lst (((cs.take a++[v]).map fun c=>fG [c]).map U.str))=A3 at e3 h6 ⊢;refine⟨_,e3 _ _ h2,?_⟩;rw[o6,Pb _ a (by rw[Yc];lia),<- List.map_drop];refine fun p3 vR=>⟨_,_,Ext.new vR _ _ h6,Zb,EG (by simp;lia),fun p4 kL=>?_⟩;rw[<- Yt,<- Yt,wy];walk_at "d";refine⟨_,Zb,Xu (fun t ht=>?_) (by simp;lia),_,Ext.new kL _ _ (Ext.new vR _ _ (e3 _ _ h3)),ZT (by simp;lia),ss++[v],_,_,rfl,?_,?_,?_,by simp[pw],fun j s hj=>?_⟩
  .obtain⟨c,_,rfl⟩:=YL.mp ht;exact Yk 1
  .exact jP (((e2.trans e3).trans (Ext.new vR)).trans (Ext.new kL)) Pd
  .rw[Zi (dN h1 hl)];exact Ext.new kL _ _ (Ext.new vR _ _ (e3 _ _ h2))
  .rw[Zb,Xr,Yt,Yt];rfl
  .by_cases yS:j<ss.length
   .rw[Y6 yS]at hj;exact zq j s hj
   .rw[YZ (by lia)]at hj;have vW:=(Yg.mp hj).1;simp only[List.length_cons,List.length_nil]at vW;obtain rfl:j=ss.length:=by lia
    rw[uO]at hj;cases hj;rw[pw];rw[Int.zero_add]at h5;exact h5
 rintro ρ A2 ⟨ss,x6,x7,rfl,e2,h2,h3,pw,zq⟩;walk_at "d";refine sL (O_ e2 h3) (q l _ Pd (by rw[Yc,pw]) ?_ fun z hz=>?_)
 .refine Pc fun i j x h1 h2=>?_;rw[Yj]at h1 h2;obtain⟨s,g1,rfl⟩:=YM.mp h1;obtain⟨t,g2,e⟩:=YM.mp h2;obtain rfl:=Xv e;have hi:=(Yg.mp g1).1;have hj:=(Yg.mp g2).1;have f1:=Yg.mp (zq i t g1);have f2:=Yg.mp (zq j t g2);have:=(List.getElem_inj HH).mp (f1.2.trans f2.2.symm);lia
 .obtain⟨s,hs,rfl⟩:=YL.mp hz;obtain⟨j,hj⟩:=List.getElem?_of_mem hs;have vY:=Yi (zq j s hj);refine Xs (fun c hc=>?_) (by simp;lia) (by simp;lia);rcases Yv.mp hc with hc|hc
  .exact rV c (List.mem_of_mem_take hc)
  .rcases Yp.mp hc with rfl|hc
   .exact vY
   .exact rV c (List.mem_of_mem_drop hc)
end
def XA:bP:=fun us A Q=>∃ns:List Int,us=[.bK (ns.map U.int)]/\ns.length<=63/\∀l ms,A l=none->ms.length<=63->Q (.ref l) (af A l (.lst (List.map U.int ms)))
def XC:bP:=fun us A Q=>∃(l:Addr)(ns:List Int)(k:Int),us=[.ref l,.int k]/\A l=some (.lst (ns.map U.int))/\0<=k/\∀z,Q (.int z) A
section
include T
def Pe:T.fv.Ok aP 1 (aW K XC):=by
 apply T.fv.bG;walk_at "f";exact fun S hr=>⟨_,(Zc (ZG (Zj Ko (pv 1) (ZX iL T.a9 (Za (pv 0) Zd)) (Zx _)) (Ze (Zp (Zt ZW (pv 0) (pv 1) (fun _ _=>rfl)))) Zo)
   (Ze (Zp Zg))),by walk_at "ab"⟩
 rintro us A Q ⟨l,ns,k,rfl,hl,hk,q⟩;walk_at "o";refine⟨_,hl,?_⟩;rw[Yc];refine kg (fun h=>?_) fun _=>fg (q 0);have h':k<ns.length:=by simpa using h
 obtain⟨z,h1,_⟩:=Lj hk h';exact⟨_,_,hl,h1,fg (q z)⟩
theorem XD:T.ud.Ok aP 1 (aW K XA):=by
 apply T.ud.bG;walk_at "f";exact fun S hr=>⟨_,(Zc (Zq (i:=1) S.nd rfl (Or.inl rfl) (ZJ Zd))
   (Zc (Z3 YG rfl (Sl (by rfl) T.iB (Za (pv 0) Zd)) (oE (n:=2) rfl (ZD (Zl (i:=2) S.nd rfl (Or.inl rfl)) (ZD (Zl (i:=3) S.nd rfl (Or.inl rfl)) jX)))
   (Ze (ZP (iK Yz YS YT ZZ (pv 1) (Za (Zy cL (Zy Am (Zy cL (Zy fM (Zy Am (Zy cL (pv 3) (Zy DG Zg Zg)) Zg) (Zy Am Zg (pv 2))) Zg) Zg) Zg) Zd)))))
   (Ze (Zp (pv 1))))),by walk_at "ab"⟩
 rintro us A Q ⟨ns,rfl,hn,q⟩;walk_at "o";refine⟨by decide,fun p hp=>Ld (us:=gJ (ns.map U.int)) (fun k ρ A2=>∃(ms:List Int)(x2 x3:Option U),ρ=[some (.bK (ns.map U.int)),some (.ref p),x2,x3]/\A2=af A p (.lst (ms.map U.int))/\ms.length=k) ⟨[],_,_,rfl,rfl,rfl⟩ ?_ ?_⟩
 .rintro k u ρ A2 hu ⟨ms,x2,x3,rfl,rfl,hm⟩;rw[Es,Yj]at hu;cases hk:ns[k]? with
  | none=>rw[hk]at hu;cases hu
  | some z =>
   rw[hk]at hu;cases hu;have iQ:=(Yg.mp hk).1;walk_at "d";refine⟨rfl,⟨_,Zb⟩,⟨by decide,by decide,by decide⟩,by decide,An (.inr ⟨by decide,by decide⟩),An (.inl ⟨by decide,by decide⟩),by decide,An (.inr ⟨by decide,by decide⟩),by decide,_,Zb,ZT (by rw[Yc];lia),ms++[_],_,_,rfl,by rw[ZF,Yt];rfl,by simp[hm]⟩
 .rintro ρ A2 ⟨ms,x2,x3,rfl,rfl,hm⟩;rw[R8,Yc]at hm;walk_at "d";exact fg (q p ms hp (by lia))
end
def wg(ns:List Str)(rs:List Rl)(B:aw)(lc:Addr):Prop:=∃c,B lc=some (.lst (List.map U.str c))/\qY (BZ ns rs) c/\∀z∈c,z∈ns
def wg.ext(h:wg ns rs A lc)(e:Ext A B):wg ns rs B lc:=by
 obtain⟨c,h1,h2⟩:=h;exact⟨c,e _ _ h1,h2⟩
def XG(P:Program)(w:World):bP:=fun us A Q=>∃(l:Addr)(ns:List Str)(rs:List Rl),us=[.ref l]/\A l=some (.lst ((ns.zip rs).map fun p=>.tup [.str p.1,p.2.toU]))/\rs.length=ns.length/\ns.length<=60/\(∀z∈ns,d6 z=true)/\(∀r∈rs,r.size<=60/\r.wd=true) /\
 ∀i z lc,i<5->Due ns rs i z->∀B,Ext A B->(i=3->wg ns rs B lc)->Q (.tup [.str (kK i),.str z,.ref lc]) B
def jU:Nat->Addr
 | 0=>ZO
 | 1=>ZB
 | 2=>ZE
 | _=>ZN
def Xd(ns:List Str)(rs:List Rl)(i:Nat)(z:Str)(lc:Addr)(B:aw)(d:List (Str×U)):Prop:=Due ns rs i z/\(i<3/\d=[(("name":Str),U.str z)]\/i=3/\d=[(("circle":Str),U.ref lc)]/\wg ns rs B lc)
theorem XH(h1:A p=some (.lst [.bl a,.bl b,.bl c,.bl d,.bl e]))(h2:A q=some (.lst [.bl a,.bl b,.bl c,.bl d,.bl e]))(h:Q (.bl false) A):eY true (.ref p) (.ref q) A Q:=by
 have g:hX A [.bl a,.bl b,.bl c,.bl d,.bl e] [.bool a,.bool b,.bool c,.bool d,.bool e]:=.cons (.bl a) (.cons (.bl b) (.cons (.bl c) (.cons (.bl d) (.cons (.bl e) .nil))));refine⟨.list [.bool a,.bool b,.bool c,.bool d,.bool e],.list [.bool a,.bool b,.bool c,.bool d,.bool e],.lst h1 g,.lst h2 g,rfl,rfl,by simp[PyData.depth,PyData.depthAll],?_⟩;rw[if_pos rfl,show PyData.eqv (.list [.bool a,.bool b,.bool c,.bool d,.bool e]) (.list [.bool a,.bool b,.bool c,.bool d,.bool e])=true from by cases a<;>cases b<;>cases c<;>cases d<;>cases e<;>decide +kernel];exact h
theorem qY.uD{ns:List Str}{rk:Str->Nat}(h:qY le c)(hc:∀z∈c,z∈ns)(hr:∀z∈ns,∀y,le z y->rk y<rk z):False:=by
 have hlen:0<c.length:=List.length_pos_iff.mpr h.ne;have h0:c[0]? = some c[0]:=Yh hlen;have go:∀(j:Nat) a,c[j]? = some a->rk a+j<=rk c[0]:=by
  intro j;induction j with
  | zero=>intro a ha;rw[h0]at ha;cases ha;exact Yk _
  | succ j ih =>
   intro a ha;have hj:=(Yg.mp ha).1;have hb:c[j]? = some c[j]:=Yh (by lia);have i1:=ih _ hb;have i2:=hr _ (hc _ (Yi hb)) _ (h.st j _ _ hb ha);lia
 have hz:c[c.length-1]? = some c[c.length-1]:=Yh (by lia);have i1:=go _ _ hz;have i2:=hr _ (hc _ (Yi hz)) _ (h.la _ _ hz h0);lia
theorem wj(hi:i<5)(hj:j<5):decide (kK i=kK j)=decide (i=j):=by
 rcases i with _|_|_|_|_|i;all_goals rcases j with _|_|_|_|_|j
 all_goals first
  | lia
  | decide +kernel
section
include T
def HI{N:U->Addr->aw->Prop}(hl:A l=some (.lst ((ns.zip rs).map fun p=>.tup [.str p.1,p.2.toU])))(dC:rs.length=ns.length)(dY:ns.length<=60)(iG:∀z∈ns,d6 z=true)(bV:∀r∈rs,r.size<=60/\r.wd=true)(cx:A l1=none)(q1:∀z,Due ns rs 4 z->∀B x,Ext A B->N .ay x B)(q2:∀i z lc d,i<4->∀B,Ext A B->Xd ns rs i z lc B d->X (jU i) d B):
  nH (sE l) (En 2 (Ax (ml 0) (Ax (ml 1) Em))) qq (vh (iZ (gh 0) (iZ (Eh (E3 cS 60) (iZ (gh 1) nD)) nD))) l1 (fun x A1=>∀Cc dx,A1 Cc=none->OS P w aI ZO ZB ZE ZN cS [.ref Cc,x] (af A1 Cc (.ins aI dx [])) (fun u A2=>N u Cc A2) X) [none,none] (af A l1 (.lst [])):=by
 have hlen:((ns.zip rs).map fun p:Str×Rl=>U.tup [.str p.1,p.2.toU]).length=ns.length:=by rw[Yc,List.length_zip];lia
 refine Gd ((ns.zip rs).map fun p=>.tup [.str p.1,p.2.toU]) (fun k v A1=>∃b z r,ns[k]? = some z/\rs[k]? = some r/\v=.tup [.str z,.ref b]/\bZ cS A1 b r) (fun τ=>∃x y,τ=[x,y]) ⟨_,_,rfl⟩ cx (by rw[hlen];lia) (fun k A2 _ e2=>⟨_,e2 _ _ hl,rfl⟩) ?_ ?_ ?_
 .rintro k v A1 B h1 h2 ⟨b,z,r,g1,g2,g3,ho⟩;refine⟨b,z,r,g1,g2,g3,bZ.kp (fun {a C dx fs} h=>h2 _ _ (fun e=>?_) h) ho⟩;rcases h1 with h1|⟨ys,h1⟩
  .rw[e,h1]at h;cases h
  .rw[e,h1]at h;cases h
 .rintro k u τ A2 hu ⟨x,y,rfl⟩ e2 Cy hC;obtain⟨p,hp,rfl⟩:=Z0 hu;obtain⟨hz,hr⟩:=List.getElem?_zip_eq_some.mp hp;have:=(bV p.2 (Yi hr)).1;have:=pT p.2;walk_at "d";exact⟨rfl,p.2,rfl,by lia,fun B b eB ho=>⟨bI,hC _ _ B ⟨_,_,rfl⟩ eB ⟨b,p.1,p.2,hz,hr,rfl,ho⟩⟩⟩
 .intro B ys eB eR kI we;rw[hlen]at kI;obtain⟨ps,rfl,p2,p3⟩:=OU kI dC we;intro x dx hx;subst p2;have e6:=eB.trans (Ext.new eR (o:=.lst (List.map (fun p:Str×Addr=>.tup [.str p.1,.ref p.2]) ps)));have hB:n_ cS (af B l1 (.lst (List.map (fun p:Str×Addr=>.tup [.str p.1,.ref p.2]) ps))) ps rs:=⟨p3.ext (Ext.new eR),fun r hr=>by
   have h:=bV r hr;have:=pT r;exact⟨by lia,h.1,h.2⟩,by rw[Yc]at dY;exact dY,iG⟩
  exact⟨x,dx,l1,_,ps,rs,rfl,rfl,hx,Zb,hB,fun z h B2 e2=>q2 0 z 0 _ (by decide) B2 (e6.trans e2) ⟨h,.inl ⟨by decide,rfl⟩⟩,fun nd z h B2 e2=>q2 1 z 0 _ (by decide) B2 (e6.trans e2) ⟨⟨nd,h⟩,.inl ⟨by decide,rfl⟩⟩,fun nd kn=>⟨fun h1 h2 B2 e2 hb=>q1 "" ⟨nd,kn,h1,h2,rfl⟩ B2 x (e6.trans e2),fun k z r g1 g2 g3 g4 B2 e2=>q2 2 z 0 _ (by decide) B2 (e6.trans e2) ⟨⟨nd,kn,k,r,g1,g2,g3,g4⟩,.inl ⟨by decide,rfl⟩⟩,fun h1 c hc vX B2 lc e2 _ hb=>q2 3 "" lc _ (by decide) B2 (e6.trans e2) ⟨⟨nd,kn,h1,fun⟨rk,jQ⟩=>hc.uD vX jQ,rfl⟩,.inr ⟨rfl,rfl,c,hb,hc,vX⟩⟩⟩⟩
theorem XI : T.ub.Ok aP 75 (aW K (XG P w)):=by
 have kB:=VA T 60;have zr:=WA T;apply T.ub.bG;walk_at "f";exact fun S hr=>⟨_,(Zc (Zq (i:=1) S.nd rfl (Or.inr rfl) (Zz (Za Zk (Za Zk Zd))))
   (Zc (Zq (i:=2) S.nd rfl (Or.inl rfl) (ZJ Zd))
   (Zc (Zq (i:=3) S.nd rfl (Or.inl rfl) (ZJ Zd))
   (Zc (Ud (j:=4) ⟨rfl,rfl⟩ S.nd rfl rfl (M1 (Oa T.mK zr.mn hr (by rfl) T.mS T.pM.b (Za (nA (ts:=["_law_name","_law_rule_here"]) (frs':=[]) (cl:=[]) rfl .z (Z5 (pv 0)) (fun _ _ _ _=>xD K rfl 2 rfl (ZD (Zl (i:=0) (show List.Nodup (["_law_name","_law_rule_here"]:List Str)from by decide +kernel) rfl (Or.inl rfl) (.inr rfl)) (ZD (Zl (i:=1) (show List.Nodup (["_law_name","_law_rule_here"]:List Str)from by decide +kernel) rfl (Or.inl rfl) (.inr rfl)) jX)) (by rfl) (by rfl)) (fun _ _ _ _=>j7) (fun _ _ _ _=>by exact(Zz (Za (pv 0) (Za (T.gp.pc kB hr (Za (pv 1) Zd)) Zd))))) Zd))) (by rfl) T.aY (fun _=>(Zc (Zq (i:=3) S.nd rfl (Or.inl rfl) (ZJ (Za (ZX yo T.aA (Za (pv 4) (Za (Z9 (v:=.ref _) (by rfl) T.gy rfl) Zd))) (Za (ZX yo T.aA (Za (pv 4) (Za (Z9 (v:=.ref _) (by rfl) T.dA rfl) Zd))) (Za (ZX yo T.aA (Za (pv 4) (Za (Z9 (v:=.ref _) (by rfl) T.eM rfl) Zd))) (Za (ZX yo T.aA (Za (pv 4) (Za (Z9 (v:=.ref _) (by rfl) T.gz rfl) Zd))) Zd))))))
   (Ze (ZP (iK Yz YS YT ZZ (pv 3) (Za (ZX yo T.aA (Za (pv 4) (Za (DI (T:="ValueError") (by rfl) T.gA (by decide +kernel)) Zd))) Zd)))))))
   (Zc (Vi ⟨rfl,rfl⟩ (M1 (Oa T.mK zr.mn hr (by rfl) T.mS T.pM.b (Za (nA (ts:=["_law_name","_law_rule_here"]) (frs':=[]) (cl:=[]) rfl .z (Z5 (pv 0)) (fun _ _ _ _=>xD K rfl 2 rfl (ZD (Zl (i:=0) (show List.Nodup (["_law_name","_law_rule_here"]:List Str)from by decide +kernel) rfl (Or.inl rfl) (.inr rfl)) (ZD (Zl (i:=1) (show List.Nodup (["_law_name","_law_rule_here"]:List Str)from by decide +kernel) rfl (Or.inl rfl) (.inr rfl)) jX)) (by rfl) (by rfl)) (fun _ _ _ _=>j7) (fun _ _ _ _=>by exact(Zz (Za (pv 0) (Za (T.gp.pc kB hr (Za (pv 1) Zd)) Zd))))) Zd))) (BE (j:=4) ⟨rfl,rfl⟩ S.nd rfl rfl (by rfl) T.gy (fun _=>(Ze (Zq (i:=1) S.nd rfl (Or.inr rfl) (Zz (Za Zk (Za (Bv (pv 4) rfl) Zd)))))) (BE (j:=4) ⟨rfl,rfl⟩ S.nd rfl rfl (by rfl) T.dA (fun _=>(Ze (Zq (i:=1) S.nd rfl (Or.inr rfl) (Zz (Za Zk (Za (Bv (pv 4) rfl) Zd)))))) (BE (j:=4) ⟨rfl,rfl⟩ S.nd rfl rfl (by rfl) T.eM (fun _=>(Ze (Zq (i:=1) S.nd rfl (Or.inr rfl) (Zz (Za Zk (Za (Bv (pv 4) rfl) Zd)))))) (BE (j:=4) ⟨rfl,rfl⟩ S.nd rfl rfl (by rfl) T.gz (fun _=>(Zc (Zq (i:=1) S.nd rfl (Or.inr rfl) (Zz (Za Zk (Za Zk Zd))))
   (Ze (Zq (i:=2) S.nd rfl (Or.inl rfl) (Bv (pv 4) rfl))))) Vh)))))
   (Zc (Zq (i:=5) S.nd rfl (Or.inl rfl) (ZJ (qm (xs:=["twice","class","hollow","round"]) rfl)))
   (Zc (ZG ((ni (Zj (sh hr) (Zt ZW (pv 1) Zg (fun _ _=>rfl)) Zk (Zx _)) (oC (Zj (sh hr) (pv 3) (Zy fM (nA (ts:=["_law_word"]) (frs':=[("_law_told",1)]) (cl:=_) rfl .z (Z5 (pv 5)) (fun _ _ _ _=>Zl (i:=0) (show List.Nodup (["_law_word","_law_told"]:List Str)from by decide +kernel) rfl (Or.inl rfl) (.inr rfl)) (fun _ _ _ _=>j7) (fun _ _ _ _=>by exact(wV (Ky K rfl hr) (Zt (vc K rfl) (pv 1) Zg (fun _ _=>rfl)) (pv 0) (Zx _)))) (ZJ (Za kS Zd))) (Zx _))))).pt (Ze (Zp (Zz (Za Zk (Za Zk (Za (ZJ Zd) Zd)))))) Zo)
   (Ze (Zp (Zz (Za (Zt ZW (pv 1) Zg (fun _ _=>rfl)) (Za (Zt ZW (pv 1) Zg (fun _ _=>rfl)) (Za (pv 2) Zd))))))))))))),(ZK (ZR (ZV (Zf ZM (Zf ZM Zr))) Zu)
   (ZK (ZR (ZaV Zr) Zu)
   (ZK (ZR (ZaV Zr) Zu)
   (ZK (ZhN (ZcK (ZdS (Zf (Zb5 (Zbn ZbD Zh) (ZcC (ZaL Zu (ZaL Zu Zc3))) Zbd (ZV (Zf Zh (Zf (Zai (Zf Zh Zr)) Zr)))) Zr))) (ZK (ZR (ZaV (Zf (Zc7 Zdf (Zf Zh (Zf ZeA Zr))) (Zf (Zc7 Zdf (Zf Zh (Zf ZeA Zr))) (Zf (Zc7 Zdf (Zf Zh (Zf ZeA Zr))) (Zf (Zc7 Zdf (Zf Zh (Zf ZeA Zr))) Zr))))) Zu)
   (Zd6 (ZpO ZfV Zjr Zh (Zf (Zc7 Zdf (Zf Zh (Zf Zpn Zr))) Zr)))))
   (ZK (Zh0 (ZcK (ZdS (Zf (Zb5 (Zbn ZbD Zh) (ZcC (ZaL Zu (ZaL Zu Zc3))) Zbd (ZV (Zf Zh (Zf (Zai (Zf Zh Zr)) Zr)))) Zr))) (Ziz (ZR (ZV (Zf ZM (Zf (ZcQ Zh) Zr))) Zu) (Ziz (ZR (ZV (Zf ZM (Zf (ZcQ Zh) Zr))) Zu) (Ziz (ZR (ZV (Zf ZM (Zf (ZcQ Zh) Zr))) Zu) (Ziz (ZK (ZR (ZV (Zf ZM (Zf ZM Zr))) Zu)
   (ZR (ZcQ Zh) Zu)) ZqD)))))
   (ZK (ZR (ZaV Zir) Zu)
   (ZK (Zce (ZmH (ZaX (ZA Zon (ZA Zav Zh ZC) ZM)) (ZaX (ZA Zon Zh (ZA ZbR (Zb5 (Zbn ZbD Zh) Zu Zbd (ZA Zfq (ZA Zav Zh ZC) Zh)) (ZaV (Zf ZoS Zr)))))) (ZcD (ZV (Zf ZM (Zf ZM (Zf (ZaV Zr) Zr))))) Zbk)
   (ZcD (ZV (Zf (ZA Zav Zh ZC) (Zf (ZA Zav Zh ZC) (Zf Zh Zr))))))))))))⟩
 rintro us A Q ⟨l,ns,rs,rfl,hl,dC,dY,iG,bV,q⟩;walk_at "o";refine⟨bI,by decide,fun p hp=>⟨by decide,fun p1 jH=>?_⟩⟩;have XJ:p≠p1:=fun e=>by rw[<- e,Zb]at jH;cases jH
 have e1:=(Ext.new hp (o:=.lst [])).trans (Ext.new jH (o:=.lst []));have b1:af (af A p (.lst [])) p1 (.lst []) p=some (.lst []):=by rw[Zi XJ,Zb]
 generalize af (af A p (.lst [])) p1 (.lst [])=A1 at e1 b1 ⊢;refine⟨⟨_,e1 _ _ hl⟩,fun l1 cx=>HI (e1 _ _ hl) dC dY iG bV cx (fun z hz A2 x e2=>⟨rfl,⟨_,(e1.trans e2) _ _ hl⟩,fun l2 dj=>?_⟩) (fun i z lc d hi A2 e2 hd=>?_)⟩
 .refine HI ((e1.trans e2) _ _ hl) dC dY iG bV dj (fun z3 hz3 A3 x3 e3=>⟨rfl,d8,fun p4 kL=>?_⟩) (fun i z' lc d hi A3 e3 hd=>by have:=(B0 (by decide) (by lia) hz hd.1).1;lia);have e4:=((e1.trans e2).trans e3).trans (Ext.new kL (o:=.lst [.str "twice",.str "class",.str "hollow",.str "round"]));refine k8 (fun B hB=>?_) ?_
  .walk_at "d";exact Zm (by decide) hB
  walk_at "d";obtain⟨_,_,_,_,rfl⟩:=id hz;exact⟨jT,fg (q 4 _ p (by decide) hz _ e4 fun h=>nomatch h)⟩
 .have hF : i6 K (jU i) Z1 true/\nY K (jU i)/\PySem.W.kitOne K (.ref (jU i)) (.ref ZO)=some (decide (i=0))/\PySem.W.kitOne K (.ref (jU i)) (.ref ZB)=some (decide (i=1))/\PySem.W.kitOne K (.ref (jU i)) (.ref ZE)=some (decide (i=2))/\PySem.W.kitOne K (.ref (jU i)) (.ref ZN)=some (decide (i=3))/\PySem.W.kitOne K (.ref (jU i)) (.type "ValueError")=some true:=by
   rcases i with _|_|_|_|i
   .exact⟨T.cC,T.jL,T.Gw,T.Gx,T.Gy,T.Gz,T.GA⟩
   .exact⟨T.cf,T.fT,T.GB,T.GC,T.GD,T.GF,T.GG⟩
   .exact⟨T.cv,T.iA,T.yF,T.yG,T.yH,T.yI,T.yJ⟩
   .exact⟨T.cD,T.jM,T.yK,T.yL,T.yM,T.yN,T.yO⟩
   .lia
  obtain⟨y0,y1,k0,k1,k2,k3,k4⟩:=hF;refine⟨y0,fun a ax ha XM aT=>?_⟩;have f1:af (af A2 ax (iM d)) a (oX (jU i) ax) a=some (oX (jU i) ax):=Zb;have f2:af (af A2 ax (iM d)) a (oX (jU i) ax) ax=some (iM d):=by rw[Zi (Ne.symm aT),Zb]
  have f3:Ext A1 (af (af A2 ax (iM d)) a (oX (jU i) ax)):=(e2.trans (Ext.new XM)).trans (Ext.new (by rw[Zi aT];exact ha));generalize af (af A2 ax (iM d)) a (oX (jU i) ax)=A3 at f1 f2 f3 ⊢;refine⟨a,_,ax,_,_,_,rfl,f1,f2,y1,.inl ⟨_,rfl,k0⟩,a,_,ax,_,_,_,rfl,f1,f2,y1,.inl ⟨_,rfl,k1⟩,a,_,ax,_,_,_,rfl,f1,f2,y1,.inl ⟨_,rfl,k2⟩,a,_,ax,_,_,_,rfl,f1,f2,y1,.inl ⟨_,rfl,k3⟩,d8,fun pk Pf=>?_⟩;have HJ:=Ext.new Pf (o:=.lst [.bl (decide (i=0)),.bl (decide (i=1)),.bl (decide (i=2)),.bl (decide (i=3))]);refine⟨⟨_,Zb⟩,a,_,ax,_,_,_,rfl,HJ _ _ f1,HJ _ _ f2,y1,.inr (.inl ⟨_,rfl,k4⟩),_,Zb,ZT (show 4<=100000 by decide),?_⟩;rw[ZF];have e5:=(e1.trans f3).trans (Ext.new Pf (o:=.lst ([.bl (decide (i=0)),.bl (decide (i=1)),.bl (decide (i=2)),.bl (decide (i=3))]++[.bl true])));have bk:af A3 pk (.lst ([.bl (decide (i=0)),.bl (decide (i=1)),.bl (decide (i=2)),.bl (decide (i=3))]++[.bl true])) pk=some (.lst ([.bl (decide (i=0)),.bl (decide (i=1)),.bl (decide (i=2)),.bl (decide (i=3)),.bl true])):=Zb;generalize af A3 pk (.lst ([.bl (decide (i=0)),.bl (decide (i=1)),.bl (decide (i=2)),.bl (decide (i=3))]++[.bl true]))=A5 at e5 bk ⊢;clear k0 k1 k2 k3 k4 f1 f2 f3 y0 y1 HJ;have rest : ∀(A7:aw)(p4 Cd:Addr),Ext A5 A7->A7 p4=some (.lst [.str "twice",.str "class",.str "hollow",.str "round"])->(i=3->wg ns rs A7 Cd)->nN (Ef (aB (ka jz (ka jA (gh 1) (aC (U.int 0))) (aC (U.str "sound")))) (aB (ka jz (gh 3) (ka sG (Eu 1 [("_law_told",1)] (Eo xQ (gh 5)) (ml 0) qq (ka kc (ka jA (gh 1) (aC (U.int 0))) (gh 0))) (xH (iZ (aC (U.bl true)) nD)))))) (Av (vh (iZ (aC (U.str "other")) (iZ (aC (U.str "")) (iZ (xH nD) nD))))) Ej { nx:=Av (vh (iZ (ka jA (gh 1) (aC (U.int 0))) (iZ (ka jA (gh 1) (aC (U.int 1))) (iZ (gh 2) nD)))) { nx:=fun x A'=>Fg Q U.ay A',rt:=Fg Q },rt:=Fg Q } [some (U.ref l),some (U.tup [U.str (kK i),U.str z]),some (U.ref Cd),some (U.ref pk),none,some (U.ref p4)] A7:=by
   intro A7 p4 Cd e7 h4 m5;refine mE false (fun B hB=>?_) fun B eB=>Zm rfl ?_
   .walk_at "d";refine ZH (by rw[show decide (kK i=Str.ofString "sound")=decide (i=4)from wj (by lia) (j:=4) (by decide),Yu (by lia)];rfl) ⟨⟨_,h4⟩,fun l3 qR=>?_⟩;walk_at "c";refine Sh [.str "twice",.str "class",.str "hollow",.str "round"] [.bl (decide (i=0)),.bl (decide (i=1)),.bl (decide (i=2)),.bl (decide (i=3))] rfl qR (by decide) (fun k A2 _ e2=>⟨_,e2 _ _ h4,rfl⟩) ?_ ?_
    .rintro k u y A8 hu hy e9 Cy hC;rcases k with _|_|_|_|k
     .cases hu;cases hy;walk_at "d";rw[show decide (kK i=Str.ofString "twice")=decide (i=0)from wj (by lia) (j:=0) (by decide)];exact hC
     .cases hu;cases hy;walk_at "d";rw[show decide (kK i=Str.ofString "class")=decide (i=1)from wj (by lia) (j:=1) (by decide)];exact hC
     .cases hu;cases hy;walk_at "d";rw[show decide (kK i=Str.ofString "hollow")=decide (i=2)from wj (by lia) (j:=2) (by decide)];exact hC
     .cases hu;cases hy;walk_at "d";rw[show decide (kK i=Str.ofString "round")=decide (i=3)from wj (by lia) (j:=3) (by decide)];exact hC
     .cases hu
    .refine⟨by decide,fun p5 zl=>⟨_,_,Ext.new zl _ _ Zb,Zb,show 4+1<=sizeLine by decide,fun p6 Cb=>?_⟩⟩;walk_at "d";have Bf:=((Ext.new qR (o:=.lst [.bl (decide (i=0)),.bl (decide (i=1)),.bl (decide (i=2)),.bl (decide (i=3))])).trans (Ext.new zl (o:=.lst [.bl true]))).trans (Ext.new Cb (o:=.lst ([.bl (decide (i=0)),.bl (decide (i=1)),.bl (decide (i=2)),.bl (decide (i=3))]++[.bl true])));exact XH ((e7.trans Bf) _ _ bk) Zb ⟨_,rfl,hB _ Bf⟩
   walk_at "d";exact⟨jT,fg (q i z Cd (by lia) hd.1 _ ((e5.trans e7).trans eB) fun h=>(m5 h).ext eB)⟩
  refine⟨⟨_,e5 _ _ hl⟩,fun l2 dj=>?_⟩;refine HI (e5 _ _ hl) dC dY iG bV dj (fun z' fq=>by have:=(B0 (by decide) (by lia) fq hd.1).1;lia) (fun i' z' Pg d' kX A6 e6 fb=>?_);obtain⟨rfl,rfl⟩:=B0 (by lia) (by lia) fb.1 hd.1;obtain⟨_,⟨h3,rfl⟩|⟨rfl,rfl,m5⟩⟩:=fb
  .rcases i' with _|_|_|i'
   .exact .inl ⟨T.fC,fun a2 rg i4 jj eV=>⟨a2,_,rg,_,_,rfl,Zb,by rw[Zi (Ne.symm eV),Zb],T.jL,T.c8,lB,bI,d8,fun p4 kL=>rest _ p4 p (((e6.trans (Ext.new jj)).trans (Ext.new (by rw[Zi eV];exact i4))).trans (Ext.new kL)) Zb fun h=>nomatch h⟩⟩
   .exact .inr ⟨T.dU,.inl ⟨T.c9,fun a2 rg i4 jj eV=>⟨a2,_,rg,_,_,rfl,Zb,by rw[Zi (Ne.symm eV),Zb],T.fT,T.cq,lB,bI,d8,fun p4 kL=>rest _ p4 p (((e6.trans (Ext.new jj)).trans (Ext.new (by rw[Zi eV];exact i4))).trans (Ext.new kL)) Zb fun h=>nomatch h⟩⟩⟩
   .exact .inr ⟨T.eN,.inr ⟨T.dB,.inl ⟨T.dW,fun a2 rg i4 jj eV=>⟨a2,_,rg,_,_,rfl,Zb,by rw[Zi (Ne.symm eV),Zb],T.iA,T.cF,lB,bI,d8,fun p4 kL=>rest _ p4 p (((e6.trans (Ext.new jj)).trans (Ext.new (by rw[Zi eV];exact i4))).trans (Ext.new kL)) Zb fun h=>nomatch h⟩⟩⟩⟩
   .lia
  .exact .inr ⟨T.fD,.inr ⟨T.dX,.inr ⟨T.eO,.inl ⟨T.fE,fun a2 rg i4 jj eV=>⟨bI,a2,_,rg,_,_,rfl,Zb,by rw[Zi (Ne.symm eV),Zb],T.jM,T.cu,lB,d8,fun p4 kL=>by
    obtain⟨_,_,_,_,rfl⟩:=id hd.1;have e8:=((Ext.new jj (o:=iM [(("circle":Str),U.ref Pg)])).trans (Ext.new (o:=oX (jU 3) rg) (by rw[Zi eV];exact i4))).trans (Ext.new kL (o:=.lst [.str "twice",.str "class",.str "hollow",.str "round"]));exact rest _ p4 Pg (e6.trans e8) Zb fun _=>m5.ext e8⟩⟩⟩⟩⟩
end
def wk{es rest:List Expr}:starEach (.Tuple es k p::rest) env=(false,eval (.Tuple es k p) env)::starEach rest env:=by rfl
def stC{rest:List Expr}:starEach (.Constant c k p::rest) env=(false,eval (.Constant c k p) env)::starEach rest env:=by rfl
def a1{X:Cx}{s:Str}{k:Nat}{p:Pos}{j:Nat}{q:Pos}:=(Zz (Za Zk Zd stC):PE X (.Tuple [.Constant (.str s) k p] j q) _)
def a2{X:Cx}{s s2:Str}{k k2:Nat}{p p2:Pos}{j:Nat}{q:Pos}:=(Zz (Za Zk (Za Zk Zd stC) stC):PE X (.Tuple [.Constant (.str s) k p,.Constant (.str s2) k2 p2] j q) _)
def a5{X:Cx}{s s2 s3 s4:Str}{k k2 k3 k4:Nat}{p p2 p3 p4:Pos}{j j2 j3:Nat}{q q2 q3:Pos}:=(Zz (Za Zk (Za a1 (Za a2 Zd wk) wk) stC):PE X (.Tuple [.Constant (.str s) k p,.Tuple [.Constant (.str s2) k2 p2] j2 q2,.Tuple [.Constant (.str s3) k3 p3,.Constant (.str s4) k4 p4] j3 q3] j q) _)
def a6{X:Cx}{s s3 s4:Str}{k k3 k4:Nat}{p p3 p4:Pos}{j j3:Nat}{q q3:Pos}:=(Zz (Za Zk (Za a2 Zd wk) stC):PE X (.Tuple [.Constant (.str s) k p,.Tuple [.Constant (.str s3) k3 p3,.Constant (.str s4) k4 p4] j3 q3] j q) _)
def XN{X:Cx}{e1 e2 e3:Expr}{t1 t2 t3:TE}{q:Pos}(h1:PE X e1 t1)(h2:PE X e2 t2)(h3:PE X e3 t3)(g1:∀rest,starEach (e1::rest) X.env=(false,eval e1 X.env)::starEach rest X.env)(g2:∀rest,starEach (e2::rest) X.env=(false,eval e2 X.env)::starEach rest X.env)(g3:∀rest,starEach (e3::rest) X.env=(false,eval e3 X.env)::starEach rest X.env):=(ZJ (Za h1 (Za h2 (Za h3 Zd (g3 _)) (g2 _)) (g1 _)):PE X (.List [e1,e2,e3] q) _)
def XQ{X:Cx}{s0 s1 s2 s3:Str}{k0 k1 k2 k3:Nat}{p0 p1 XR p2 p3 XS XU:Pos}:=(ZJ (Za (ZJ (Za Zk (Za Zk Zd))) (Za (ZJ (Za Zk (Za Zk Zd))) Zd)):PE X (.List [.List [.Constant (.str s0) k0 p0,.Constant (.str s1) k1 p1] XR,.List [.Constant (.str s2) k2 p2,.Constant (.str s3) k3 p3] XS] XU) _)
def t8:TE:=uX (cR (qi (cR (tC (.str "nothing")) f9)) (cR (qi (cR (tC (.str "or")) (cR (qi (cR (tC (.str "nothing")) f9)) (cR (qi (cR (tC (.str "bead")) (cR (tC (.str "ash")) f9))) f9)))) (cR (qi (cR (tC (.str "bag")) (cR (qi (cR (tC (.str "bead")) (cR (tC (.str "ash")) f9))) f9))) f9)))
def t4:TE:=uX (cR (uX (cR (tC (.str "row")) (cR (tC (.str "bag")) f9))) (cR (uX (cR (tC (.str "choice")) (cR (tC (.str "ring")) f9))) f9))
def Ce(k:Bool)(R:aQ->aw->Prop)(h1:∀B:Bool->aw->Prop,B k A->c ρ A B)(h2:k=true->∀N:aQ->aw->Prop,(∀ρ A,R ρ A->N ρ A)->t { D with nx:=N } ρ A)(h3:k=false->∀N:aQ->aw->Prop,(∀ρ A,R ρ A->N ρ A)->e { D with nx:=N } ρ A)(h:∀ρ A,R ρ A->D.nx ρ A):nN c t e D ρ A:=h1 _ (by
 cases k with
 | true=>exact gI rfl (h2 rfl D.nx h)
 | false=>exact jw (by decide) (h3 rfl D.nx h))
def fP(p:Str×Rl):U:=.tup [.str p.1,p.2.toU]
def PB(c:Nat)(ps:List (Str×Rl)):Prop:=∀p∈ps,d6 p.1=true/\p.2.wd=true/\p.2.size<=c
def PB.set(h:PB c ps)(hc:c<=c')(hz:d6 z=true)(hr:r.wd=true)(hs:r.size<=c'):PB c' (ps.set a (z,r)):=fun p hp=>by
 rcases List.mem_or_eq_of_mem_set hp with h1|rfl
 .obtain⟨x,y,z⟩:=h p h1;exact⟨x,y,YB z hc⟩
 .exact⟨hz,hr,hs⟩
def PB.up(h:PB c ps)(hc:c<=c'):PB c' ps:=fun p hp=>by
 obtain⟨x,y,z⟩:=h p hp;exact⟨x,y,YB z hc⟩
def XW:bP:=fun us A Q=>∃(lp lw ls:Addr)(ps:List (Str×Rl))(ws:List Str)(ms:List Int),us=[.ref lp,.ref lw,.ref ls]/\A lp=some (.lst (ps.map fP))/\0<ps.length/\ps.length<=8/\PB 40 ps/\A lw=some (.lst (ws.map U.str))/\2<=ws.length/\ws.length<=20/\(∀z∈ws,d6 z=true)/\A ls=some (.lst (ms.map U.int))/\lw≠lp/\ls≠lp/\∀B l' dQ,dQ.length<=9->PB 60 dQ->B l'=some (.lst (dQ.map fP))->Q (.ref l') B
def RS(lp lw ls:Addr)(f:Int)(A:aw)(m c:Nat)(ρ:aQ)(A':aw):Prop:=∃(dQ:List (Str×Rl))(x5 x6 x7 x8 x9:Option U),ρ=[some (.ref lp),some (.ref lw),some (.ref ls),some (.int f),some (.int (m:Int)),x5,x6,x7,x8,x9]/\Kx lp A A'/\A' lp=some (.lst (dQ.map fP))/\dQ.length=m/\PB c dQ
theorem zt{m:Nat}(hm:0<m)(x:Int):∃a:Nat,x % (m:Int)=a/\a<m:=by
 have h0:=ng x (show(m:Int)≠0 by lia);have h1:=qc x (show 0<(m:Int) by lia);obtain⟨a,ha⟩:=uI h0;exact⟨a,ha,by lia⟩
theorem XX{ws:List Str}(h:2<=ws.length)(hi:i=-2\/i=-1):∃z∈ws,bX (ws.map U.str) i=some (.str z):=by
 have hl:(i+(ws.length:Int)).toNat<ws.length:=by lia
 refine⟨ws[(i+(ws.length:Int)).toNat],rq hl,?_⟩;unfold bX iU;rw[Yc,if_neg (by lia),if_pos (by lia)];show(ws.map U.str)[(i+(ws.length:Int)).toNat]? = _;rw[Yj,Yh hl];rfl
theorem XY(h0:0<=k)(h3:k<3):∃r:Rl,bX [U.tup [.str "nothing"],.tup [.str "or",.tup [.str "nothing"],.tup [.str "bead",.str "ash"]],.tup [.str "bag",.tup [.str "bead",.str "ash"]]] k=some r.toU/\r.wd=true/\r.size<=3:=by
 obtain⟨n,rfl⟩:=uI h0;have hn:n<3:=by lia
 rcases n with _|_|_|n
 .exact⟨.nothing,ZQ rfl,rfl,by decide⟩
 .exact⟨.or .nothing (.bead "ash"),ZQ rfl,by decide +kernel,Yk 3⟩
 .exact⟨.hold 1 (.bead "ash"),ZQ rfl,by decide +kernel,by decide⟩
 .lia
def rh{ps:List (Str×Rl)}{a:Nat}(h:ps[a]? = some p):bX (ps.map fP) (a:Int)=some (.tup [.str p.1,p.2.toU]):=ZQ (by rw[Yj,h];rfl)
section
include T
theorem XZ:T.uc.Ok aP 3 (aW K XW):=by
 have gD:=Pe T;apply T.uc.bG;walk_at "f";generalize hD:(Expr.List ([ (Expr.Tuple ([(Expr.Constant (Const.str "nothing") 0 ⟨453,22,453,31⟩)]) (0) (⟨453,21,453,33⟩)),(Expr.Tuple ([ (Expr.Constant (Const.str "or") 0 ⟨453,36,453,40⟩),(Expr.Tuple ([(Expr.Constant (Const.str "nothing") 0 ⟨453,43,453,52⟩)]) (0) (⟨453,42,453,54⟩)),(Expr.Tuple ([ (Expr.Constant (Const.str "bead") 0 ⟨453,57,453,63⟩),(Expr.Constant (Const.str "ash") 0 ⟨453,65,453,70⟩)]) (0) (⟨453,56,453,71⟩))]) (0) (⟨453,35,453,72⟩)),(Expr.Tuple ([ (Expr.Constant (Const.str "bag") 0 ⟨453,75,453,80⟩),(Expr.Tuple ([ (Expr.Constant (Const.str "bead") 0 ⟨453,83,453,89⟩),(Expr.Constant (Const.str "ash") 0 ⟨453,91,453,96⟩)]) (0) (⟨453,82,453,97⟩))]) (0) (⟨453,74,453,98⟩))]) (⟨453,20,453,99⟩))=D;generalize hE:(Expr.List ([ (Expr.List ([ (Expr.Constant (Const.str "row") 0 ⟨454,28,454,33⟩),(Expr.Constant (Const.str "bag") 0 ⟨454,35,454,40⟩)]) (⟨454,27,454,41⟩)),(Expr.List ([ (Expr.Constant (Const.str "choice") 0 ⟨454,44,454,52⟩),(Expr.Constant (Const.str "ring") 0 ⟨454,54,454,60⟩)]) (⟨454,43,454,61⟩))]) (⟨454,26,454,62⟩))=E;have pD:∀X,PE X D t8:=fun X=>by
  subst hD;unfold t8;with_reducible exact XN a1 a5 a6 (fun _=>wk) (fun _=>wk) (fun _=>wk)
 have pE:∀X,PE X E t4:=fun X=>by
  subst hE;unfold t4;with_reducible exact XQ
 clear hD hE;intro _ _ _ _ _ _ S hr;exact⟨_,(Zc (Zq (i:=3) S.nd rfl (Or.inl rfl) (T.fv.pc gD hr (Za (pv 2) (Za Zg Zd))))
   (Zc (Zq (i:=4) S.nd rfl (Or.inl rfl) (ZX iL T.a9 (Za (pv 0) Zd)))
   (Zc (ZG (Zj (cM hr) (Zy cL (Zy gc (pv 3) Zg) Zg) Zg (Zx _)) (Ze (Z3 YG rfl (ql rfl T.bE (Za (Zy fM Zg (Zy cL (Zy gc (pv 3) Zg) Zg)) Zd)) (Zl (i:=5) S.nd rfl (Or.inl rfl))
   (Zc (Zq (i:=6) S.nd rfl (Or.inl rfl) (Zy cL (Zy gc (T.fv.pc gD hr (Za (pv 2) (Za Zg Zd))) (Zy fM (pv 5) Zg)) (pv 4)))
   (Zc (Zq (i:=7) S.nd rfl (Or.inl rfl) (Zz (Za Zk (Za (Zt ZW (Zt ZW (pv 0) (pv 6) (fun _ _=>rfl)) Zg (fun _ _=>rfl)) (Za (Zz (Za Zk (Za (Zz (Za Zk (Za Zk Zd))) (Za (Zz (Za Zk (Za (Zt ZW (pv 1) (Zy va (Zy cL (Zy fM (Zy gc (pv 3) Zg) (pv 5)) Zg) Zg) (fun _ _=>rfl)) Zd))) Zd)))) Zd)))))
   (Ze (nq (Zz (Za (Zt ZW (Zt ZW (pv 0) (pv 6) (fun _ _=>rfl)) Zg (fun _ _=>rfl)) (Za (pv 7) Zd))) (nk (pv 0) (pv 6) Dh))))))) Zo)
   (Zc (ZG (Zj (cM hr) (Zy cL (Zy gc (pv 3) Zg) Zg) Zg (Zx _)) (Zc (Zq (i:=6) S.nd rfl (Or.inl rfl) (Zy cL (Zy gc (T.fv.pc gD hr (Za (pv 2) (Za Zg Zd))) Zg) (pv 4)))
   (Zc (Zq (i:=8) S.nd rfl (Or.inl rfl) (Zt ZW (pD _) (Zy cL (Zy gc (pv 3) Zg) Zg) (fun _ _=>rfl)))
   (Zc (Zq (i:=7) S.nd rfl (Or.inl rfl) (Zz (Za (Zt ZW (Zt ZW (pE _) (Zy cL (Zy gc (pv 3) Zg) Zg) (fun _ _=>rfl)) (Zy cL (Zy gc (pv 3) Zg) Zg) (fun _ _=>rfl)) (Za (pv 8) Zd))))
   (Ze (nq (Zz (Za (Zt ZW (Zt ZW (pv 0) (pv 6) (fun _ _=>rfl)) Zg (fun _ _=>rfl)) (Za (Zz (Za (Zt ZW (ZJ (Za Zk (Za Zk Zd))) (Zy cL (Zy gc (pv 3) Zg) Zg) (fun _ _=>rfl)) (Za (pv 7) (Za (Zt ZW (Zt ZW (pv 0) (pv 6) (fun _ _=>rfl)) Zg (fun _ _=>rfl)) Zd)))) Zd))) (nk (pv 0) (pv 6) Dh)))))) Zo)
   (Zc (ZG (Zj (cM hr) (Zy cL (Zy gc (pv 3) Zg) Zg) Zg (Zx _)) (Zc (Zq (i:=6) S.nd rfl (Or.inl rfl) (Zy cL (Zy gc (T.fv.pc gD hr (Za (pv 2) (Za Zg Zd))) Zg) (pv 4)))
   (Ze (nq (Zz (Za (Zt ZW (Zt ZW (pv 0) (pv 6) (fun _ _=>rfl)) Zg (fun _ _=>rfl)) (Za (Zz (Za Zk (Za (Zt ZW (Zt ZW (pv 0) (pv 6) (fun _ _=>rfl)) Zg (fun _ _=>rfl)) (Za (Zz (Za Zk (Za (Zt ZW (Zt ZW (pv 0) (pv 6) (fun _ _=>rfl)) Zg (fun _ _=>rfl)) Zd))) Zd)))) Zd))) (nk (pv 0) (pv 6) Dh)))) Zo)
   (Zc (ZG (Zj (cM hr) (Zy cL (pv 3) Zg) Zg (Zx _)) (Zc (Zq (i:=6) S.nd rfl (Or.inl rfl) (Zy cL (Zy gc (T.fv.pc gD hr (Za (pv 2) (Za Zg Zd))) Zg) (pv 4)))
   (Zc (Zq (i:=9) S.nd rfl (Or.inl rfl) (Zy fM (Zy fM (pv 6) Zg) (Zy cL (Zy gc (T.fv.pc gD hr (Za (pv 2) (Za Zg Zd))) Zg) (Zy va (pv 4) (pv 6)))))
   (Ze (Zq (i:=0) S.nd rfl (Or.inl rfl) (Zy fM (Zy fM (nv nB (pv 0) oN (lW (pv 9))) (ZJ (Za (Zz (Za (Zt ZW (Zt ZW (pv 0) (pv 6) (fun _ _=>rfl)) Zg (fun _ _=>rfl)) (Za (Zz (Za Zk (Za Zk Zd))) Zd))) Zd))) (nv nB (pv 0) (lW (pv 9)) oN)))))) Zo)
   (Ze (Zp (pv 0))))))))),(ZK (ZR (Zai (Zf Zh (Zf ZC Zr))) Zu)
   (ZK (ZR (Zc7 ZmB (Zf Zh Zr)) Zu)
   (ZK (Zce (ZaX (ZA Zfq (ZA ZaI (ZA ZaR Zh ZC) ZC) ZC)) (Zl9 (Zgl (Zf (ZA ZbR ZC (ZA ZaI (ZA ZaR Zh ZC) ZC)) Zr)) Zu
   (ZK (ZR (ZA ZaI (ZA ZaR (Zai (Zf Zh (Zf ZC Zr))) (ZA ZbR Zh ZC)) Zh) Zu)
   (ZK (ZR (ZV (Zf ZM (Zf (ZA Zav (ZA Zav Zh Zh) ZC) (Zf (ZV (Zf ZM (Zf (ZV (Zf ZM (Zf ZM Zr))) (Zf (ZV (Zf ZM (Zf (ZA Zav Zh (ZA ZhM (ZA ZaI (ZA ZbR (ZA ZaR Zh ZC) Zh) ZC) ZC)) Zr))) Zr)))) Zr)))) Zu)
   (ZR (ZV (Zf (ZA Zav (ZA Zav Zh Zh) ZC) (Zf Zh Zr))) (ZdW Zh Zh))))) Zbk)
   (ZK (Zce (ZaX (ZA Zfq (ZA ZaI (ZA ZaR Zh ZC) ZC) ZC)) (ZK (ZR (ZA ZaI (ZA ZaR (Zai (Zf Zh (Zf ZC Zr))) ZC) Zh) Zu)
   (ZK (ZR (ZA Zav (ZaV (Zf (ZV (Zf ZM Zr)) (Zf (ZV (Zf ZM (Zf (ZV (Zf ZM Zr)) (Zf (ZV (Zf ZM (Zf ZM Zr))) Zr)))) (Zf (ZV (Zf ZM (Zf (ZV (Zf ZM (Zf ZM Zr))) Zr))) Zr)))) (ZA ZaI (ZA ZaR Zh ZC) ZC)) Zu)
   (ZK (ZR (ZV (Zf (ZA Zav (ZA Zav (ZaV (Zf (ZaV (Zf ZM (Zf ZM Zr))) (Zf (ZaV (Zf ZM (Zf ZM Zr))) Zr))) (ZA ZaI (ZA ZaR Zh ZC) ZC)) (ZA ZaI (ZA ZaR Zh ZC) ZC)) (Zf Zh Zr))) Zu)
   (ZR (ZV (Zf (ZA Zav (ZA Zav Zh Zh) ZC) (Zf (ZV (Zf (ZA Zav (ZaV (Zf ZM (Zf ZM Zr))) (ZA ZaI (ZA ZaR Zh ZC) ZC)) (Zf Zh (Zf (ZA Zav (ZA Zav Zh Zh) ZC) Zr)))) Zr))) (ZdW Zh Zh))))) Zbk)
   (ZK (Zce (ZaX (ZA Zfq (ZA ZaI (ZA ZaR Zh ZC) ZC) ZC)) (ZK (ZR (ZA ZaI (ZA ZaR (Zai (Zf Zh (Zf ZC Zr))) ZC) Zh) Zu)
   (ZR (ZV (Zf (ZA Zav (ZA Zav Zh Zh) ZC) (Zf (ZV (Zf ZM (Zf (ZA Zav (ZA Zav Zh Zh) ZC) (Zf (ZV (Zf ZM (Zf (ZA Zav (ZA Zav Zh Zh) ZC) Zr))) Zr)))) Zr))) (ZdW Zh Zh))) Zbk)
   (ZK (Zce (ZaX (ZA Zfq (ZA ZaI Zh ZC) ZC)) (ZK (ZR (ZA ZaI (ZA ZaR (Zai (Zf Zh (Zf ZC Zr))) ZC) Zh) Zu)
   (ZK (ZR (ZA ZbR (ZA ZbR Zh ZC) (ZA ZaI (ZA ZaR (Zai (Zf Zh (Zf ZC Zr))) ZC) (ZA ZhM Zh Zh))) Zu)
   (ZR (ZA ZbR (ZA ZbR (Zoo Zia Zh ZcH (Zfg Zh)) (ZaV (Zf (ZV (Zf (ZA Zav (ZA Zav Zh Zh) ZC) (Zf (ZV (Zf ZM (Zf ZM Zr))) Zr))) Zr))) (Zoo Zia Zh (Zfg Zh) ZcH)) Zu))) Zbk)
   (ZcD Zh)))))))⟩
 rintro us A Q ⟨lp,lw,ls,ps,ws,ms,rfl,hp,n8,X0,hb,hw,X1,X2,Cf,hs,n1,n2,q⟩;walk_at "o";refine⟨ls,ms,2,rfl,hs,by decide,fun f=>?_⟩;walk_at "d";refine⟨_,hp,?_⟩;rw[Yc];generalize hm:ps.length=m at n8 X0;refine Ce (decide (f / 2 % 2=1)) (RS lp lw ls f A m 48) (fun B hB=>?_) (fun h=>?_) (fun h=>?_) ?_
 .walk_at "d";exact⟨⟨by decide,by decide⟩,by decide,hB⟩
 .intro N hN;obtain⟨j,hj,kY⟩:∃j:Nat,1+f / 16 % 2=(j:Int)/\j<=2:=⟨(1+f / 16 % 2).toNat,by lia,by lia⟩;walk_at "d";rw[hj];refine⟨⟨by decide,by decide⟩,by decide,by lia,by lia,sJ (n:=j) (fun k ρ A2=>RS lp lw ls f A m (40+4*k) ρ A2) ⟨ps,_,_,_,_,_,rfl,Kx.of (Ext.refl _),hp,hm,hb⟩ ?_ ?_⟩
  .rintro k ρ A2 hk ⟨gE,x5,x6,x7,x8,x9,rfl,e2,h2,hm2,fu⟩;rw[Int.zero_add];walk_at "d";refine⟨ls,ms,3,rfl,e2 _ _ n2 hs,by decide,fun c=>?_⟩;walk_at "d";obtain⟨a,ha,HL⟩:=zt n8 (c / ((k:Int)+1));rw[ha];obtain⟨p,h_⟩:∃p,gE[a]? = some p:=⟨_,Yh (by lia)⟩;obtain⟨z,hz,X3⟩:=XX X1 (i:=(f / 32+k) % 2-2) (by lia);obtain⟨g1,g2,g3⟩:=fu p (Yi h_);refine⟨⟨by lia,by lia⟩,by lia,_,_,h2,rh h_,?_⟩;walk_at "d";refine⟨bI,⟨by decide,by decide⟩,by decide,_,_,e2 _ _ n1 hw,X3,bI,jT,jT,_,_,h2,rh h_,?_⟩;walk_at "d";refine⟨bI,lp,_,_,a,rfl,rfl,h2,D6 (by rw[Yc];lia),gE.set a (p.1,.or p.2 (.bh (.bead "red") (.named z))),_,_,_,_,_,rfl,e2.upd,?_,by rw[zJ];exact hm2,fu.set (by lia) g1 ?_ ?_⟩
   .rw[Zb,List.map_set];rfl
   .simp only[Rl.wd,g2,Cf z hz,Bool.and_true,Bool.true_and];decide +kernel
   .simp only[Rl.size];lia
  .rintro ρ A2 ⟨gE,x5,x6,x7,x8,x9,rfl,e2,h2,hm2,fu⟩;exact hN _ _ ⟨gE,_,_,_,_,_,rfl,e2,h2,hm2,fu.up (by lia)⟩
 .intro N hN;exact hN _ _ ⟨ps,_,_,_,_,_,rfl,Kx.of (Ext.refl _),hp,hm,hb.up (by decide)⟩
 clear hp hb hm;rintro ρ A2 ⟨gE,x5,x6,x7,x8,x9,rfl,e2,h2,hm2,fu⟩;walk_at "d";refine Ce (decide (f / 4 % 2=1)) (RS lp lw ls f A m 53) (fun B hB=>?_) (fun h=>?_) (fun h=>?_) ?_
 .walk_at "d";exact⟨⟨by decide,by decide⟩,by decide,hB⟩
 .intro N hN;walk_at "d";refine⟨ls,ms,3,rfl,e2 _ _ n2 hs,by decide,fun c=>?_⟩;walk_at "d";obtain⟨a,ha,HL⟩:=zt n8 (c / 7);rw[ha];obtain⟨p,h_⟩:∃p,gE[a]? = some p:=⟨_,Yh (by lia)⟩;obtain⟨g1,g2,g3⟩:=fu p (Yi h_);obtain⟨r,hr,X4,bV⟩:=XY (k:=f / 64 % 3) (by lia) (by lia);refine⟨⟨by decide,by decide⟩,by lia,by decide,by decide,bI,jT,bI,bI,jT,fun q1 rj=>⟨⟨by decide,by decide⟩,by decide,_,_,Zb,hr,bI,fun q2 p8=>⟨bI,fun q3 zu=>⟨bI,fun q4 uE=>⟨⟨by decide,by decide⟩,by decide,?_⟩⟩⟩⟩⟩;have e4:=(((Ext.new rj (o:=.lst [.tup [.str "nothing"],.tup [.str "or",.tup [.str "nothing"],.tup [.str "bead",.str "ash"]],.tup [.str "bag",.tup [.str "bead",.str "ash"]]])).trans (Ext.new p8 (o:=.lst [.str "row",.str "bag"]))).trans (Ext.new zu (o:=.lst [.str "choice",.str "ring"]))).trans (Ext.new uE (o:=.lst [.ref q2,.ref q3]));obtain⟨q0,us,j,f1,f2,f3⟩:∃q0 us j,bX [U.ref q2,U.ref q3] (f / 192 % 2)=some (.ref q0)/\af (af (af (af A2 q1 (.lst [.tup [.str "nothing"],.tup [.str "or",.tup [.str "nothing"],.tup [.str "bead",.str "ash"]],.tup [.str "bag",.tup [.str "bead",.str "ash"]]])) q2 (.lst [.str "row",.str "bag"])) q3 (.lst [.str "choice",.str "ring"])) q4 (.lst [.ref q2,.ref q3]) q0=some (.lst us)/\bX us (f / 384 % 2)=some (.str (Z8 j)):=by
   have h1:f / 192 % 2=0\/f / 192 % 2=1:=by lia
   have h3:f / 384 % 2=0\/f / 384 % 2=1:=by lia
   rcases h1 with h1|h1
   .rw[h1];rcases h3 with h3|h3
    .rw[h3];exact⟨q2,_,0,rfl,Ext.new uE _ _ (Ext.new zu _ _ Zb),rfl⟩
    .rw[h3];exact⟨q2,_,1,rfl,Ext.new uE _ _ (Ext.new zu _ _ Zb),rfl⟩
   .rw[h1];rcases h3 with h3|h3
    .rw[h3];exact⟨q3,_,2,rfl,Ext.new uE _ _ Zb,rfl⟩
    .rw[h3];exact⟨q3,_,3,rfl,Ext.new uE _ _ Zb,rfl⟩
  refine⟨_,_,Zb,f1,⟨by decide,by decide⟩,by decide,?_⟩;generalize af (af (af (af A2 q1 _) q2 _) q3 _) q4 _=A4 at e4 f2 ⊢;walk_at "d";refine⟨_,_,f2,f3,bI,_,_,e4 _ _ h2,rh h_,?_⟩;walk_at "d";obtain⟨zz,f',hz,hf,hR⟩:=O9 (k:=f / 768 % 2) (by lia);refine⟨bI,fun q5 v8=>⟨⟨by decide,by decide⟩,by decide,_,_,Zb,hz,_,_,Ext.new v8 _ _ (e4 _ _ h2),rh h_,?_⟩⟩;walk_at "d";have e5:Kx lp A A4:=fun y u n h=>e4 _ _ (e2 y u n h);refine⟨jT,bI,lp,_,_,a,rfl,rfl,Ext.new v8 _ _ (e4 _ _ h2),D6 (by rw[Yc];lia),hN _ _ ⟨gE.set a (p.1,f' (.hold j r) p.2),_,_,_,_,_,rfl,(e5.new v8).upd,?_,by rw[zJ];exact hm2,fu.set (by lia) g1 (hR (r.bb++p.2.bb) (.hold j r) p.2 ⟨X4,fun z h=>YY _ h⟩ ⟨g2,fun z h=>Yy _ h⟩).wd ?_⟩⟩
  .rw[Zb,List.map_set];show some (AO.lst (_:List U))=some (.lst ((gE.map fP).set a (.tup [.str p.1,(f' (.hold j r) p.2).toU])));rw[<- (hf _ _).1];rfl
  .simp only[(hf _ _).2,Rl.size];lia
 .intro N hN;exact hN _ _ ⟨gE,_,_,_,_,_,rfl,e2,h2,hm2,fu.up (by decide)⟩
 clear h2 fu hm2 e2;rintro ρ A2 ⟨gE,x5,x6,x7,x8,x9,rfl,e2,h2,hm2,fu⟩;walk_at "d";refine Ce (decide (f / 8 % 2=1)) (RS lp lw ls f A m 55) (fun B hB=>?_) (fun h=>?_) (fun h=>?_) ?_
 .walk_at "d";exact⟨⟨by decide,by decide⟩,by decide,hB⟩
 .intro N hN;walk_at "d";refine⟨ls,ms,3,rfl,e2 _ _ n2 hs,by decide,fun c=>?_⟩;walk_at "d";obtain⟨a,ha,HL⟩:=zt n8 (c / 53);rw[ha];obtain⟨p,h_⟩:∃p,gE[a]? = some p:=⟨_,Yh (by lia)⟩;obtain⟨g1,g2,g3⟩:=fu p (Yi h_);refine⟨⟨by decide,by decide⟩,by lia,_,_,h2,rh h_,?_⟩;walk_at "d";refine⟨_,_,h2,rh h_,?_⟩;walk_at "d";refine⟨_,_,h2,rh h_,?_⟩;walk_at "d";refine⟨bI,jT,bI,lp,_,_,a,rfl,rfl,h2,D6 (by rw[Yc];lia),hN _ _ ⟨gE.set a (p.1,.or p.2 (.named p.1)),_,_,_,_,_,rfl,e2.upd,?_,by rw[zJ];exact hm2,fu.set (by lia) g1 ?_ ?_⟩⟩
  .rw[Zb,List.map_set];rfl
  .simp only[Rl.wd,g1,g2,Bool.and_self]
  .simp only[Rl.size];lia
 .intro N hN;exact hN _ _ ⟨gE,_,_,_,_,_,rfl,e2,h2,hm2,fu.up (by decide)⟩
 clear h2 fu hm2 e2;rintro ρ A2 ⟨gE,x5,x6,x7,x8,x9,rfl,e2,h2,hm2,fu⟩;walk_at "d";refine Ce (decide (f % 2=1)) (fun ρ A3=>∃(l':Addr)(dQ:List (Str×Rl))(x1 x2 x3 x4 x5 x6 x7 x8 x9:Option U),ρ=[some (.ref l'),x1,x2,x3,x4,x5,x6,x7,x8,x9]/\dQ.length<=9/\PB 60 dQ/\A3 l'=some (.lst (dQ.map fP))) (fun B hB=>?_) (fun h=>?_) (fun h=>?_) ?_
 .walk_at "d";exact⟨by decide,hB⟩
 .intro N hN;walk_at "d";refine⟨ls,ms,3,rfl,e2 _ _ n2 hs,by decide,fun c=>?_⟩;walk_at "d";obtain⟨a,ha,HL⟩:=zt n8 (c / 371);rw[ha];obtain⟨p,h_⟩:∃p,gE[a]? = some p:=⟨_,Yh (by lia)⟩;obtain⟨g1,g2,g3⟩:=fu p (Yi h_);refine⟨⟨by decide,by decide⟩,by lia,ls,ms,3,rfl,e2 _ _ n2 hs,by decide,fun c'=>?_⟩;walk_at "d";obtain⟨b,nM,hbm⟩:=zt (m:=m-a) (by lia) (c' / 2597);rw[show((m-a:Nat):Int)=(m:Int)-a by lia]at nM;rw[nM,show(a:Int)+1+b=((a+1+b:Nat):Int) by lia];refine⟨⟨by decide,by decide⟩,by lia,_,h2,fun q1 rj=>⟨_,_,Ext.new rj _ _ h2,rh h_,?_⟩⟩;rw[o6,za];walk_at "d";refine⟨bI,bI,by show 1<=sizeLine;decide,fun q2 p8=>⟨_,_,Ext.new p8 _ _ Zb,Zb,lH (ZT (by rw[Yc,YD];simp only[List.length_cons,List.length_nil];lia)),fun q3 zu=>⟨_,Ext.new zu _ _ (Ext.new p8 _ _ (Ext.new rj _ _ h2)),fun q4 uE=>?_⟩⟩⟩;rw[o6,Pb gE (a+1+b) (by lia)];refine⟨_,_,Ext.new uE _ _ Zb,Zb,lH (ZT (by simp only[Yq,Yc,YD,og,List.length_cons,List.length_nil];lia)),fun l' mz=>hN _ _ ⟨l',gE.take (a+1+b)++[(p.1,.bead "red")]++gE.drop (a+1+b),_,_,_,_,_,_,_,_,_,rfl,?_,fun x hx=>?_,?_⟩⟩
  .simp only[Yq,YD,og,List.length_cons,List.length_nil];lia
  .rcases Yv.mp hx with hx|hx
   .rcases Yv.mp hx with hx|hx
    .exact fu.up (by decide) x (List.mem_of_mem_take hx)
    .rw[Yn.mp hx];exact⟨g1,show(Rl.bead "red").wd=true by decide +kernel,show 1<=60 by decide⟩
   .exact fu.up (by decide) x (List.mem_of_mem_drop hx)
  .rw[Zb,Yt,Yt];rfl
 .intro N hN;exact hN _ _ ⟨lp,gE,_,_,_,_,_,_,_,_,_,rfl,by lia,fu.up (by decide),h2⟩
 rintro ρ A3 ⟨l',dQ,x1,x2,x3,x4,x5,x6,x7,x8,x9,rfl,X5,X6,h9⟩;walk_at "d";exact fg (q A3 l' dQ X5 X6 h9)
end
theorem X7(hx:PyData.strOk x=true)(hy:PyData.strOk y=true)(h:Q (.bl false) A):eY true (.tup [.str x,.str y]) (.tup [.str x,.str y]) A Q:=by
 obtain⟨g1,g2,g3⟩:=BR (A:=A) (zs:=[x,y]) (by simp[hx,hy]);refine⟨.tuple ([x,y].map PyData.str),.tuple ([x,y].map PyData.str),.tup g1,.tup g1,?_,?_,?_,?_⟩
 .simp only[PyData.canLay0,g2]
 .simp only[PyData.canLay0,g2]
 .simp only[PyData.depth];lia
 .rw[show PyData.eqv (.tuple ([x,y].map PyData.str)) (.tuple ([x,y].map PyData.str))=true from by simp only[PyData.eqv,G6,decide_true]];exact h
def X8{ps:List (Str×Rl)}:(ps.map (·.1)).zip (ps.map (·.2))=ps:=by
 induction ps with
 | nil=>rfl
 | cons p ps ih=>simp only[Yr,List.zip_cons_cons,ih]
def X9{vs:List Str}:∀ {rs:List Rl},(vs.zip (rs.map Rl.toU)).map fI=(vs.zip rs).map fP:=by
 induction vs with
 | nil=>intro rs;simp
 | cons v vs ih =>
  intro rs;cases rs with
  | nil=>simp
  | cons r rs=>simp only[Yr,List.zip_cons_cons,ih];rfl
theorem X_(i:Nat):PyData.strOk (kK i)=true:=by
 rcases i with _|_|_|_|i
 .decide +kernel
 .decide +kernel
 .decide +kernel
 .decide +kernel
 .show PyData.strOk ("sound":Str)=true;decide +kernel
theorem Y_(hn:∀z∈ns,d6 z=true)(hr:∀r∈rs,r.size<=60/\r.wd=true)(h:Due ns rs i z):PyData.strOk z=true:=by
 rcases i with _|_|_|_|i
 .obtain⟨k,h1,_⟩:=h;exact vp (hn z (Yi h1))
 .obtain⟨_,k,r,h1,_,h2⟩:=h;exact vp (Rl.jd (hr r (Yi h1)).2 h2.m)
 .obtain⟨_,_,k,r,h1,_⟩:=h;exact vp (hn z (Yi h1))
 .obtain⟨_,_,_,_,rfl⟩:=h;decide +kernel
 .obtain⟨_,_,_,_,rfl⟩:=h;decide +kernel
section
include T
theorem zv:T.ue.Ok aP 130 (aW K AQ):=by
 have HM:=XD T;have gD:=Pe T;have HN:=Xx T;have HP:=Xp T;have HQ:=XZ T;have HS:=W9 T;have HU:=XI T;have HV:=Xb T;apply T.ue.bG;walk_at "f";exact fun S hr=>⟨_,(Zc (Zq (i:=0) S.nd rfl (Or.inl rfl) (T.ud.pc HM hr (Za (pv 0) Zd)))
   (Zc (Zq (i:=1) S.nd rfl (Or.inl rfl) (Zy fM Zg (Zy cL (T.fv.pc gD hr (Za (pv 0) (Za Zg Zd))) Zg)))
   (Zc (Zq (i:=2) S.nd rfl (Or.inl rfl) (T.tU.pc HN hr (Za (Zy cL (T.fv.pc gD hr (Za (pv 0) (Za Zg Zd))) (Zy DG Zg Zg)) (Za (Zy fM (pv 1) Zg) Zd))))
   (Zc (Zq (i:=3) S.nd rfl (Or.inl rfl) (T.tY.pc HP hr (Za (nv nB (pv 0) (lW Zg) (lW Zg)) (Za (nv nB (pv 2) oN (lW (pv 1))) Zd))))
   (Zc (Zq (i:=4) S.nd rfl (Or.inl rfl) (T.uc.pc HQ hr (Za (Vn rfl (by rfl) T.eP (pv 3)) (Za (pv 2) (Za (pv 0) Zd)))))
   (Zc (Zq (i:=5) S.nd rfl (Or.inl rfl) (T.t_.pc HS hr (Za (pv 4) Zd)))
   (Zc (Z3 YG rfl (ql rfl T.bE (Za Zg Zd)) (Zl (i:=6) S.nd rfl (Or.inl rfl))
   (Zc (Zq (i:=7) S.nd rfl (Or.inl rfl) (T.ub.pc HU hr (Za (pv 4) Zd)))
   (Zc (ZG (Zj (sh hr) (Zz (Za (Zt ZW (pv 7) Zg (fun _ _=>rfl)) (Za (Zt ZW (pv 7) Zg (fun _ _=>rfl)) Zd))) (pv 5) (Zx _)) (Ze (Zp kS)) Zo)
   (Ze (ZG ((ni (Zj (cM hr) (Zt ZW (pv 5) Zg (fun _ _=>rfl)) Zk (Zx _)) (oC (zV (gQ (T.ua.pc HV hr (Za (Zt ZW (pv 7) Zg (fun _ _=>rfl)) (Za (pv 4) Zd)))))))).pt (Ze (Zp kS)) Zo)))))
   (Ze (Zp kS))))))))),by walk_at "abh"⟩
 rintro us A Q ⟨ns,rfl,hl,q⟩;walk_at "o";refine⟨ns,rfl,hl,fun l0 ms cE hms=>?_⟩;have a0:af A l0 (.lst (ms.map U.int)) l0=some (.lst (ms.map U.int)):=Zb;generalize af A l0 (.lst (ms.map U.int))=A0 at a0 ⊢;refine⟨l0,ms,1,rfl,a0,by decide,fun c1=>?_⟩;walk_at "d";have h8:0<=c1 % 6/\c1 % 6<6:=⟨ng _ (by decide),qc _ (by decide)⟩;obtain⟨m,hm⟩:=uI h8.1;rw[hm,show(2:Int)+(m:Int)=((m+2:Nat):Int) by lia];have hm8:m<6:=by lia
 refine⟨by decide,l0,ms,0,rfl,a0,by decide,fun c0=>⟨⟨by decide,by decide,by decide⟩,?_⟩⟩;walk_at "d";rw[show((m+2:Nat):Int)+2=((m+4:Nat):Int) by lia];refine⟨by decide,_,m+4,rfl,ng _ (by decide),by lia,fun lw ws Ph u5 Z_ Cf=>?_⟩;have a1:=Ext.new Ph (o:=.lst (List.map U.str ws)) _ _ a0;have w1:af A0 lw (.lst (List.map U.str ws)) lw=some (.lst (ws.map U.str)):=Zb;have n1:l0≠lw:=dN a0 Ph;generalize af A0 lw (.lst (List.map U.str ws))=A1 at a1 w1 ⊢;walk_at "d";refine⟨_,a1,?_⟩;rw[o6];refine fun q1 rj=>⟨_,Ext.new rj _ _ w1,?_⟩;rw[o6,za];intro q2 p8;have gK:(eu ms (some 4) (some 63)).length<=63:=by
  unfold eu;rw[YD,og];lia
 generalize eu ms (some 4) (some 63)=cs at gK p8 ⊢;have uF:(ws.take (m+2)).length=m+2:=by rw[YD];lia
 have zw:(ws.take (m+2)).Nodup:=Z_.sublist (List.take_sublist _ _);have uG:∀z∈ws.take (m+2),d6 z=true:=fun z hz=>Cf z (List.mem_of_mem_take hz);have a2:=Ext.new p8 (o:=.lst (List.map U.str (ws.take (m+2)))) _ _ (Ext.new rj (o:=.lst (List.map U.int cs)) _ _ a1);have w2:=Ext.new p8 (o:=.lst (List.map U.str (ws.take (m+2)))) _ _ (Ext.new rj (o:=.lst (List.map U.int cs)) _ _ w1);have c2:af (af A1 q1 (.lst (List.map U.int cs))) q2 (.lst (List.map U.str (ws.take (m+2)))) q1=some (.lst (List.map U.int cs)):=Ext.new p8 _ _ Zb;have d2:af (af A1 q1 (.lst (List.map U.int cs))) q2 (.lst (List.map U.str (ws.take (m+2)))) q2=some (.lst (List.map U.str (ws.take (m+2)))):=Zb;generalize af (af A1 q1 (.lst (List.map U.int cs))) q2 (.lst (List.map U.str (ws.take (m+2))))=A2 at a2 w2 c2 d2 ⊢;generalize ws.take (m+2)=vs at uF zw uG d2;refine⟨q1,q2,cs,vs,rfl,c2,gK,d2,(fun e=>by rw[e]at uF;cases uF),by lia,zw,uG,fun d ep rs hd dC bV=>?_⟩;walk_at "d";refine⟨d,ep,_,rfl,Zb,fun lp uh=>?_⟩;rw[X9];have w3:=Ext.new uh (o:=.lst ((vs.zip rs).map fP)) _ _ (Ext.new hd (o:=dS P w ep (vs.zip (rs.map Rl.toU))) _ _ w2);have a3:=Ext.new uh (o:=.lst ((vs.zip rs).map fP)) _ _ (Ext.new hd (o:=dS P w ep (vs.zip (rs.map Rl.toU))) _ _ a2);have n3:lw≠lp:=dN (Ext.new hd _ _ w2) uh;have n4:l0≠lp:=dN (Ext.new hd _ _ a2) uh;have um:(vs.zip rs).length=m+2:=by rw[List.length_zip];lia
 refine⟨lp,lw,l0,vs.zip rs,ws,ms,rfl,Zb,by lia,by lia,fun p hp=>?_,w3,by lia,by lia,Cf,a3,n3,n4,fun B l' dQ h9 hb h'=>?_⟩
 .obtain⟨k,hk⟩:=List.getElem?_of_mem hp;obtain⟨h1,h2⟩:=List.getElem?_zip_eq_some.mp hk;have h3:=bV p.2 (Yi h2);exact⟨uG _ (Yi h1),h3.1.wd,h3.2⟩
 have mz:B l'=some (.lst (((dQ.map (·.1)).zip (dQ.map (·.2))).map fun p=>.tup [.str p.1,p.2.toU])):=by rw[X8];exact h'
 have zx:(dQ.map (·.2)).length=(dQ.map (·.1)).length:=by simp
 have Cg:(dQ.map (·.1)).length<=60:=by rw[Yc];lia
 have iG:∀z∈dQ.map (·.1),d6 z=true:=fun z hz=>by obtain⟨p,hp,rfl⟩:=YL.mp hz;exact(hb p hp).1
 have gC:∀r∈dQ.map (·.2),r.size<=60/\r.wd=true:=fun r hr=>by obtain⟨p,hp,rfl⟩:=YL.mp hr;exact⟨(hb p hp).2.2,(hb p hp).2.1⟩
 generalize dQ.map (·.1)=HW at mz zx Cg iG;generalize dQ.map (·.2)=HX at mz zx gC;refine⟨l',HW,HX,rfl,mz,zx,Cg,gC,fun i z hi zy B2 e2=>⟨by decide,by decide,?_⟩⟩;have hz:=Y_ iG gC zy;refine sJ (n:=2) (fun k ρ A3=>∃x6 x7,ρ=[some (.ref l0),some (.int ((m+2:Nat):Int)),some (.ref lw),some (.ref d),some (.ref l'),some (.tup [.str (kK i),.str z]),x6,x7]/\Ext B A3) ⟨_,_,rfl,e2⟩ ?_ ?_
 .rintro k ρ A3 hk ⟨x6,x7,rfl,e3⟩;rw[Int.zero_add];walk_at "d";refine⟨l',HW,HX,rfl,e3 _ _ mz,zx,Cg,iG,gC,fun i' z' lc kX rl B4 e4 m5=>?_⟩;obtain⟨rfl,rfl⟩:=B0 kX hi rl zy;refine k8 (fun B hB=>?_) ?_
  .walk_at "d";exact⟨bI,X7 (X_ _) hz ⟨_,rfl,hB⟩⟩
  walk_at "d";refine mE false (fun C hC=>?_) fun B5 e5=>Zm rfl ?_
  .walk_at "d";rw[show decide (kK i'=Str.ofString "round")=decide (i'=3)from wj kX (j:=3) (by decide)];by_cases h3:i'=3
   .subst h3;obtain⟨c,f1,f2,f3⟩:=m5 rfl;obtain⟨nd,kn,_⟩:=id rl;exact ZH (by decide) ⟨lc,l',c,HW,HX,rfl,f1,e4 _ _ (e3 _ _ mz),zx,Cg,nd,fun r hr=>⟨(gC r hr).1,kn r hr⟩,f2,f3,fun B6 e6=>⟨_,rfl,hC B6 e6⟩⟩
   .exact Zm (Yu h3) (hC _ (Ext.refl _))
  walk_at "d";exact⟨_,_,rfl,(e3.trans e4).trans e5⟩
 rintro ρ A3 ⟨x6,x7,rfl,e3⟩;walk_at "d";exact fg (q _)
end
def walk{l:PySem.W.OpenLaw}{K:Params->au}(hn:l.most=some 63)(xj:d.params.defaults=[])(hY:∀ (w:World) (h:Heap),YP w h->(K w.params).In h)(F : ∀ (w:World) (mg:Str->Option Value) (fa:Addr) (h:Heap),(K w.params).In h->h.Ns mainGlobals mg->mg d.name=some (.ref fa) ->
   ∃fd:FuncData,(∀(s:Shared)(u:Value),BindsTo s fd ⟨[u],[]⟩ [("_law_script",u)])/\∀base:Heap,(K w.params).In base->base.Ns mainGlobals mg->cz l.prog w (K w.params) mg base aP 130 fa fd ["_law_script"] (aW (K w.params) AQ)):
  PySem.W.WalkO q loose XP YP l.row.toRowW d [] (fun f vs=>PySem.call f vs) :=
 L2.oR (n:=63) (k:=130) (x:="_law_script") (CX:=fun _=>aP) (sp:=fun w=>aW (K w.params) AQ) hn (by decide) xj ⟨rfl,by decide,by decide⟩ hY F (fun _ _ a ns hl hO hS=>Sg hl hO hS) fun _ _ _ _ _ z=>z
def _root_.PySem.W.Fast.tw14598715356260435866:=PySem.W.boot_o_0
def _root_.PySem.W.Fast.te14598715356260435866:PySem.W.boot_o_0=PySem.W.Fast.tw14598715356260435866:=rfl
def _root_.PySem.W.Fast.tw16667169237538756497:=PySem.Challenge.pw_figurebook_k07_refused_in_order
def _root_.PySem.W.Fast.te16667169237538756497:PySem.Challenge.pw_figurebook_k07_refused_in_order=PySem.W.Fast.tw16667169237538756497:=rfl
def hq:Program:=view PySem.Challenge.pw_figurebook_k07_refused_in_order [54]
def hloose:List Str:=(["_wall","FigureError","Twice","NoClass","Hollow","Round","Rule","Nothing","Bead","Or","By","Row","Bag","Choice","Ring","Named","term_text","factor_text","Book","rules_by_name","leasts_by_name","least_of","refuse_hollow_parts","has_hollow_part","leans_by_name"]:List Str)++(["leaning_names","leaning_parts","refuse_rounds","round_from","spoken_names","_law_cell","_law_words","_law_colour","_law_hollow","_law_op","_law_rule","_law_rules","_law_object","_law_pairs","_law_least","_law_leasts","_law_leaning","_law_inside","_law_hollow_part","_law_goes_round","_law_verdict","_law_is_round","_law_asked","_law_spoilt","_law_mix"]:List Str)
def hAs:List Addr:=[2,3,20,21,30,31,47,48,50,51,66,67,69,70,85,86,88,89,104,105,107,108,123,124,130,131,133,134,154,155,170,171,180,181,196,197,203,204,213,214,229,230,236,237,246,247,262,263,269,270,279,280,295,296,302,303,312,313,328,329,335,336,345,346,361,362,368,369,378,379,394,395,401,402,411,412,439,440,512,513,523,524,528,529,533,534,540,541,545,546,550,551,557,558,562,563,567,568,574,575,581,582,588,589,593,594,600,601,607,608,614,615,621,622,626,627,633,634,643,644,650,651,657,658,664,665,671,672,676,677,681,682,688,689,693,694,700,701,707,708,714,715]
def hTs:List Addr:=[]
abbrev hH:PySem.W.Hook:=kmHook hK hAs (fun _=>rfl) hTs
abbrev hXt:Shared->Bool:=fun s=>xlAt hq [] s&&recOk (RowW.records (PySem.W.OpenRow.toRowW (PySem.W.OpenLaw.row PySem.Challenge.rw_figurebook_k07_refused_in_order))) s
def _root_.PySem.W.Fast.tw17969363202419342506:=My.hKl
theorem _root_.PySem.W.Fast.te17969363202419342506:My.hKl=PySem.W.Fast.tw17969363202419342506:=rfl
def _root_.PySem.W.Fast.tw18109048644754104155:=My.hloose
theorem _root_.PySem.W.Fast.te18109048644754104155:My.hloose=PySem.W.Fast.tw18109048644754104155:=rfl
def _root_.PySem.W.Fast.tw13899100880601395773:=PySem.Flt.mathRow
theorem _root_.PySem.W.Fast.te13899100880601395773:PySem.Flt.mathRow=PySem.W.Fast.tw13899100880601395773:=rfl
def hL(w:World)(os:OsState):=Zk4 PySem.Challenge.pw_figurebook_k07_refused_in_order w os 11 (some (.ref 6)) 40000 (fun s=>(PySem.W.staticsOk (importedModules PySem.Challenge.pw_figurebook_k07_refused_in_order.main.body) (PySem.W.boot_heap w.params) s.heap&&PySem.W.namesBound PySem.Challenge.pw_figurebook_k07_refused_in_order s.heap&&PySem.W.gensDone s&&PySem.W.laidKept (PySem.W.boot_heap w.params) s.heap,PySem.W.openSeen hq hloose (importedModules PySem.Challenge.pw_figurebook_k07_refused_in_order.main.body) hXt true s,(hAs.map s.heap.get?,hTs.map s.heap.get?)))
def hR(w:World)(_:OsState):=some (true,PySem.W.openGood hq hloose,((hKl w.params).map fun p=>some p.2,hTs.map fun _=>some (tabObj #[])))
lay_quick My.hL My.hR L2.hBoot
def ZuL(w:World)(os:OsState):hL w os=hR w os:=(congrFun (congrFun PySem.W.Fast.te13887445390003487561 w) os).trans (Eq.trans (by kernel_rfl) (congrFun (congrFun PySem.W.Fast.te6075038599416009561 w) os).symm)
def Zrl(w:World):hBoot w=(true,11,some (.ref 6)):=(congrFun PySem.W.Fast.te16037136179764453472 w).trans (by kernel_rfl)
def h_left:PySem.W.LeftO PySem.Challenge.pw_figurebook_k07_refused_in_order hq hloose hXt (PySem.W.Hook.obs hH) (PySem.W.Hook.val hH) 40000:=Zhj (by rfl) (by decide) (fun s=>rfl) Zrl ZuL
end My
open PySem PySem.W PyProof.Rows
set_option maxRecDepth 100000 in
set_option maxHeartbeats 0 in
theorem PySem.Challenge.cw_figurebook_k07_refused_in_order_holds : PySem.Challenge.rw_figurebook_k07_refused_in_order.Holds := by
 w_on;o_law
 refine holds_open (q:=My.hq) (loose:=My.hloose) (Xt:=My.hXt) (XP:=XL My.hq []) (Yf:=Hook.obs My.hH) (Ya:=Hook.val My.hH) (YP:=Hook.says My.hH) (N:=40000) My.h_left (Hook.of My.hH) (Hook.keeps My.hH) (fun s e=>xl_of s (Iz.mp e).1) XL.keeps (by rfl) (by rfl) (by rfl) (fun s e=>recFacts_of (Iz.mp e).2) (by rfl) (by first | assumption | decide +kernel) (by decide +kernel) ⟨rfl,rfl,rfl,rfl,rfl,by decide +kernel⟩ ?hw ?hc
 case hw=>w_witness2
 k_fill
 refine My.walk (l:=PySem.Challenge.rw_figurebook_k07_refused_in_order) rfl rfl (fun w h Y=>PySem.W.km_in_of Y) ?F
 case F =>
  intro w mg fa h KX G xk
  have T:∀ P base,My.TX P w (My.hK w.params) mg base:=fun _ _=>⟨rfl,h,KX,G⟩
  cases xk.symm.trans (My.TX.ue (T default default)).m
  exact ⟨_,fun s v=>.of_eq rfl,fun base _ _=>My.zv (T _ base)⟩

