import PyProof.Rows.All
import Wide.All
import OpenK.AllK
import Wide.FinOn
import Lean
import PyProof.EqAt
import PyProof.EqKinds
import PyProof.TupleCall
import KE.KSortTup
import PyProof.TupleKey
import PyProof.DictRoadsH
import KE.KLam
import KE.KNestM
import KE.KDflt
import KE.KMinKey
import PyProof.Rows.FactsExc_ValueError
import PyProof.StationsW
import PyProof.RulesAs
import PyProof.InstStoreFacts
import PyProof.ExcArgsOwn
import KE.KIsAll
import PyProof.NsDelKeeps
import PyProof.FactsAll.NoneType_1
import PyProof.Rows.SetFrom
import PyProof.Rows.SortStr
import PyProof.Rows.SortWalk
import PyProof.Rows.EqNone
import PySem.Challenge.RW_figurebook_k08_rounds_walked
noncomputable section
open PySem.W (Frag InitBack Looks RowW any_some bind_fn callWith_K0 clsIn emptyDict findObj_own handedOut_of instIn instObj keq_eq keq_flat kia_tup kitAny kitx_own kmHook lookIn looks_clsIn looks_find looks_findIn looks_instIn looks_mroIn make_core makes_of methodCall_KW methodObj mroIn notCls oi_run osa_eq plainGet_of recOk set_plain specialIn tabObj takesIn view xlAt)
section
open PySem PySem.Spec PyProof.Rows
abbrev au:=Frag
def Yb:=@wpAny_bind
def Yc:=@List.length_map
def Yd:=@wpAny_pure
def Ye:=@Heap.get?_push_of_some
def Yg:=@List.getElem?_eq_getElem
def Yh:=@List.getElem?_eq_some_iff
def Yi:=@List.getElem?_map
def Yj:=@Nat.le_refl
def Yk:=@List.mem_of_getElem?
def Yl:=@Heap.get?_push_size
def Ym:=@Heap.lt_size
def Yn:=@Nat.ne_of_lt
def Yo:=@List.mem_cons
def Yp:=@List.mem_singleton
def Yq:=@List.size_toArray
def Yr:=@List.map_cons
def Ys:=@List.map_append
def Yt:=@List.length_append
def Yu:=@decide_eq_false
def Yv:=@Bool.false_ne_true
def Yw:=@beq_eq_false_iff_ne
def Yx:=@PySem.F.plainAttrs_list
def Yy:=@List.mem_append
def Yz:=@List.mem_append_right
def YA:=@decide_eq_true
def YB:=@Heap.get?_update_self
def YC:=@Heap.get?_update_other
def YD:=@Option.some.inj
def YE:=@Nat.le_trans
def YF:=@PassesOwn.never
def YG:=@List.not_mem_nil
def YH:=@wpAny_mono
def YI:=@List.getElem?_eq_none_iff
def YJ:=@Nat.lt_of_lt_of_le
def YK:=@List.length_take
def YL:=@Heap.size_push
def YM:=@PySem.F.slot_list_append
def YN:=@PySem.F.type_list_append
def YO:=@Option.map_eq_some_iff
def YQ:=@List.getElem?_append_right
def YR:=@wpAny_newObj_type
def YS:=@List.mem_map
def YT:=@wpAny_holding
def YU:=@List.getElem?_append_left
def YV:=@Nat.lt_succ_of_lt
def YW:=@List.append_nil
def YX:=@Obj.data_mapFields
def YY:=@List.getD_eq_getElem?_getD
def YZ:=@wpAny_call_entry
def Y0:=@Nat.zero_le
def Y1:=@List.getElem?_eq_none
def Y2:=@Bool.false_eq_true
def Y3:=@List.mem_append_left
def Y4:=@List.take_length
def Y5:=@wpAny_callSpecial?_slot
def Y6:=@PySem.W.kia_one
def Y7:=@List.nodup_cons
def Y8:=@Bool.and_eq_true
def Y9:=@wpAny_field
def kG:=@wpAny_Call_Name_kw
def fT:=@Nat.le_succ
def lD:=@Heap.SameBut.update
def m3:=@List.mem_cons_of_mem
def lE:=@List.mem_cons_self
def gA:=@sizeLine_eq
def nV:=@List.take_of_length_le
def nX:=@Array.getElem?_toList
def lF:=@of_decide_eq_true
def uC:=@PyProof.Rows.slot_tuple_getitem
def kH:=@Int.emod_nonneg
def m4:=@Int.emod_lt_of_pos
def lG:=@Nat.lt_succ_self
def eZ:=@or_false
def q_:=@Array.getElem?_eq_getElem
def fj:=@if_false
def rg:=@Int.eq_ofNat_of_zero_le
def pW:=@List.mem_iff_getElem
def pX:=@Around.under_plainId
def jR:=@Nat.ne_of_gt
def jS:=@List.map_map
def rh:=@Calls.callWith_builtin
def pY:=@PySem.mem_of_lookup
def m5:=@codeAny_builtin
def m7:=@wpAny_updateSeq
def kI:=@codeAny_mono
def wg:=@PyProof.Rows.callWith_type1
def m8:=@plainId_quiet
def pZ:=@List.length_drop
def uD:=@PySem.F.slot_list_pop
def uE:=@PySem.F.type_list_pop
def kJ:=@wpAny_call
def wj:=@wpAny_loadPart'
def rj:=@wpAny_truthy_bool
def nY:=@wpAny_standAt
def wk:=@List.length_eq_zero_iff
def p0:=@List.mem_range
def rn:=@wpAny_isInstance
def rp:=@Nat.mod_eq_of_lt
def nZ:=@Nat.le_of_lt
def rq:=@wpAny_execs_nil
def rz:=@wpAny_passesOwn
def rA:=@Nat.min_eq_left
def zE:=@F.slot_tuple_iterator_next
def p9:=@wpAny_attempt
def uF:=@List.length_range
def uG:=@wpAny_pyIter_list
def rB:=@wpAny_seqItems
def zF:=@Option.isSome_iff_exists
def p_:=@wpAny_typeOf
def YaY:=@List.map_nil
def uH:=@List.all_eq_true
def uI:=@List.getElem_mem
def qa:=@Nat.sub_self
def wm:=@PySem.W.callWith_K
def wo:=@wpAny_setField_rec
def zG:=@List.getElem?_set_self
def qb:=@wpAny_letGo
def wq:=@List.append_assoc
def zH:=@builtinLookup_eq_fast
def zI:=@F.slot_enumerate_next
def zJ:=@List.eq_nil_or_concat
def zK:=@List.getElem?_set_ne
def qc:=@wpAny_rule
def uJ:=@Nat.lt_irrefl
def zL:=@List.filter_eq_self
def wt:=@Bool.eq_iff_iff
def wu:=@List.cons.injEq
def CA:=@PySem.F.args_tuple_add_2
def zM:=@List.filter_append
def rC:=@call_meets
def CB:=@PySem.F.entry_tuple_add
def zN:=@List.reverse_cons
def zO:=@wpAny_pyIter_enum
def zP:=@decide_eq_true_eq
def CC:=@PySem.F.slot_tuple_add
def wx:=@List.map_take
def zQ:=@Array.toList_inj
def CD:=@List.take_append_drop
def zR:=@wpAny_specialOf
def CF:=@codeAny_extend_loopS
def uK:=@Nat.mod_lt
def zS:=@List.forIn_cons
def CG:=@F.plain_extend_loop
def zT:=@List.drop_zero
def Ii:=@F.args_tuple_iterator_next_1
def zU:=@wpAny_tryCatch
def wy:=@wpAny_of_eq
def CH:=@Calls.spliced_cons
def Ij:=@F.entry_tuple_iterator_next
def CI:=@Nat.add_sub_cancel
def CJ:=@wpAny_pyIter_tuple
def Ik:=@Calls.Name_function_global
def Il:=@wpAny_letOwnedTupleGo_enum
def zV:=@Bool.and_true
def CK:=@wpAny_assign_Name
def CL:=@PySem.W.kitx_list
def CM:=@Calls.spliced_nil
def CN:=@List.ext_getElem?
def wz:=@Walks.list
def CO:=@wpAny_execs_cons
def Im:=@List.getElem?_take_of_lt
def zW:=@concat_meets
def Io:=@PySem.F.slot_list_extend
def Ip:=@PySem.F.type_list_extend
def Iq:=@List.getElem?_replicate
def Ir:=@decide_eq_false_iff_not
def Iu:=@F.args_enumerate_next_1
def CP:=@List.of_mem_zip
def CQ:=@Nat.min_le_left
def CS:=@Nat.not_lt_zero
def Iv:=@PySem.W.cellsFrom_some
def Iw:=@subscriptTail_builtinR
def Iy:=@F.entry_enumerate_next
def Iz:=@List.length_replicate
def CT:=@Bool.and_false
def IA:=@List.mem_iff_getElem?
def IB:=@List.dropLast_eq_take
def IC:=@F.args_list_extend_2
def ID:=@Bool.and_eq_true_iff
def CU:=@wpAny_newList
def IE:=@F.entry_list_extend
def IF:=@List.map_congr_left
def IG:=@List.length_reverse
def IH:=@List.getElem?_range
def II:=@Array.toList_append
def IJ:=@SeqAt.EqAt.int_str
def IK:=@SeqAt.EqAt.str_int
def IL:=@List.mem_filterMap
def IM:=@PySem.W.kitx_tuple
def IP:=@F.slot_list_extend
def CV:=@Nat.le_of_eq
def IQ:=@List.getElem?_drop
def IS:=@PySem.W.kitx_dict
def IU:=@wpAny_sequenceKey
def IV:=@slot_list_getitem
def IW:=@F.plain_list_iadd
def IX:=@noFill_tuple_add
def IY:=@Nat.le_of_not_lt
def IZ:=@Nat.le_add_right
def I_:=@List.ext_getElem
def Ja:=@beq_self_eq_true
def CW:=@wpAny_Name
end
set_option Elab.async false
set_option compiler.extract_closed false
set_option bootstrap.genMatcherCode false
set_option linter.all false
set_option maxRecDepth 100000
namespace L2
open PySem PySem.Spec PyProof.Rows
abbrev Key:=Sum Int Str
def Jb:Key->Value->Bool
 | .inl k,v=>Value.isInt k v
 | .inr x,v=>Value.isStrOf x v
def P_(w:World):Key->Int
 | .inl k=>hashInt k
 | .inr x=>hashStr w x
def aN:∀ {k:Key} {v:Value},Jb k v=true->(∃i t,k=Sum.inl i/\v=Value.int i t)\/(∃x t,k=Sum.inr x/\v=Value.str x t)
 | .inl i,v,h=>by
  obtain⟨t,e⟩:=Value.isInt_shape (k:=i) (v:=v) h
  exact .inl ⟨i,t,rfl,e⟩
 | .inr x,v,h=>by
  obtain⟨t,e⟩:=Value.isStrOf_shape (x:=x) (v:=v) h
  exact .inr ⟨x,t,rfl,e⟩
def P'(a b:Int):decide ((Sum.inl a:Key)=Sum.inl b)=(a==b):=by
 by_cases e:a=b
 .subst e;simp
 .have h:¬(Sum.inl a:Key)=Sum.inl b:=fun q=>e (Sum.inl.inj q);rw[Yu h];exact(Yw.mpr e).symm
def Qa(a b:Str):decide ((Sum.inr a:Key)=Sum.inr b)=decide (a=b):=by
 by_cases e:a=b
 .subst e;simp
 .have h:¬(Sum.inr a:Key)=Sum.inr b:=fun q=>e (Sum.inr.inj q);rw[Yu h,Yu e]
def Qb(a:Int)(b:Str):decide ((Sum.inl a:Key)=Sum.inr b)=false:=Yu (fun q=>nomatch q)
def Qc(a:Str)(b:Int):decide ((Sum.inr a:Key)=Sum.inl b)=false:=Yu (fun q=>nomatch q)
def CY(prog:Program)(w:World):PySem.KeyKind prog w Key where
 is:=Jb
 hash:=P_ w
 inj := fun v a b ha hb=>by
  rcases aN ha with⟨i,t,rfl,rfl⟩|⟨x,t,rfl,rfl⟩
  .rcases aN hb with⟨j,u,rfl,e⟩|⟨y,u,rfl,e⟩
   .injection e with e1 _;rw[e1]
   .exact nomatch e
  .rcases aN hb with⟨j,u,rfl,e⟩|⟨y,u,rfl,e⟩
   .exact nomatch e
   .injection e with e1 _;rw[e1]
 byValue:=fun k v h=>by
  rcases aN h with⟨i,t,rfl,rfl⟩|⟨x,t,rfl,rfl⟩<;>rfl
 pyHash:=fun hv h=>by
  rcases aN hv with⟨i,t,rfl,rfl⟩|⟨x,t,rfl,rfl⟩
  .exact wpAny_pyHash_int h
  .exact wpAny_pyHash_str h
 eqBool:=fun hu hv h=>by
  rcases aN hu with⟨i,t,rfl,rfl⟩|⟨x,t,rfl,rfl⟩
  .rcases aN hv with⟨j,u,rfl,rfl⟩|⟨y,u,rfl,rfl⟩
   .rw[P']at h;exact wpAny_eqBool_int h
   .rw[Qb]at h;exact IJ i t y u _ _ _ _ h
  .rcases aN hv with⟨j,u,rfl,rfl⟩|⟨y,u,rfl,rfl⟩
   .rw[Qc]at h;exact IK x t j u _ _ _ _ h
   .rw[Qa]at h;exact wpAny_eqBool_str h
 «strs»:=fun k x t v h=>by
  rcases aN h with⟨i,u,rfl,e⟩|⟨y,u,rfl,e⟩
  .exact nomatch e
  .injection e with e1 _
   subst e1
   cases v<;>rfl
inductive V where
 | ay|bl (b:Bool)|int (i:Int)|str (x:Str)|jj (b:Array UInt8)|rD (b:UInt64)|ref (a:Addr)|ty (n:String)
 deriving DecidableEq
def aZ:V->Value->Prop
 | .ay,u=>u=Value.none
 | .bl b,u=>u=Value.bool b
 | .int i,u=>∃t,u=Value.int i t
 | .str x,u=>∃t,u=Value.str x t
 | .jj b,u=>∃t,u=Value.bytes b t
 | .rD b,u=>∃t,u=Value.float b t
 | .ref a,u=>u=Value.ref a
 | .ty n,u=>u=Value.type n
abbrev Z3:List V->List Value->Prop:=Paired aZ
def Z3.length(r:Z3 xs us):xs.length=us.length:=Paired.length r
def Z3.get:∀ {xs:List V} {us:List Value} {i:Nat} {x:V},Z3 xs us->xs[i]? = some x->∃u,us[i]? = some u/\aZ x u
 | _,_,_,_,.nil,e=>by simp at e
 | _,_,0,_,.cons r _,e=>by simp at e;subst e;exact⟨_,rfl,r⟩
 | _, _,i+1,x,.cons _ t,e=>by
  obtain⟨u,h1,h2⟩:=Z3.get (i:=i) (x:=x) t (by simpa using e)
  exact⟨u,by simpa using h1,h2⟩
theorem Z3.set(r:aZ x u):∀ {xs:List V} {us:List Value} (i:Nat),Z3 xs us->Z3 (xs.set i x) (us.set i u)
 | _,_,_,.nil=>.nil
 | _,_,0,.cons _ t=>.cons r t
 | _,_,i+1,.cons q t=>.cons q (Z3.set r i t)
def Z3.append:∀ {xs ys:List V} {us ws:List Value},Z3 xs us->Z3 ys ws->Z3 (xs++ys) (us++ws)
 | _,_,_,_,.nil,s=>s
 | _,_,_,_,.cons r t,s=>.cons r (Z3.append t s)
def Z3.take:∀ {xs:List V} {us:List Value} (n:Nat),Z3 xs us->Z3 (xs.take n) (us.take n)
 | _,_,0,_=>.nil
 | _,_,_+1,.nil=>.nil
 | _,_,n+1,.cons r t=>.cons r (Z3.take n t)
def Z3.drop:∀ {xs:List V} {us:List Value} (n:Nat),Z3 xs us->Z3 (xs.drop n) (us.drop n)
 | _,_,0,r=>r
 | _,_,_+1,.nil=>.nil
 | _,_,n+1,.cons _ t=>Z3.drop n t
def Z3.none_of:∀ {xs:List V} {us:List Value} {i:Nat},Z3 xs us->xs[i]? = none->us[i]? = none:=fun {xs us i} r e=>by
 have h1:=r.length
 have h2:xs.length<=i:=YI.mp e
 exact YI.mpr (by lia)
def iL:Option V->Option Value->Prop
 | some v,some u=>aZ v u
 | none,none=>True
 | _,_=>False
def KV{κ:Type}:List (κ×V)->List (κ×Value)->Prop:=Paired fun(p:κ×V)(q:κ×Value)=>p.1=q.1/\aZ p.2 q.2
def kV:Key->V
 | .inl i=>.int i
 | .inr x=>.str x
inductive HO where
 | lst (xs:List V)
 | tup (xs:List V)
 | dK (aq:List (Key×V))|dT (aq:List (List Key×V))
 | set (S:Int->Bool) (n:Nat)
 | ins (C dx:Addr) (fs:List (Str×V))
 | own (x:Addr)
 | xd (fs:List (Str×V))
 | met (f x:Addr)
 | CZ (lo hi:Int)
 | gP (o:Obj) (u:HO)
 | d_ (ps:Array Value)
 | ext (φ:Heap->Prop)
abbrev Hp:=Addr->Option HO
def upd(H:Hp)(a:Addr)(o:HO):Hp:=fun b=>if b=a then some o else H b
def ZC:upd H a o a=some o:=by unfold upd;rw[if_pos rfl]
def Zs(h:b≠a):upd H a o b=H b:=by unfold upd;rw[if_neg h]
def kK{H:Hp}(h:H a=some o)(h':H b=some u)(d:o≠u):a≠b:=by
 intro e;subst e;rw[h]at h';exact d (YD h')
def Z7{H:Hp}(h:H a=some o)(h':H b=none):a≠b:=by
 intro e;subst e;rw[h]at h';cases h'
section
variable(P:Program)(w:World)
def dC(H:Hp)(h:Heap)(a:Addr):HO->Prop
 | .lst xs=>xs.length<=sizeLine/\∃(its:List Value)(n:Nat),Z3 xs its/\h.get? a=some { cls:=.type "list",data:=.seq its.toArray n }
 | .tup xs=>xs.length<=sizeLine/\∃its:List Value,Z3 xs its/\IsTup h a its.toArray
 | .dK aq=>aq.length<=sizeLine/\(a==sysModules)=false/\∃vs,KV aq vs/\h.DictOf (CY P w) a vs
 | .dT aq=>aq.length<=sizeLine/\(a==sysModules)=false/\∃xs:List (List Key×Addr×Value),
   Paired (fun(p:List Key×V)(q:List Key×Addr×Value)=>p.1=q.1/\H q.2.1=some (.tup (p.1.map kV))/\aZ p.2 q.2.2) aq xs /\
   ∃o es ep,h.get? a=some o/\o.ExactDict/\o.data=.dict es ep/\es.toList=xs.map (entryOfKey (tupleKind (CY P w)))/\(xs.map (·.1)).Nodup
 | .set S n=>h.SetOf (intKind P w) a S n
 | .ins C dx fs=>H dx=some (.own a)/\fs.length<=1000/\dx≠a/\h.get? a=some (instObj C dx) /\
   ∃mA,h.Ns1 dx mA/\(∀f,iL (fs.lookup f) (mA f))/\PySem.Within mA (fs.map (·.1))
 | .own _=>∃o,h.get? a=some o
 | .xd fs=>∃mA,h.Ns1 a mA/\∀f,iL (fs.lookup f) (mA f)
 | .CZ lo hi=>∃t u v,h.get? a=some { cls:=.type "range",data:=.fields #[.int lo t,.int hi u,.int 1 v] }
 | .gP o u=>h.get? a=some o/\dC H h a u
 | .d_ ps=>h.get? a=some { cls:=.none,data:=.fields ps }
 | .met f x=>h.get? a=some (methodObj (.ref f) (.ref x))
 | .ext φ=>φ h/\(∃o,h.get? a=some o)/\∀h1 h2:Heap,φ h1->(∀o,h1.get? a=some o->h2.get? a=some o)->φ h2
def cV(H:Hp)(h:Heap):Prop:=∀a o,H a=some o->dC P w H h a o
end
section
def dC.lt(x:dC P w H h a o):a<h.objs.size:=by
 cases o with
 | lst xs=>obtain⟨_,_,_,_,e⟩:=x;exact Ym e
 | tup xs=>obtain⟨_,_,_,p⟩:=x;exact p.lt
 | dK aq=>obtain⟨_,_,_,_,o,_,_,e,_⟩:=x;exact Ym e
 | dT aq=>obtain⟨_,_,_,_,o,_,_,e,_⟩:=x;exact Ym e
 | set S n=>obtain⟨o,_,_,_,e,_⟩:=x;exact Ym e
 | ins C dx fs=>obtain⟨_,_,_,e,_⟩:=x;exact Ym e
 | own y=>obtain⟨_,e⟩:=x;exact Ym e
 | xd fs=>obtain⟨_,⟨_,_,_,e,_⟩,_⟩:=x;exact Ym e
 | CZ lo hi=>obtain⟨_,_,_,e⟩:=x;exact Ym e
 | gP ob u=>obtain⟨e,_⟩:=x;exact Ym e
 | d_ ps=>exact Ym (show h.get? a=some _ from x)
 | met f y=>exact Ym (show h.get? a=some _ from x)
 | ext φ=>obtain⟨_,⟨_,e⟩,_⟩:=x;exact Ym e
def Paired.wA:∀ {l₁:List α} {l₂:List β},Paired F l₁ l₂->(∀a b,F a b->G a b)->Paired G l₁ l₂
 | _,_,.nil,_=>.nil
 | _,_,.cons r t,f=>.cons (f _ _ r) (Paired.wA t f)
def dC.dF(x:dC P w H h a o)(k:∀b u,(b=a\/H b=some (.own a))->h.get? b=some u->h'.get? b=some u)(ho:∀b,H b=some (.own a)->H' b=some (.own a))(ht:∀b xs,H b=some (.tup xs)->H' b=some (.tup xs)):dC P w H' h' a o:=by
 induction o with
 | lst xs=>obtain⟨z,its,n,r,e⟩:=x;exact⟨z,its,n,r,k _ _ (.inl rfl) e⟩
 | tup xs=>obtain⟨z,its,r,ob,e,c⟩:=x;exact⟨z,its,r,ob,k _ _ (.inl rfl) e,c⟩
 | dK aq=>obtain⟨z,y,vs,r,ob,es,ep,e,c⟩:=x;exact⟨z,y,vs,r,ob,es,ep,k _ _ (.inl rfl) e,c⟩
 | dT aq =>
  obtain⟨z,y,xs,r,ob,es,ep,e,c⟩:=x;exact⟨z,y,xs,Paired.wA r fun p q z=>⟨z.1,ht _ _ z.2.1,z.2.2⟩,ob,es,ep,k _ _ (.inl rfl) e,c⟩
 | set S n=>obtain⟨ob,es,ep,t,e,c⟩:=x;exact⟨ob,es,ep,t,k _ _ (.inl rfl) e,c⟩
 | ins C dx fs =>
  obtain⟨d,z,ne,e,mA,⟨od,es,ep,e2,c⟩,r⟩:=x;exact⟨ho _ d,z,ne,k _ _ (.inl rfl) e,mA,⟨od,es,ep,k _ _ (.inr d) e2,c⟩,r⟩
 | own y=>obtain⟨ob,e⟩:=x;exact⟨ob,k _ _ (.inl rfl) e⟩
 | xd fs=>obtain⟨mA,⟨od,es,ep,e,c⟩,r⟩:=x;exact⟨mA,⟨od,es,ep,k _ _ (.inl rfl) e,c⟩,r⟩
 | CZ lo hi=>obtain⟨t,u,v,e⟩:=x;exact⟨t,u,v,k _ _ (.inl rfl) e⟩
 | gP ob u ih=>obtain⟨e,q⟩:=x;exact⟨k _ _ (.inl rfl) e,ih q⟩
 | d_ ps =>
  have e:h.get? a=some { cls:=.none,data:=.fields ps }:=x;show h'.get? a=some { cls:=.none,data:=.fields ps };exact k a _ (.inl rfl) e
 | met f y =>
  have e:h.get? a=some (methodObj (.ref f) (.ref y)):=x;show h'.get? a=some (methodObj (.ref f) (.ref y));exact k a _ (.inl rfl) e
 | ext φ=>obtain⟨p,⟨o,e⟩,st⟩:=x;exact⟨st _ _ p fun o q=>k _ _ (.inl rfl) q,⟨o,k _ _ (.inl rfl) e⟩,st⟩
def cV.lt(x:cV P w H h)(e:H a=some o):a<h.objs.size:=(x a o e).lt
def cV.fresh(x:cV P w H h)(e:h.objs.size<=a):H a=none:=by
 cases q:H a with
 | none=>rfl
 | some u=>exact absurd (YJ (x.lt q) e) (uJ _)
def cV.kept(x:cV P w H h)(k:∀b u,h.get? b=some u->h'.get? b=some u):cV P w H h':=fun a o e =>
 (x a o e).dF (fun b u _ q=>k b u q) (fun _ q=>q) fun _ _ q=>q
def cV.laid(x:cV P w H h)(k:∀b u,h.get? b=some u->h'.get? b=some u)(hp:h.objs.size<=a)(new:dC P w (upd H a o) h' a o):cV P w (upd H a o) h':=fun b u e=>by
 have hn:=x.fresh hp
 by_cases hb:b=a
 .subst hb;rw[ZC]at e;cases e;exact new
 .rw[Zs hb]at e
  exact(x b u e).dF (fun c v _ q=>k c v q) (fun c q=>by rw[Zs (Z7 q hn)];exact q) fun c xs q=>by rw[Zs (Z7 q hn)];exact q
end
def Rd(H:Hp)(a:Addr)(u:HO):Prop:=H a=some u\/∃o,H a=some (.gP o u)
def Rd.ok(r:Rd H a u)(x:cV P w H h):dC P w H h a u:=by
 rcases r with r|⟨o,r⟩
 .exact x a u r
 .obtain⟨_,q⟩:=x a _ r;exact q
def zX:Option HO->Prop
 | some (.lst _)=>True
 | some (.dK _)=>True
 | some (.dT _)=>True
 | some (.set _ _)=>True
 | some (.ins _ _ _)=>True
 | some (.ext _)=>True
 | _=>False
section
def cV.write(ok:cV P w H h)(mu:zX (H x))(he:e=x\/H e=some (.own x))(k:∀b u,b≠e->h.get? b=some u->h'.get? b=some u)(uL:∃u,h'.get? e=some u)(new:dC P w (upd H x o') h' x o'):cV P w (upd H x o') h':=fun b u q=>by
 have wB:∀c y,H c=some (.own y)->c≠x:=fun c y r z=>by subst z;rw[r]at mu;exact mu
 have C0:∀c xs,H c=some (.tup xs)->c≠x:=fun c xs r z=>by subst z;rw[r]at mu;exact mu
 by_cases hb:b=x
 .subst hb;rw[ZC]at q;cases q;exact new
 .rw[Zs hb]at q
  by_cases jT:b=e
  .have q':H b=some (.own x):=by
    rcases he with z|z
    .exact absurd (jT.trans z) hb
    .rw[jT];exact z
   rw[q]at q';cases q';obtain⟨v,hv⟩:=uL;exact⟨v,by rw[jT];exact hv⟩
  .refine(ok b u q).dF (fun c v hc r=>k c v ?_ r) (fun c r=>by rw[Zs (wB c b r)];exact r) fun c xs r=>by rw[Zs (C0 c xs r)];exact r
   rcases hc with rfl|hc
   .exact jT
   .rintro rfl;rcases he with z|z
    .exact wB c b hc z
    .rw[hc]at z;cases z;exact hb rfl
end
structure Un (fs ex:List Addr) (H H':Hp) (h h':Heap):Prop where
 keep:∀b o,h.get? b=some o->H b=none->b∉fs->b∉ex->h'.get? b=some o
 slot:∀b o,h.get? b=some o->H b=none->b∈fs->b∉ex->∃sl,h'.get? b=some { o with slots:=sl }
 free:∀b o,h.get? b=some o->H b=none->b∉ex->H' b=none
 there:∀b o,h.get? b=some o->b∉ex->∃o',h'.get? b=some o'
 bK:∀b xs,H b=some (.tup xs)->H' b=some (.tup xs)
 cE:∀b o u,H b=some (.gP o u)->H' b=some (.gP o u)
 dG:∀b ps,H b=some (.d_ ps)->∃more,H' b=some (.d_ (ps++more))
section
def Un.any(u:Un fs ex H H1 h h1)(q:h.get? b=some ob)(n:H b=none)(hx:b∉ex):∃sl,h1.get? b=some { ob with slots:=sl }:=by
 by_cases hb:b∈fs
 .exact u.slot b ob q n hb hx
 .exact⟨ob.slots,u.keep b ob q n hb hx⟩
def Un.kept(k:∀b u,h.get? b=some u->h'.get? b=some u):Un fs ex H H h h' :=
 ⟨fun b ob q _ _ _=>k b ob q,fun b ob q _ _ _=>⟨ob.slots,k b ob q⟩,fun _ _ _ n _=>n,fun b ob q _=>⟨ob,k b ob q⟩,fun _ _ q=>q,fun _ _ _ q=>q,fun _ ps q=>⟨#[],by rw[q];simp⟩⟩
def Un.refl:Un fs ex H H h h:=Un.kept fun _ _ q=>q
def Un.laid(k:∀b u,h.get? b=some u->h'.get? b=some u)(hp:h.objs.size<=a)(hn:H a=none):Un fs ex H (upd H a o) h h' where
 keep:=fun b u q _ _ _=>k b u q
 slot:=fun b u q _ _ _=>⟨u.slots,k b u q⟩
 free:=fun b u q n _=>by rw[Zs (Yn (YJ (Ym q) hp))];exact n
 there:=fun b u q _=>⟨u,k b u q⟩
 bK:=fun b xs q=>by rw[Zs (Z7 q hn)];exact q
 cE:=fun b u xs q=>by rw[Zs (Z7 q hn)];exact q
 dG:=fun b ps q=>⟨#[],by rw[Zs (Z7 q hn),q];simp⟩
def Un.write(mu:zX (H x))(he:e=x\/H e=some (.own x))(k:∀b u,b≠e->h.get? b=some u->h'.get? b=some u)(uL:∃u,h'.get? e=some u):Un fs ex H (upd H x o) h h':=by
 have hx:∀b,H b=none->b≠x:=fun b n z=>by subst z;rw[n]at mu;exact mu
 have hb:∀b,H b=none->b≠e:=fun b n z=>by
  subst z;rcases he with r|r
  .exact hx b n r
  .rw[n]at r;cases r
 have hm:∀b u,H b=some u->¬zX (some u)->b≠x:=fun b u q nm z=>by subst z;rw[q]at mu;exact nm mu
 refine⟨fun b u q n _ _=>k b u (hb b n) q,fun b u q n _ _=>⟨u.slots,k b u (hb b n) q⟩,fun b u q n _=>by rw[Zs (hx b n)];exact n,fun b u q _=>?_,
  fun b xs q=>by rw[Zs (hm b _ q fun z=>z)];exact q,fun b u xs q=>by rw[Zs (hm b _ q fun z=>z)];exact q,fun b ps q=>⟨#[],by rw[Zs (hm b _ q fun z=>z),q];simp⟩⟩
 by_cases jT:b=e
 .subst jT;exact uL
 .exact⟨u,k b u jT q⟩
end
def zY(h:Heap)(H:Hp):List Addr:=(List.range h.objs.size).filter fun a=>(H a).isSome
def n0(h:Heap)(H:Hp):Heap:=PySem.W.hideAll h (zY h H)
def Qd(h:Heap)(H:Hp):(n0 h H).objs.size=h.objs.size:=PySem.W.hideAll_size _ _
def Qe(e:h.get? b=some o)(n:H b=none):(n0 h H).get? b=some o :=
 PySem.W.hideAll_get _ e fun hm=>by
  have q:(H b).isSome=true:=(List.mem_filter.mp hm).2
  rw[n]at q;simp at q
def Qf(e:(n0 h H).get? b=some o):h.get? b=some o/\H b=none:=by
 have e':h.get? b=some o:=PySem.W.of_hideAll (zY h H) e;refine⟨e',?_⟩;cases q:H b with
 | none=>rfl
 | some x =>
  have hm:b∈zY h H:=List.mem_filter.mpr ⟨p0.mpr (Ym e'),by simp[q]⟩;have z:(n0 h H).get? b=none:=PySem.W.hideAll_none (zY h H) hm;rw[z]at e;cases e
def Qg(g h:Heap)(L:Addr):List (Addr×Obj):=(List.range h.objs.size).filterMap fun a=>if a=L\/(g.get? a).isSome=true then none else(h.get? a).map fun o=>(a,o)
def rest(g h:Heap)(L d:Addr):List (Addr×Obj):=(Qg g h L).filter fun p=>decide (p.1≠d)
structure Mod (K:au) (mg:Str->Option Value) (base:Heap):Prop where
 rE:K.In base
 glob:base.Ns mainGlobals mg
 blt:∃mb,base.Ns builtinsNs mb/\∀x:Str,x≠"__name__"->mb x=bootBuiltins x
 nolimit:base.NoLimit
structure Cx where
 prog:Program
 w : World
 K : au
 mg:Str->Option Value
 base:Heap
 A : Around
 N : List Str
 bA:Shared
 iR:Hp
 env:Env
 outer:List Env
 stack:List Env
 ex:List Addr
 fn:Str->Bool
 calm:Bool
 pn:List (Addr×Obj)
 xe:Value->Shared->Prop
def bE(l:List Env):List Addr:=l.filterMap (·.frame)
abbrev Cx.fs(X:Cx):List Addr:=bE X.outer
def zZ(sc:Scope)(x:Str):Prop:=sc.names.lookup x=some .local\/sc.names.lookup x=some .cell\/sc.names.lookup x=some .free
def Loc(sc:Scope)(x:Str):Prop:=sc.names.lookup x=some .local\/sc.names.lookup x=some .cell
def Qh(env:Env)(h:Heap)(m:Str->Option Value)(x:Str)(u:Value):Prop :=
 (env.kindOf x=some .local/\m x=some u)\/((env.kindOf x=some .cell\/env.kindOf x=some .free)/\∃c,env.cells.lookup x=some c/\h.IsCell c (some u))
structure Cx.Ok (X:Cx):Prop where
 mod:Mod X.K X.mg X.base
 kind:X.env.scope.kind=.function
 glob:X.env.globals=mainGlobals
 blt:X.env.builtins=builtinsNs
 above:X.bA.heap.objs.size<=X.env.locals
 inj:∀x y c,X.env.cells.lookup x=some c->X.env.cells.lookup y=some c->x=y
 has:∀x,(X.env.kindOf x=some .cell\/X.env.kindOf x=some .free)->∃c,X.env.cells.lookup x=some c
 wC:∀x c,X.fn x=true->X.env.cells.lookup x=some c->X.bA.heap.objs.size<=c
 hd:X.calm=true->X.A.handled=none
 frames:X.A.frames=some X.stack
 z4:X.stack=X.outer\/(X.stack=X.env::X.outer/\X.env.frame=some X.env.locals)
 Jc:∀b∈X.ex,b≠X.env.locals/\∀x c,X.env.cells.lookup x=some c->c≠b
 bs:∀b o,X.base.get? b=some o->X.bA.heap.get? b=some o/\X.iR b=none
 n6:X.base.objs.size<=X.bA.heap.objs.size
 lH:∀b o,X.base.get? b=some o->b∉X.ex
 n8:∀b∈X.ex,b∉X.fs
 dH:X.bA.heap.FunFrames X.base X.outer
 rF:∀b∈X.fs,X.iR b=none
structure Inv (X:Cx) (pins:List (Addr×Obj)) (σ:List (Option V)) (H:Hp) (s:Shared):Prop where
 ok:X.Ok
 os:s.os=X.bA.os
 bare:AllBare s.gens
 base:Un X.fs X.ex X.iR H X.bA.heap s.heap
 loc:∃m,s.heap.Ns X.env.locals m/\∀(i:Nat)(x:Str)(v:V),X.N[i]? = some x->σ[i]? = some (some v)->zZ X.env.scope x->∃u,aZ v u/\Qh X.env s.heap m x u
 cell:∀x c,X.env.cells.lookup x=some c->∃v,s.heap.IsCell c v
 free:H X.env.locals=none
 bw:∀x c,X.env.cells.lookup x=some c->H c=none
 pin:∀p∈X.pn++pins,s.heap.get? p.1=some p.2/\H p.1=none/\p.1≠X.env.locals/\p.1∉X.fs/\∀v,p.2.data≠.cell v
 aG:cV X.prog X.w H s.heap
 len:σ.length=X.N.length
section
variable{X:Cx}
def Cx.Ok.C1(ok:X.Ok)(e:X.base.get? b=some o):b∉X.fs:=fun hb=>by
 have:=(ok.dH.mem hb).1
 rw[e]at this;cases this
def Inv.bs(I:Inv X pins σ H s):∀b o,X.base.get? b=some o->s.heap.get? b=some o/\H b=none:=fun b o e =>
 ⟨I.base.keep b o (I.ok.bs b o e).1 (I.ok.bs b o e).2 (I.ok.C1 e) (I.ok.lH b o e),I.base.free b o (I.ok.bs b o e).1 (I.ok.bs b o e).2 (I.ok.lH b o e)⟩
def Inv.bk(I:Inv X pins σ H s):∀b o,X.base.get? b=some o->s.heap.get? b=some o:=fun b o e=>(I.bs b o e).1
def Inv.mod(I:Inv X pins σ H s):Mod X.K X.mg X.base:=I.ok.mod
def Inv.bo(I:Inv X pins σ H s):X.K.In s.heap:=I.ok.mod.rE.keeps I.bk
def Inv.lt(I:Inv X pins σ H s):X.env.locals<s.heap.objs.size:=let⟨_,hn,_⟩:=I.loc;hn.lt
def Inv.sz(I:Inv X pins σ H s):X.bA.heap.objs.size<=s.heap.objs.size:=YE I.ok.above (nZ I.lt)
def Inv.C2(I:Inv X pins σ H s)(h:s.heap.objs.size<=a):a∉X.fs:=fun hb=>by
 obtain⟨_,o,ho,_⟩:=I.ok.dH.mem hb
 exact absurd (YJ (Ym ho) (YE I.sz h)) (uJ _)
def Inv.lJ(I:Inv X pins σ H s):∀x c,X.env.cells.lookup x=some c->c≠X.env.locals:=fun x c e z=>by
 obtain⟨v,o,ho,hd⟩:=I.cell x c e
 obtain⟨m,⟨o',es,ep,gQ,gB,_⟩,_⟩:=I.loc
 rw[z,gQ]at ho;cases ho;rw[gB]at hd;cases hd
def Inv.dH(I:Inv X pins σ H s):s.heap.FunFrames X.base X.outer:=by
 have all:∀(l:List Env),(∀b∈bE l,b∈X.fs)->X.bA.heap.FunFrames X.base l->s.heap.FunFrames X.base l:=by
  intro l;induction l with
  | nil=>intro _ _;trivial
  | cons env r ih =>
   intro hs hl;obtain⟨hk,⟨L,o,hf,hn,ho,hd⟩,hr⟩:=hl;have hL:L∈X.fs:=hs L (by unfold bE;rw[List.filterMap_cons,hf];exact lE);obtain⟨sl,e⟩:=I.base.slot L o ho (I.ok.rF L hL) hL fun z=>I.ok.n8 L z hL;exact⟨hk,⟨L,_,hf,hn,e,hd⟩,ih (fun b hb=>hs b (by unfold bE;rw[List.filterMap_cons,hf];exact m3 _ hb)) hr⟩
 exact all X.outer (fun _ hb=>hb) I.ok.dH
def Inv.stack(I:Inv X pins σ H s):s.heap.FunFrames X.base X.stack:=by
 rcases I.ok.z4 with e|⟨e,hf⟩
 .rw[e];exact I.dH
 .rw[e];obtain⟨m,hn,_⟩:=I.loc;refine .cons (by rw[I.ok.kind];decide) hf hn ?_ I.dH;exact Heap.get?_none_of_le (YE I.ok.n6 I.ok.above)
def Inv.dk(I:Inv X pins σ H s):∀b∈bE X.stack,b∈X.env.locals::X.fs:=fun b hb=>by
 rcases I.ok.z4 with e|⟨e,hf⟩
 .rw[e]at hb;exact m3 _ hb
 .rw[e]at hb
  unfold bE at hb
  rw[List.filterMap_cons,hf]at hb
  exact hb
def Inv.fU(I:Inv X pins σ H s):∀b∈bE X.stack,H b=none:=fun b hb=>by
 rcases Yo.mp (I.dk b hb)with e|hb
 .rw[e];exact I.free
 .obtain⟨_,o,ho,_⟩:=I.ok.dH.mem hb
  exact I.base.free b o ho (I.ok.rF b hb) fun z=>I.ok.n8 b z hb
def Inv.step{ch:List Addr}(I:Inv X pins σ H s)(e_:∀b∈ch,(b∈X.ex\/X.bA.heap.objs.size<=b)/\b≠X.env.locals/\(∀x c,X.env.cells.lookup x=some c->c≠b)/\∀p∈X.pn++pins,p.1≠b)(keep:∀b o,b≠X.env.locals->b∉X.fs->b∉ch->s.heap.get? b=some o->H b=none->h'.get? b=some o)(slot:∀b o,b≠X.env.locals->b∈X.fs->b∉ch->s.heap.get? b=some o->H b=none->∃sl,h'.get? b=some { o with slots:=sl })(free:∀b o,b∉ch->s.heap.get? b=some o->H b=none->H' b=none)(there:∀b o,b∉ch->s.heap.get? b=some o->∃o',h'.get? b=some o')(bK:∀b xs,H b=some (.tup xs)->H' b=some (.tup xs))(cE:∀b o u,H b=some (.gP o u)->H' b=some (.gP o u))(dG:∀b ps,H b=some (.d_ ps)->∃more,H' b=some (.d_ (ps++more)))(ns:∀m,s.heap.Ns X.env.locals m->h'.Ns X.env.locals m)(aG:cV X.prog X.w H' h')(hg:AllBare g'):
  Inv X pins σ H' { s with heap:=h',gens:=g',drawn:=d',toks:=t' }:=by
 have Jd:∀b o,X.bA.heap.get? b=some o->b≠X.env.locals:=fun b o e=>Yn (YJ (Ym e) I.ok.above);have z5:∀b o,X.bA.heap.get? b=some o->b∉X.ex->b∉ch:=fun b o e hx hb=>by
  rcases(e_ b hb).1 with z|z
  .exact hx z
  .exact absurd (YJ (Ym e) z) (uJ _)
 have cellK:∀x c,X.env.cells.lookup x=some c->∀v,s.heap.IsCell c v->h'.IsCell c v:=fun x c e v aF=>by
  obtain⟨o,ho,hd⟩:=aF;have gC:c∉ch:=fun z=>(e_ c z).2.2.1 x c e rfl;by_cases hc:c∈X.fs
  .obtain⟨sl,q⟩:=slot c o (I.lJ x c e) hc gC ho (I.bw x c e);exact⟨_,q,hd⟩
  .exact⟨o,keep c o (I.lJ x c e) hc gC ho (I.bw x c e),hd⟩
 refine⟨I.ok,I.os,hg,⟨fun b o e n hb hx=>keep b o (Jd b o e) hb (z5 b o e hx) (I.base.keep b o e n hb hx) (I.base.free b o e n hx),fun b o e n hb hx=>?_,fun b o e n hx=>?_,fun b o e hx=>?_,fun b xs e=>bK b xs (I.base.bK b xs e),fun b o xs e=>cE b o xs (I.base.cE b o xs e),fun b ps e=>?_⟩,?_,fun x c e=>?_,?_,fun x c e=>?_,fun p hp=>?_,aG,I.len⟩
 .obtain⟨sl,e1⟩:=I.base.slot b o e n hb hx;obtain⟨C3,e2⟩:=slot b _ (Jd b o e) hb (z5 b o e hx) e1 (I.base.free b o e n hx);exact⟨C3,e2⟩
 .obtain⟨o',e1⟩:=I.base.there b o e hx;exact free b o' (z5 b o e hx) e1 (I.base.free b o e n hx)
 .obtain⟨o',e1⟩:=I.base.there b o e hx;exact there b o' (z5 b o e hx) e1
 .obtain⟨m1,e1⟩:=I.base.dG b ps e;obtain⟨m2,e2⟩:=dG b _ e1;exact⟨m1++m2,by rw[e2,Array.append_assoc]⟩
 .obtain⟨m,hn,hl⟩:=I.loc;refine⟨m,ns m hn,fun i x v e1 e2 e3=>?_⟩;obtain⟨u,r,l⟩:=hl i x v e1 e2 e3;refine⟨u,r,?_⟩;rcases l with l|⟨k,c,e,z⟩
  .exact .inl l
  .exact .inr ⟨k,c,e,cellK x c e _ z⟩
 .obtain⟨v,z⟩:=I.cell x c e;exact⟨v,cellK x c e v z⟩
 .obtain⟨m,⟨o,_,_,ho,_⟩,_⟩:=I.loc;exact free _ o (fun z=>(e_ _ z).2.1 rfl) ho I.free
 .obtain⟨v,o,ho,hd⟩:=I.cell x c e;exact free c o (fun z=>(e_ c z).2.2.1 x c e rfl) ho (I.bw x c e)
 .obtain⟨e,n,ne,nf,d⟩:=I.pin p hp;have gC:p.1∉ch:=fun z=>(e_ p.1 z).2.2.2 p hp rfl;exact⟨keep p.1 p.2 ne nf gC e n,free p.1 p.2 gC e n,ne,nf,d⟩
def Inv.un(I:Inv X pins σ H s)(u:Un X.fs [] H H' s.heap h')(aG:cV X.prog X.w H' h'):Inv X pins σ H' { s with heap:=h',toks:=t' }:=by
 obtain⟨m,⟨o,es,ep,ho,r⟩,_⟩:=id I.loc;obtain⟨sl,hL⟩:=u.any ho I.free (by simp);exact I.step (g':=s.gens) (d':=s.drawn) (ch:=[]) (fun _ z=>nomatch z) (fun b o _ hb _ e n=>u.keep b o e n hb (by simp)) (fun b o _ hb _ e n=>u.slot b o e n hb (by simp)) (fun b o _ e n=>u.free b o e n (by simp)) (fun b o _ e=>u.there b o e (by simp)) u.bK u.cE u.dG (fun m' hm=>by
  obtain⟨o',es',aI,gQ,r'⟩:=hm;rw[ho]at gQ;cases gQ;exact⟨_,es',aI,hL,r'⟩) aG I.bare
def Inv.call(I:Inv X pins σ H s)(u:Un (bE X.stack) ch H H' s.heap h')(aG:cV X.prog X.w H' h')(hg:AllBare g')(e_:∀b∈ch,(b∈X.ex\/X.bA.heap.objs.size<=b)/\b≠X.env.locals/\(∀x c,X.env.cells.lookup x=some c->c≠b)/\∀p∈X.pn++pins,p.1≠b):
  Inv X pins σ H' { s with heap:=h',gens:=g',drawn:=d',toks:=t' }:=by
 obtain⟨m,⟨o,es,ep,ho,r⟩,_⟩:=id I.loc;obtain⟨sl,hL⟩:=u.any ho I.free fun z=>(e_ _ z).2.1 rfl;exact I.step (ch:=ch) e_ (fun b o hL hb hc e n=>u.keep b o e n (fun z=>(Yo.mp (I.dk b z)).elim hL hb) hc) (fun b o _ _ hc e n=>u.any e n hc) (fun b o hc e n=>u.free b o e n hc) (fun b o hc e=>u.there b o e hc) u.bK u.cE u.dG (fun m' hm=>by
  obtain⟨o',es',aI,gQ,r'⟩:=hm;rw[ho]at gQ;cases gQ;exact⟨_,es',aI,hL,r'⟩) aG hg
def Inv.turned(I:Inv X pins σ H s)(k:∀b o,b≠it->s.heap.get? b=some o->h'.get? b=some o)(hn:H it=none)(hL:it≠X.env.locals)(h1:it∈X.ex\/X.bA.heap.objs.size<=it)(h2:∀x c,X.env.cells.lookup x=some c->c≠it)(h3:∀p∈X.pn++pins,p.1≠it):Inv X pins σ H { s with heap:=h',toks:=t' }:=by
 have Je:∀b u,H b=some u->b≠it:=fun b u e z=>by rw[z,hn]at e;cases e
 refine I.step (g':=s.gens) (d':=s.drawn) (ch:=[it]) (fun b hb=>?_) (fun b o _ _ hc e _=>k b o (fun z=>hc (by simp[z])) e) (fun b o _ _ hc e _=>⟨o.slots,k b o (fun z=>hc (by simp[z])) e⟩) (fun _ _ _ _ n=>n)
  (fun b o hc e=>⟨o,k b o (fun z=>hc (by simp[z])) e⟩) (fun _ _ e=>e) (fun _ _ _ e=>e) (fun b ps e=>⟨#[],by rw[e];simp⟩) (fun m hm=>?_) (fun b u e=>?_) I.bare
 .have e:b=it:=by simpa using hb
  subst e;exact⟨h1,hL,h2,h3⟩
 .obtain⟨o,es,ep,ho,r⟩:=hm;exact⟨o,es,ep,k _ o (Ne.symm hL) ho,r⟩
 .refine(I.aG b u e).dF (fun c v hc q=>k c v ?_ q) (fun _ q=>q) fun _ _ q=>q;rcases hc with z|z
  .rw[z];exact Je b u e
  .exact Je c _ z
def Inv.tok(I:Inv X pins σ H s)(t:Nat):Inv X pins σ H { s with toks:=t }:=I.un (h':=s.heap) (t':=t) Un.refl I.aG
def Inv.kept(I:Inv X pins σ H s)(k:∀b u,s.heap.get? b=some u->h'.get? b=some u):Inv X pins σ H { s with heap:=h',toks:=t' }:=I.un (Un.kept k) (I.aG.kept k)
def Inv.laid(I:Inv X pins σ H s)(k:∀b u,s.heap.get? b=some u->h'.get? b=some u)(hp:s.heap.objs.size<=a)(new:dC X.prog X.w (upd H a o) h' a o):
  Inv X pins σ (upd H a o) { s with heap:=h',toks:=t' }:=I.un (Un.laid k hp (I.aG.fresh hp)) (I.aG.laid k hp new)
def Inv.write(I:Inv X pins σ H s)(mu:zX (H x))(he:e=x\/H e=some (.own x))(k:∀b u,b≠e->s.heap.get? b=some u->h'.get? b=some u)(uL:∃u,h'.get? e=some u)(new:dC X.prog X.w (upd H x o) h' x o):Inv X pins σ (upd H x o) { s with heap:=h',toks:=t' }:=I.un (Un.write mu he k uL) (I.aG.write mu he k uL new)
def Inv.fV(I:Inv X pins σ H s)(h:∀p∈wD,s.heap.get? p.1=some p.2/\H p.1=none/\p.1≠X.env.locals/\p.1∉X.fs/\∀v,p.2.data≠.cell v):Inv X wD σ H s :=
 ⟨I.ok,I.os,I.bare,I.base,I.loc,I.cell,I.free,I.bw,fun p hp=>(Yy.mp hp).elim (fun z=>I.pin p (Y3 _ z)) (h p),I.aG,I.len⟩
def jU{N:List Str}(hN:N.Nodup){i j:Nat}(a:N[i]? = some x)(b:N[j]? = some x):i=j:=by
 obtain⟨h1,e1⟩:=Yh.mp a;obtain⟨h2,e2⟩:=Yh.mp b;exact(List.getElem_inj hN).mp (e1.trans e2.symm)
def C5(I:Inv X pins σ H s)(hN:X.N.Nodup)(hi:X.N[i]? = some x)(hx:Loc X.env.scope x)(r:aZ v u)(h:∀s',Inv X pins (σ.set i (some v)) H s'->(∃a,Heap.SameBut a s.heap s'.heap/\(a=X.env.locals\/X.env.cells.lookup x=some a))->Q () s')(hf:X.fn x=true\/X.env.scope.names.lookup x=some .local:=by first|exact .inl rfl|exact .inr rfl|assumption):wpAny M A (storeName X.env x u) Q E s:=by
 obtain⟨m,hn,hl⟩:=id I.loc;have rG:(X.env.scope.kind==.class||(X.env.scope.kind==.module&&X.env.locals != X.env.globals))=false:=by rw[I.ok.kind];rfl
 have n9:i<σ.length:=by rw[I.len];exact(Yh.mp hi).1
 have lJ:=I.lJ;have tracked:∀ {a:Addr} {h':Heap},(∃o,s.heap.get? a=some o/\H a=none)->Heap.SameBut a s.heap h'->cV X.prog X.w H h':=fun {a h'} ha hs b ob e=>by
  obtain⟨_,_,qd⟩:=ha;refine(I.aG b ob e).dF (fun c w' hc q=>(hs.2 c ?_).trans q) (fun _ q=>q) fun _ _ q=>q;rintro rfl;rcases hc with rfl|hc
  .rw[qd]at e;cases e
  .rw[qd]at hc;cases hc
 rcases hx with hk|hk
 .refine wpAny_storeName_local hk hn (fun h' uM hs=>?_) rG;obtain⟨oL,_,_,m9,_⟩:=id hn;refine h _ ⟨I.ok,I.os,I.bare,⟨fun b o e n hb hx=>(hs.2 b (Yn (YJ (Ym e) I.ok.above))).trans (I.base.keep b o e n hb hx),fun b o e n hb hx=>?_,I.base.free,fun b o e hx=>?_,I.base.bK,I.base.cE,I.base.dG⟩,⟨_,uM,fun j y v' e1 e2 e3=>?_⟩,fun y c e=>?_,I.free,I.bw,fun p hp=>?_,tracked ⟨oL,m9,I.free⟩ hs,by simpa using I.len⟩ ⟨_,hs,.inl rfl⟩
  .obtain⟨sl,e1⟩:=I.base.slot b o e n hb hx;exact⟨sl,(hs.2 b (Yn (YJ (Ym e) I.ok.above))).trans e1⟩
  .obtain⟨o',e1⟩:=I.base.there b o e hx;exact⟨o',(hs.2 b (Yn (YJ (Ym e) I.ok.above))).trans e1⟩
  .by_cases hj:j=i
   .subst hj;rw[hi]at e1;cases e1;rw[zG n9]at e2;cases e2;exact⟨u,r,.inl ⟨hk,by simp⟩⟩
   .rw[zK (Ne.symm hj)]at e2;obtain⟨u',r',q⟩:=hl j y v' e1 e2 e3;refine⟨u',r',?_⟩;rcases q with⟨k,e⟩|⟨k,c,e,z⟩
    .refine .inl ⟨k,?_⟩;have:y≠x:=fun e=>hj (jU hN e1 (e▸hi));simp[this,e]
    .exact .inr ⟨k,c,e,z.sameBut hs (lJ y c e)⟩
  .obtain⟨w',z⟩:=I.cell y c e;exact⟨w',z.sameBut hs (lJ y c e)⟩
  .obtain⟨e,n,ne,nf,d⟩:=I.pin p hp;exact⟨(hs.2 p.1 ne).trans e,n,ne,nf,d⟩
 .have C6:X.fn x=true:=by
   rcases hf with z|z
   .exact z
   .rw[z]at hk;cases hk
  obtain⟨c,hc⟩:=I.ok.has x (.inl hk);obtain⟨w',z⟩:=I.cell x c hc;refine wpAny_storeName_cell I.ok.kind hk hc z (fun h' z6 hs=>?_);obtain⟨oc,Jf,C7⟩:=id z;refine h { s with heap:=h' } ⟨I.ok,I.os,I.bare,⟨fun b o e n hb hx=>(hs.2 b (Yn (YJ (Ym e) (I.ok.wC x c C6 hc)))).trans (I.base.keep b o e n hb hx),fun b o e n hb hx=>?_,I.base.free,fun b o e hx=>?_,I.base.bK,I.base.cE,I.base.dG⟩,⟨m,hn.sameBut hs (Ne.symm (lJ x c hc)),fun j y v' e1 e2 e3=>?_⟩,fun y c' e=>?_,I.free,I.bw,fun p hp=>?_,tracked ⟨oc,Jf,I.bw x c hc⟩ hs,by simpa using I.len⟩ ⟨c,hs,.inr hc⟩
  .obtain⟨sl,e1⟩:=I.base.slot b o e n hb hx;exact⟨sl,(hs.2 b (Yn (YJ (Ym e) (I.ok.wC x c C6 hc)))).trans e1⟩
  .obtain⟨o',e1⟩:=I.base.there b o e hx;exact⟨o',(hs.2 b (Yn (YJ (Ym e) (I.ok.wC x c C6 hc)))).trans e1⟩
  .by_cases hj:j=i
   .subst hj;rw[hi]at e1;cases e1;rw[zG n9]at e2;cases e2;exact⟨u,r,.inr ⟨.inl hk,c,hc,z6⟩⟩
   .rw[zK (Ne.symm hj)]at e2;obtain⟨u',r',q⟩:=hl j y v' e1 e2 e3;refine⟨u',r',?_⟩;rcases q with q|⟨k,c',e,z'⟩
    .exact .inl q
    .refine .inr ⟨k,c',e,z'.sameBut hs ?_⟩;rintro rfl;exact hj (jU hN e1 (I.ok.inj _ _ _ e hc▸hi))
  .by_cases kL:c'=c
   .subst kL;exact⟨_,z6⟩
   .obtain⟨w2,z2⟩:=I.cell y c' e;exact⟨w2,z2.sameBut hs kL⟩
  .obtain⟨e,n,ne,nf,d⟩:=I.pin p hp;refine⟨(hs.2 p.1 ?_).trans e,n,ne,nf,d⟩;intro q;rw[q,Jf]at e;have q':oc=p.2:=YD e;exact d w' (by rw[<- q'];exact C7)
def z7(I:Inv X pins σ H s)(hN:X.N.Nodup)(hi:X.N[i]? = some x)(hx:Loc X.env.scope x)(r:aZ v u)(h:∀s',Inv X pins (σ.set i (some v)) H s'->Q () s')(hf:X.fn x=true\/X.env.scope.names.lookup x=some .local:=by first|exact .inl rfl|exact .inr rfl|assumption):wpAny M A (storeName X.env x u) Q E s :=
 C5 I hN hi hx r (fun s' I' _=>h s' I') hf
def Inv.jk(I:Inv X pins σ H s)(ho:s'.os=s.os)(u:Un (bE X.stack) ch H H' s.heap s'.heap)(aG:cV X.prog X.w H' s'.heap)(hg:AllBare s'.gens)(e_:∀b∈ch,(b∈X.ex\/X.bA.heap.objs.size<=b)/\b≠X.env.locals/\(∀x c,X.env.cells.lookup x=some c->c≠b)/\∀p∈X.pn++pins,p.1≠b):Inv X pins σ H' s':=by
 obtain⟨h',g',d',t',o'⟩:=s';have e:o'=s.os:=ho;subst e;exact I.call (g':=g') (t':=t') (d':=d') u aG hg e_
end
abbrev XK:=Value->Option Addr->Hp->Prop
abbrev St:=List (Option V)
abbrev VK:=V->Hp->Prop
abbrev TE:=St->Hp->VK->Prop
abbrev TT:=St->Hp->(Bool->Hp->Prop)->Prop
abbrev TA:=St->Hp->(List V->Hp->Prop)->Prop
structure kM where
 nx:St->Hp->Prop
 rt:VK
 bk:St->Hp->Prop:=fun _ _=>False
 ct:St->Hp->Prop:=fun _ _=>False
abbrev TS:=kM->St->Hp->Prop
def EP(X:Cx)(pins:List (Addr×Obj))(σ:St)(Q:VK)(u:Value)(s':Shared):Prop:=∃v H',Inv X pins σ H' s'/\aZ v u/\Q v H'
def TP(X:Cx)(pins:List (Addr×Obj))(σ:St)(Q:Bool->Hp->Prop)(b:Bool)(s':Shared):Prop:=∃H',Inv X pins σ H' s'/\Q b H'
def AP(X:Cx)(pins:List (Addr×Obj))(σ:St)(Q:List V->Hp->Prop)(us:List Value)(s':Shared):Prop:=∃vs H',Inv X pins σ H' s'/\Z3 vs us/\Q vs H'
def SP(X:Cx)(pins:List (Addr×Obj))(D:kM)(f:Flow)(s':Shared):Prop :=
 match f with
 | .next=>∃aU H',Inv X pins aU H' s'/\D.nx aU H'
 | .brk=>∃aU H',Inv X pins aU H' s'/\D.bk aU H'
 | .cont=>∃aU H',Inv X pins aU H' s'/\D.ct aU H'
 | .ret u=>∃v aU H',Inv X pins aU H' s'/\aZ v u/\D.rt v H'
def PE(X:Cx)(e:Expr)(t:TE):Prop :=
 ∀(pins:List (Addr×Obj))(s:Shared)(σ:St)(H:Hp)(Q:VK),Inv X pins σ H s->t σ H Q->wpAny (model X.prog X.w) X.A (eval e X.env) (EP X pins σ Q) X.xe s
def PT(X:Cx)(e:Expr)(t:TT):Prop :=
 ∀(pins:List (Addr×Obj))(s:Shared)(σ:St)(H:Hp)(Q:Bool->Hp->Prop),Inv X pins σ H s->t σ H Q->wpAny (model X.prog X.w) X.A (isTrue e X.env (eval e X.env)) (TP X pins σ Q) X.xe s
def PW(X:Cx)(e:Expr)(t:TT):Prop :=
 ∀(whole:Sem Value)(pins:List (Addr×Obj))(s:Shared)(σ:St)(H:Hp)(Q:Bool->Hp->Prop),Inv X pins σ H s->t σ H Q->wpAny (model X.prog X.w) X.A (isTrue e X.env whole) (TP X pins σ Q) X.xe s
def PW.pt(h:PW X e t):PT X e t:=h _
def PA(X:Cx)(es:List Expr)(t:TA):Prop :=
 ∀(pos:Pos)(pins:List (Addr×Obj))(s:Shared)(σ:St)(H:Hp)(Q:List V->Hp->Prop),Inv X pins σ H s->t σ H Q->wpAny (model X.prog X.w) X.A (spliced (backTo pos (starEach es X.env))) (AP X pins σ Q) X.xe s
def PS(X:Cx)(st:Stmt)(t:TS):Prop :=
 ∀(pins:List (Addr×Obj))(s:Shared)(σ:St)(H:Hp)(D:kM),Inv X pins σ H s->t D σ H->wpAny (model X.prog X.w) X.A (exec st X.env) (SP X pins D) X.xe s
def dW(X:Cx)(st:List Stmt)(t:TS):Prop :=
 ∀(pins:List (Addr×Obj))(s:Shared)(σ:St)(H:Hp)(D:kM),Inv X pins σ H s->t D σ H->wpAny (model X.prog X.w) X.A (execs st X.env) (SP X pins D) X.xe s
def aM(h:wpAny M A t Q E s)(hQ:∀a s,Q a s->Q' a s):wpAny M A t Q' E s:=YH h hQ fun _ _ x=>x
section
def m_(i:Nat):TE:=fun σ H Q=>∃v,σ[i]? = some (some v)/\Q v H
def tC(v:V):TE:=fun _ H Q=>Q v H
def Qi(hN:X.N[i]? = some x)(hv:zZ X.env.scope x)(hd:(x==("__debug__":Str))=false:=by decide)(gR:(x==("__classdict__":Str))=false:=by decide):PE X (.Name x pos) (m_ i):=by
 intro pins s σ H Q I h;obtain⟨v,e,h⟩:=h;obtain⟨m,hn,hl⟩:=I.loc;obtain⟨u,r,l⟩:=hl i x v hN e hv;have fin:EP X pins σ Q u s:=⟨v,H,I,r,h⟩;rcases l with⟨hk,hm⟩|⟨hk,c,hc,jl⟩
 .exact CW (wpAny_loadName_local I.ok.kind hk hn hm fin) hd
 .rcases hk with hk|hk
  .exact CW (wpAny_loadName_cell I.ok.kind hk hc jl fin) hd
  .exact CW (wpAny_loadName_free I.ok.kind hk hc jl fin gR) hd
def Zl:PE X (.Constant (.int i) j pos) (tC (.int i)):=fun _ _ _ H _ I h=>wpAny_Constant_int ⟨.int i,H,I.tok _,⟨_,rfl⟩,h⟩
def qe:PE X (.Constant (.bool b) j pos) (tC (.bl b)):=fun _ _ _ H _ I h=>Constant_bool ⟨.bl b,H,I,rfl,h⟩
def n_:PE X (.Constant .none j pos) (tC .ay):=fun _ _ _ H _ I h=>Constant_none ⟨.ay,H,I,rfl,h⟩
def Zr:PE X (.Constant (.str x) j pos) (tC (.str x)):=fun _ _ _ H _ I h=>Calls.Constant_str ⟨.str x,H,I.tok _,⟨_,rfl⟩,h⟩
def Gl(X:Cx)(x:Str):Prop:=X.env.kindOf x=some .globalImplicit
def lK(I:Inv X pins σ H s)(hg:Gl X x)(hm:X.mg x=some u)(h:Q u s)(hd:(x==("__debug__":Str))=false:=by decide):wpAny (model X.prog X.w) X.A (eval (.Name x pos) X.env) Q E s :=
 Ik I.ok.kind hg (Calls.loadGlobal_global (by rw[I.ok.glob];exact I.mod.glob.keeps I.bk) hm h) hd
def og(I:Inv X pins σ H s)(hg:Gl X x)(hm:X.mg x=none)(hv:bootBuiltins x=some u)(h:Q u s)(hn:x≠"__name__":=by decide)(hd:(x==("__debug__":Str))=false:=by decide):wpAny (model X.prog X.w) X.A (eval (.Name x pos) X.env) Q E s:=by
 obtain⟨mb,h1,h2⟩:=I.mod.blt;exact Ik I.ok.kind hg (Calls.loadGlobal_builtin (by rw[I.ok.glob];exact I.mod.glob.keeps I.bk) hm (by rw[I.ok.blt];exact h1.keeps I.bk) ((h2 x hn).trans hv) h) hd
def gS(hg:Gl X x)(hm:X.mg x=some u)(r:aZ v u)(hd:(x==("__debug__":Str))=false:=by decide):PE X (.Name x pos) (tC v) :=
 fun _ _ _ H _ I h=>lK I hg hm ⟨v,H,I,r,h⟩ hd
def Qj(hg:Gl X x)(hm:X.mg x=none)(hv:bootBuiltins x=some u)(r:aZ v u)(hn:x≠"__name__":=by decide)(hd:(x==("__debug__":Str))=false:=by decide):PE X (.Name x pos) (tC v) :=
 fun _ _ _ H _ I h=>og I hg hm hv ⟨v,H,I,r,h⟩ hn hd
def PC(X:Cx)(op:CmpOp)(a b:Expr)(t:TE):Prop :=
 ∀(pins:List (Addr×Obj))(s:Shared)(σ:St)(H:Hp)(Q:VK),Inv X pins σ H s->t σ H Q ->
  wpAny (model X.prog X.w) X.A (eval a X.env) (fun v aH=>wpAny (model X.prog X.w) X.A (eval b X.env) (fun u fk=>wpAny (model X.prog X.w) X.A (compareOp op v u) (EP X pins σ Q) X.xe fk) X.xe aH) X.xe s
def tB(t:TE):TT:=fun σ H Q=>t σ H fun x H1=>∃c,x=.bl c/\Q c H1
def iS(h:PE X e t)(he:∀whole,isTrue e X.env whole=(do let v <- whole;standAt e.pos;holding [v] (truthy v)):=by intro _;rfl):PT X e (tB t):=by
 intro pins s σ H Q I hw;refine isTrue_plain (aM (h pins s σ H _ I hw) fun v s1 ⟨x,H1,I1,r1,q1⟩=>?_) (he _);obtain⟨d,rfl,q⟩:=q1;cases r1;exact rj ⟨H1,I1,q⟩
variable{rest:List Expr}
def Jg(t u:TT):TT:=fun σ H Q=>t σ H fun c H1=>if c=true then u σ H1 Q else Q false H1
def Jh(t u:TT):TT:=fun σ H Q=>t σ H fun c H1=>if c=true then Q true H1 else u σ H1 Q
def Ji(t:TT):TT:=fun σ H Q=>t σ H fun c H1=>Q (!c) H1
def qf(ha:PT X a tA):PW X (.BoolOp .And [a] pos) tA:=by
 intro wh pins s σ H Q I h;refine isTrue_and (aM (ha pins s σ H Q I h) fun c s1 e=>?_);cases c with
 | true=>exact isTrue_and_nil e
 | false=>exact e
def wF(ha:PT X a tA):PW X (.BoolOp .Or [a] pos) tA:=by
 intro wh pins s σ H Q I h;refine isTrue_or (aM (ha pins s σ H Q I h) fun c s1 e=>?_);cases c with
 | false=>exact isTrue_or_nil e
 | true=>exact e
def oh(ha:PT X a tA)(hb:PW X (.BoolOp .And (b::rest) pos) C8):PW X (.BoolOp .And (a::b::rest) pos) (Jg tA C8):=by
 intro wh pins s σ H Q I h;refine isTrue_and (aM (ha pins s σ H _ I h) fun c s1 aL=>?_);obtain⟨H1,I1,q1⟩:=aL;cases c with
 | true=>exact hb wh pins s1 σ H1 Q I1 q1
 | false=>exact⟨H1,I1,q1⟩
def uN(ha:PT X a tA)(hb:PW X (.BoolOp .Or (b::rest) pos) C8):PW X (.BoolOp .Or (a::b::rest) pos) (Jh tA C8):=by
 intro wh pins s σ H Q I h;refine isTrue_or (aM (ha pins s σ H _ I h) fun c s1 aL=>?_);obtain⟨H1,I1,q1⟩:=aL;cases c with
 | true=>exact⟨H1,I1,q1⟩
 | false=>exact hb wh pins s1 σ H1 Q I1 q1
def C9(ha:PT X a tA):PT X (.UnaryOp .Not a pos) (Ji tA):=by
 intro pins s σ H Q I h;exact isTrue_not (ha pins s σ H (fun c H1=>Q (!c) H1) I h)
def Jj(ta tb:TE):TE:=fun σ H Q=>ta σ H fun x H1=>∃c,x=.bl c/\if c=true then tb σ H1 Q else Q (.bl false) H1
def Jk(ta tb:TE):TE:=fun σ H Q=>ta σ H fun x H1=>∃c,x=.bl c/\if c=true then Q (.bl true) H1 else tb σ H1 Q
def z8(h:PE X a t):PE X (.BoolOp op [a] pos) t:=fun pins s σ H Q I hw=>BoolOp_one (h pins s σ H Q I hw)
def C_(ha:PE X a ta)(hb:PE X (.BoolOp .And (b::rest) pos) tb):PE X (.BoolOp .And (a::b::rest) pos) (Jj ta tb):=by
 intro pins s σ H Q I h;refine BoolOp_and (aM (ha pins s σ H _ I h) fun v s1 aL=>?_);obtain⟨x,H1,I1,r1,q1⟩:=aL;obtain⟨c,rfl,q1⟩:=q1;cases r1;refine rj ?_;cases c with
 | true=>exact hb pins s1 σ H1 Q I1 q1
 | false=>exact⟨.bl false,H1,I1,rfl,q1⟩
def Qk(ha:PE X a ta)(hb:PE X (.BoolOp .Or (b::rest) pos) tb):PE X (.BoolOp .Or (a::b::rest) pos) (Jk ta tb):=by
 intro pins s σ H Q I h;refine BoolOp_or (aM (ha pins s σ H _ I h) fun v s1 aL=>?_);obtain⟨x,H1,I1,r1,q1⟩:=aL;obtain⟨c,rfl,q1⟩:=q1;cases r1;refine rj ?_;cases c with
 | false=>exact hb pins s1 σ H1 Q I1 q1
 | true=>exact⟨.bl true,H1,I1,rfl,q1⟩
end
def aV(K:au)(H:Hp)(a:Addr)(xs:List V):Prop :=
 Rd H a (.lst xs) \/
  ∃(o:Obj)(its:Array Value)(n:Nat),K.lookup a=some o/\o.cls=.type "list"/\o.dict=none/\o.data=.seq its n/\its.size<=sizeLine/\Z3 xs its.toList
def bf(K:au)(H:Hp)(a:Addr)(xs:List V):Prop :=
 Rd H a (.tup xs) \/
  ∃(o:Obj)(its:Array Value)(n:Nat),K.lookup a=some o/\o.cls=.type "tuple"/\o.data=.seq its n/\its.size<=sizeLine/\Z3 xs its.toList
def Ql:Value->Option V
 | .none=>some .ay
 | .bool b=>some (.bl b)
 | .int i _=>some (.int i)
 | .str x _=>some (.str x)
 | .bytes b _=>some (.jj b)
 | .float b _=>some (.rD b)
 | .ref a=>some (.ref a)
 | .type n=>some (.ty n)
 | _=>none
def aZ.abs(r:aZ x u):Ql u=some x:=by
 cases x with
 | ay=>cases r;rfl
 | bl _=>cases r;rfl
 | int _=>obtain⟨t,rfl⟩:=r;rfl
 | str _=>obtain⟨t,rfl⟩:=r;rfl
 | jj _=>obtain⟨t,rfl⟩:=r;rfl
 | rD _=>obtain⟨t,rfl⟩:=r;rfl
 | ref _=>cases r;rfl
 | ty _=>cases r;rfl
def aZ.inj(r:aZ x u)(q:aZ y u):x=y:=YD (r.abs.symm.trans q.abs)
def Z3.inj:∀ {xs ys:List V} {us:List Value},Z3 xs us->Z3 ys us->xs=ys
 | _,_,_,.nil,.nil=>rfl
 | _,_,_,.cons r t,.cons r' t'=>by rw[r.inj r',Z3.inj t t']
section
def aV.of{K:au}(h:H a=some (.lst xs)):aV K H a xs:=.inl (.inl h)
def bf.of{K:au}(h:H a=some (.tup xs)):bf K H a xs:=.inl (.inl h)
def Inv.list(I:Inv X pins σ H s)(h:aV X.K H a xs):∃its:List Value,Z3 xs its/\PlainL s.heap a its.toArray/\xs.length<=sizeLine:=by
 rcases h with h|⟨o,its,n,hk,hc,hd,hs,hz,r⟩
 .obtain⟨z,its,n,r,e⟩:=h.ok I.aG;exact⟨its,r,⟨_,n,e,rfl,rfl,rfl⟩,z⟩
 .refine⟨its.toList,r,⟨o,n,I.bo a o hk,hc,hd,by simpa using hs⟩,?_⟩;have e:=r.length;simp only[Array.length_toList]at e;lia
def Inv.tuple(I:Inv X pins σ H s)(h:bf X.K H a xs):∃its:List Value,Z3 xs its/\IsTup s.heap a its.toArray/\xs.length<=sizeLine:=by
 rcases h with h|⟨o,its,n,hk,hc,hs,hz,r⟩
 .obtain⟨z,its,r,p⟩:=h.ok I.aG;exact⟨its,r,p,z⟩
 .refine⟨its.toList,r,⟨o,I.bo a o hk,hc,n,by simpa using hs⟩,?_⟩;have e:=r.length;simp only[Array.length_toList]at e;lia
def Inv.gT(I:Inv X pins σ H s)(h:aV X.K H a xs)(h':aV X.K H a ys):xs=ys:=by
 obtain⟨its,r,⟨o,n,e,_,_,d⟩,_⟩:=I.list h;obtain⟨its',r',⟨o',n',e',_,_,d'⟩,_⟩:=I.list h';rw[e]at e';cases e';rw[d]at d';injection d' with d1 _;have:its=its':=by simpa using congrArg Array.toList d1
 subst this;exact r.inj r'
def Inv.fF(I:Inv X pins σ H s)(h:bf X.K H a xs)(h':bf X.K H a ys):xs=ys:=by
 obtain⟨its,r,⟨o,e,_,n,d⟩,_⟩:=I.tuple h;obtain⟨its',r',⟨o',e',_,n',d'⟩,_⟩:=I.tuple h';rw[e]at e';cases e';rw[d]at d';injection d' with d1 _;have:its=its':=by simpa using congrArg Array.toList d1
 subst this;exact r.inj r'
end
abbrev Cx.bL(X:Cx)(E:Value->Shared->Prop):Cx:={ X with xe:=E }
abbrev Cx.nc(X:Cx):Cx:=X.bL fun _ _=>False
def Cx.Ok.bL{X:Cx}(ok:X.Ok)(E:Value->Shared->Prop):(X.bL E).Ok :=
 ⟨ok.mod,ok.kind,ok.glob,ok.blt,ok.above,ok.inj,ok.has,ok.wC,ok.hd,ok.frames,ok.z4,ok.Jc,ok.bs,ok.n6,ok.lH,ok.n8,ok.dH,ok.rF⟩
def Cx.Ok.a_{X:Cx}(ok:(X.bL E).Ok):X.Ok :=
 ⟨ok.mod,ok.kind,ok.glob,ok.blt,ok.above,ok.inj,ok.has,ok.wC,ok.hd,ok.frames,ok.z4,ok.Jc,ok.bs,ok.n6,ok.lH,ok.n8,ok.dH,ok.rF⟩
section
def Inv.bL(I:Inv X pins σ H s)(E:Value->Shared->Prop):Inv (X.bL E) pins σ H s:=⟨I.ok.bL E,I.os,I.bare,I.base,I.loc,I.cell,I.free,I.bw,I.pin,I.aG,I.len⟩
def Inv.a_(I:Inv (X.bL E) pins σ H s):Inv X pins σ H s:=⟨I.ok.a_,I.os,I.bare,I.base,I.loc,I.cell,I.free,I.bw,I.pin,I.aG,I.len⟩
def SP.a_(h:SP (X.bL E) pins D f s'):SP X pins D f s':=by
 cases f with
 | next=>obtain⟨aU,H',I,q⟩:=h;exact⟨aU,H',I.a_,q⟩
 | brk=>obtain⟨aU,H',I,q⟩:=h;exact⟨aU,H',I.a_,q⟩
 | cont=>obtain⟨aU,H',I,q⟩:=h;exact⟨aU,H',I.a_,q⟩
 | ret u=>obtain⟨v,aU,H',I,r,q⟩:=h;exact⟨v,aU,H',I.a_,r,q⟩
def dW.nc{st:List Stmt}(h:dW X.nc st t):dW X st t:=fun pins s σ H D I hw =>
 YH (h pins s σ H D (I.bL _) hw) (fun _ _ q=>q.a_) fun _ _ z=>False.elim z
end
section
variable{st:Stmt}{rest:List Stmt}
def Jl:TS:=fun D σ H=>D.nx σ H
def z9(t u:TS):TS:=fun D σ H=>t { D with nx:=u D } σ H
def Zz:dW X [] Jl:=fun _ _ σ H _ I h=>rq ⟨σ,H,I,h⟩
def Zf(h1:PS X st t)(h2:dW X rest u):dW X (st::rest) (z9 t u):=by
 intro pins s σ H D I h;refine CO (aM (h1 pins s σ H { D with nx:=u D } I h) fun f s1 q=>?_);cases f with
 | next =>
  obtain⟨aU,H',I',q⟩:=q;exact h2 pins s1 aU H' D I' q
 | ret v=>exact q
 | brk=>exact q
 | cont=>exact q
def Zh(h1:PS X st t):dW X [st] t:=by
 intro pins s σ H D I h;refine CO (aM (h1 pins s σ H D I h) fun f s1 q=>?_);cases f with
 | next=>exact rq q
 | ret v=>exact q
 | brk=>exact q
 | cont=>exact q
def Inv.quiet(I:Inv X pins σ H s):interactive X.env=false:=by simp[interactive,I.ok.kind]
def z_(te:TE):TS:=fun D σ H=>te σ H fun _ H1=>D.nx σ H1
def Z1(he:PE X e te)(hs:swapsWith e none pos.line X.env=pure false:=by rfl):PS X (.Expr e pos) (z_ te):=by
 intro pins s σ H D I h;exact wpAny_Expr_any (aM (he pins s σ H _ I h) fun v s1 ⟨x,H1,I1,r1,q1⟩=>⟨σ,H1,I1,q1⟩) I.quiet hs
def Jm(te:TE):TS:=fun D σ H=>te σ H D.rt
def Zu(he:PE X e te):PS X (.Return (some e) pos) (Jm te):=by
 intro pins s σ H D I h;exact wpAny_Return_some (aM (he pins s σ H _ I h) fun v s1 ⟨x,H1,I1,r1,q1⟩=>⟨x,σ,H1,I1,r1,q1⟩)
def Dc(c:TT)(t u:TS):TS:=fun D σ H=>c σ H fun b H1=>if b=true then t D σ H1 else u D σ H1
def ZT(hc:PT X c tc)(ha:dW X a t)(hb:dW X b u):PS X (.If c a b pos) (Dc tc t u):=by
 intro pins s σ H D I h;refine wpAny_If (aM (hc pins s σ H _ I h) fun d s1 aL=>?_);obtain⟨H1,I1,q1⟩:=aL;cases d with
 | true=>exact ha pins s1 σ H1 D I1 q1
 | false=>exact hb pins s1 σ H1 D I1 q1
end
abbrev TG:=V->St->Hp->(St->Hp->Prop)->Prop
abbrev uO:=List V->St->Hp->(St->Hp->Prop)->Prop
def PG(X:Cx)(target:Expr)(t:TG):Prop :=
 ∀(pins:List (Addr×Obj))(s:Shared)(σ:St)(H:Hp)(v:V)(u:Value)(Q:St->Hp->Prop),Inv X pins σ H s->aZ v u->t v σ H Q ->
  wpAny (model X.prog X.w) X.A (assign target X.env u) (fun _ s'=>∃aU H',Inv X pins aU H' s'/\Q aU H') X.xe s
def wG(X:Cx)(ts:List Expr)(t:uO):Prop :=
 ∀(pins:List (Addr×Obj))(s:Shared)(σ:St)(H:Hp)(vs:List V)(us:List Value)(Q:St->Hp->Prop),Inv X pins σ H s->Z3 vs us->t vs σ H Q ->
  wpAny (model X.prog X.w) X.A (assignInOrder ((assignEach ts X.env).map (·.2)) us) (fun _ s'=>∃aU H',Inv X pins aU H' s'/\Q aU H') X.xe s
abbrev Jn:=V->V->V->Hp->(Hp->Prop)->Prop
def Dd(X:Cx)(t:Jn):Prop :=
 ∀(pins:List (Addr×Obj))(s:Shared)(σ:St)(H:Hp)(o i v:V)(ov iv u:Value)(Q:Hp->Prop),Inv X pins σ H s->aZ o ov->aZ i iv->aZ v u->t o i v H Q ->
  wpAny (model X.prog X.w) X.A (setItem ov iv u) (fun _ s'=>∃H',Inv X pins σ H' s'/\Q H') X.xe s
section
def rH(i:Nat):TG:=fun v σ H Q=>Q (σ.set i (some v)) H
def Zx(hN:X.N.Nodup)(hi:X.N[i]? = some x)(hx:Loc X.env.scope x)(hf:X.fn x=true\/X.env.scope.names.lookup x=some .local:=by first|exact .inl rfl|exact .inr rfl|assumption):PG X (.Name x pos) (rH i):=by
 intro pins s σ H v u Q I r h;exact CK (z7 I hN hi hx r (fun s' I'=>⟨_,H,I',h⟩) hf)
def De:uO:=fun vs σ H Q=>vs=[]/\Q σ H
def Aa(t:TG)(u:uO):uO:=fun vs σ H Q=>∃v r,vs=v::r/\t v σ H fun aU H'=>u r aU H' Q
def jV:wG X [] De:=by
 intro pins s σ H vs us Q I r h;obtain⟨e,h⟩:=h;subst e;cases r;exact assignInOrder_nil ⟨σ,H,I,h⟩
def ZL(h1:PG X e t)(h2:wG X es u)(hs:(assignEach (e::es) X.env).map (·.2)=assign e X.env::(assignEach es X.env).map (·.2):=by rfl):wG X (e::es) (Aa t u):=by
 intro pins s σ H vs us Q I r h;obtain⟨v,vr,e1,h⟩:=h;subst e1;cases r with
 | cons r rr =>
  rw[hs];refine assignInOrder_cons (aM (h1 pins s σ H _ _ _ I r h) fun _ s1 aL=>?_);obtain⟨jm,H1,I1,q1⟩:=aL;exact h2 pins s1 jm H1 _ _ Q I1 rr q1
def Ab(K:au)(n:Nat)(t:uO):TG:=fun v σ H Q=>∃a xs,v=.ref a/\bf K H a xs/\xs.length=n/\t xs σ H Q
def oj(hc:X.calm=true)(h:wG X es t)(hn:(assignEach es X.env).length=n:=by rfl)(jn:(assignEach es X.env).findIdx? (·.1)=none:=by rfl):PG X (.Tuple es k pos) (Ab X.K n t):=by
 intro pins s σ H v u Q I r hw;obtain⟨a,xs,e1,hq,hl,hw⟩:=hw;subst e1;cases r;obtain⟨its,rv,ht,hz⟩:=I.tuple hq;refine assign_Tuple_tuple (I.ok.hd hc) ht (by simp[hn,<- hl,rv.length]) jn fun h' hx=>?_;have I1:Inv X pins σ H { s with heap:=h' }:=I.kept (t':=s.toks) fun b o e=>hx b o (Yn (Ym e)) e;exact h pins _ σ H xs _ Q I1 (by simpa using rv) hw
def Df(to ti:TE)(t:Jn):TG:=fun v σ H Q=>to σ H fun o H1=>ti σ H1 fun i H2=>t o i v H2 fun H3=>Q σ H3
def uP(ho:PE X o to)(hi:PE X i ti)(hs:Dd X t)(ha : ∀ v,assign (.Subscript o i pos) X.env v=(do
   let ov <- holding [v] (eval o X.env)
   let iv <- holding [v,ov] (eval i X.env)
   standAt pos
   holding [v,ov,iv] (setItem ov iv v)
   release [v,ov,iv] []):=by intro _;rfl):PG X (.Subscript o i pos) (Df to ti t):=by
 intro pins s σ H v u Q I r h;rw[ha];refine Yb (YT (aM (ho pins s σ H _ I h) fun ov s1 aL=>?_));obtain⟨x,H1,I1,r1,q1⟩:=aL;refine Yb (YT (aM (hi pins s1 σ H1 _ I1 q1) fun iv s2 aL=>?_));obtain⟨y,H2,I2,r2,q2⟩:=aL;refine Yb (nY (Yb (YT (aM (hs pins s2 σ H2 x y v ov iv u _ I2 r1 r2 r q2) fun _ s3 aL=>?_))));obtain⟨H3,I3,q3⟩:=aL;exact wpAny_release ⟨σ,H3,I3,q3⟩
def wH(te:TE)(g:TG):TS:=fun D σ H=>te σ H fun x H1=>g x σ H1 D.nx
def uQ(he:PE X e te)(hg:PG X tg g)(hs:swapsWithSole [tg] e pos.line X.env=pure false:=by rfl)(hw:swappedStores [tg] e X.env=pure none:=by rfl)(h1:(assignEach [tg] X.env).map (·.2)=[assign tg X.env]:=by rfl):PS X (.Assign [tg] e pos) (wH te g):=by
 intro pins s σ H D I h;refine wpAny_Assign_stores (aM (he pins s σ H _ I h) fun v s1 ⟨x,H1,I1,r1,q1⟩=>?_) hs hw;rw[h1];exact aM (hg pins s1 σ H1 x v _ I1 r1 q1) fun _ s2 q=>q
def ZB(hN:X.N.Nodup)(hi:X.N[i]? = some x)(hx:Loc X.env.scope x)(he:PE X e te)(hs:swapsWith e (some (.Name x pos')) pos.line X.env=pure false:=by rfl)(hf:X.fn x=true\/X.env.scope.names.lookup x=some .local:=by first|exact .inl rfl|exact .inr rfl|assumption):
  PS X (.Assign [.Name x pos'] e pos) (wH te (rH i)):=by
 intro pins s σ H D I h;exact wpAny_Assign_Name (aM (he pins s σ H _ I h) fun v s1 ⟨y,H1,I1,r1,q1⟩=>z7 I1 hN hi hx r1 (fun s2 I2=>⟨_,H1,I2,q1⟩) hf) hs
end
section
def Jo(c:TT)(tb:TS):TS:=fun D σ H=>∃W:Nat->St->Hp->Prop,(∃m,W m σ H)/\∀m σ H,W m σ H ->
 c σ H fun b H1=>if b=true then ∃N:St->Hp->Prop,(∀aU H',N aU H'->∃m',m'<m/\W m' aU H')/\tb { D with nx:=N,ct:=N,bk:=D.nx } σ H1 else D.nx σ H1
def wI(hp:PassesOwn (model X.prog X.w) X.A X.env X.xe)(hc:PT X c tc)(hb:dW X body tb):PS X (.While c body [] pos) (Jo tc tb):=by
 intro pins s σ H D I h;obtain⟨W,⟨m0,w0⟩,turn⟩:=h;refine wpAny_While (codeAny_whileLoop (fun n s'=>∃aU H',Inv X pins aU H' s'/\W n aU H') ?_ m0 ⟨σ,H,I,w0⟩);rintro n s1 ⟨jm,H1,I1,w1⟩;refine rz hp (aM (hc pins s1 jm H1 _ I1 (turn n jm H1 w1)) fun b s2 aL=>?_);obtain⟨H2,I2,q2⟩:=aL;cases b with
 | true =>
  obtain⟨N,hN,q2⟩:=q2;rw[if_pos rfl];refine rz hp (aM (hb pins s2 jm H2 _ I2 q2) fun f s3 q3=>?_);cases f with
  | next =>
   obtain⟨lL,H3,I3,n3⟩:=q3;obtain⟨m',hm,w3⟩:=hN lL H3 n3;exact⟨m',hm,lL,H3,I3,w3⟩
  | cont =>
   obtain⟨lL,H3,I3,n3⟩:=q3;obtain⟨m',hm,w3⟩:=hN lL H3 n3;exact⟨m',hm,lL,H3,I3,w3⟩
  | brk=>exact q3
  | ret v=>exact q3
 | false =>
  rw[if_neg Yv];exact rq ⟨jm,H2,I2,q2⟩
end
structure It where
 go:Nat->Hp->Prop
 rJ:Nat->Hp->V->Hp->Prop
 stop:Nat->Hp->Prop
def gD(X:Cx)(pins:List (Addr×Obj))(H:Hp)(b:Addr):Prop :=
 H b=none/\b≠X.env.locals/\b∉X.fs/\(b∈X.ex\/X.bA.heap.objs.size<=b)/\(∀x c,X.env.cells.lookup x=some c->c≠b)/\∀p∈X.pn++pins,p.1≠b
def Inv.gU(I:Inv X pins σ H s)(hb:s.heap.objs.size<=b)(hn:H' b=none):gD X pins H' b:=by
 refine⟨hn,jR (YJ I.lt hb),I.C2 hb,.inr (YE I.sz hb),fun x c e z=>?_,fun p hp z=>absurd (YJ (Ym (I.pin p hp).1) (by rw[z];exact hb)) (uJ _)⟩
 .obtain⟨v,q⟩:=I.cell x c e;exact absurd (YJ q.lt (by rw[z];exact hb)) (uJ _)
structure om (P:Program) (w:World) (K:au) (tg:Expr) (J:It) (fp:List Addr) (it:Addr) (tn:Nat->Heap->Prop):Prop where
 mem:it∈fp
 obj:∀i h,tn i h->∀b∈fp,∃o,h.get? b=some o/\∀v,o.data≠.cell v
 keep:∀i h h',tn i h->(∀b∈fp,∀o,h.get? b=some o->h'.get? b=some o)->tn i h'
 item : ∀(X:Cx),X.prog=P->X.w=w->X.K=K->X.calm=true->∀(i:Nat)(pins:List (Addr×Obj))(s:Shared)(σ:St)(H:Hp)(E:Value->Shared->Prop),Inv X pins σ H s->(∀b∈fp,gD X pins H b)->tn i s.heap->J.go i H ->
  wpAny (model P w) X.A (pyNext (.ref it)) (fun r s1=>∃u,r=some u /\
   wpAny (model P w) X.A (letOwnedTupleGo tg (.ref it) u) (fun _ s2=>∃x H',Inv X pins σ H' s2/\aZ x u/\J.rJ i H x H'/\tn (i+1) s2.heap/\∀b∈fp,H' b=none) E s1) E s
 done:∀(X:Cx),X.prog=P->X.w=w->X.K=K->X.calm=true->∀(i:Nat)(pins:List (Addr×Obj))(s:Shared)(σ:St)(H:Hp)(E:Value->Shared->Prop),Inv X pins σ H s->(∀b∈fp,gD X pins H b)->tn i s.heap->J.stop i H ->
  wpAny (model P w) X.A (pyNext (.ref it)) (fun r s1=>r=none/\Inv X pins σ H s1) E s
 self:∀(A:Around)(i:Nat)(s:Shared)(Q:Value->Shared->Prop)(E:Value->Shared->Prop),tn i s.heap->Q (.ref it) s->wpAny (model P w) A (pyIter (.ref it)) Q E s
abbrev TI:=St->Hp->(It->Hp->Prop)->Prop
def Jp(X:Cx)(pins:List (Addr×Obj))(σ:St)(tg:Expr)(R:It->Hp->Prop)(Ac:Value)(s2:Shared):Prop :=
 ∃(it:Addr)(fp:List Addr)(tn:Nat->Heap->Prop)(J:It)(H':Hp),Ac=.ref it/\Inv X pins σ H' s2/\om X.prog X.w X.K tg J fp it tn/\tn 0 s2.heap/\(∀b∈fp,gD X pins H' b)/\R J H'
def PI(X:Cx)(tg iter:Expr)(wi:TI):Prop :=
 ∀(pins:List (Addr×Obj))(s:Shared)(σ:St)(H:Hp)(R:It->Hp->Prop),Inv X pins σ H s->wi σ H R ->
  wpAny (model X.prog X.w) X.A (eval iter X.env) (fun v s1=>wpAny (model X.prog X.w) X.A (pyIter v) (Jp X pins σ tg R) X.xe s1) X.xe s
def wJ(ho:s.heap.get? it=some o)(hc:o.cls=.type n)(hd:o.data=.fields vs)(hn:["enumerate","zip","dict_itemiterator","dict_reverseitemiterator","odict_iterator","itertools.zip_longest","itertools.pairwise"].contains n=false)(hQ:Q () s):wpAny M A (letOwnedTupleGo tg (.ref it) u) Q E s:=by
 unfold letOwnedTupleGo;cases tg<;>first
  | exact Yd hQ
  | (cases u<;>first
    | exact Yd hQ
    | (refine Yb (wpAny_load ho ?_);rw[hc,hd];show wpAny M A (if(["enumerate","zip","dict_itemiterator","dict_reverseitemiterator","odict_iterator","itertools.zip_longest","itertools.pairwise"].contains n&&vs[0]? == some (rawInt _))=true then _ else _) Q E s;rw[if_neg (by intro h;rw[hn,Bool.false_and]at h;cases h)];exact Yd hQ))
def Ad(K:au)(a:Addr):It :=
 ⟨fun i H=>∃xs x,aV K H a xs/\xs[i]? = some x,fun i H x H'=>H'=H/\∀xs,aV K H a xs->xs[i]? = some x,fun i H=>∃xs,aV K H a xs/\xs.length<=i⟩
def Dg(K:au)(a:Addr):It :=
 ⟨fun i H=>∃xs x,bf K H a xs/\xs[i]? = some x,fun i H x H'=>H'=H/\∀xs,bf K H a xs->xs[i]? = some x,fun i H=>∃xs,bf K H a xs/\xs.length<=i⟩
def Ae(lo:Int)(n:Nat):It:=⟨fun i _=>i<n,fun i H x H'=>H'=H/\x=.int (lo+i),fun i _=>n<=i⟩
def Qm{K:au}(a it:Addr):om P w K tg (Ad K a) [it] it (fun i h=>h.IsListIter it a i) where
 mem:=by simp
 obj := fun i h st b hb=>by
  have e:b=it:=by simpa using hb
  subst e
  obtain⟨o,e,c,d⟩:=st
  exact⟨o,e,fun v z=>by rw[d]at z;cases z⟩
 keep:=fun i h h' st k=>st.at fun o e=>k it (by simp) o e
 item:=by
  intro X hP hw hK hc i pins s σ H E I hf st hg;subst hP hw hK;obtain⟨xs,x,hq,hx⟩:=hg;obtain⟨its,rv,p,hz⟩:=I.list hq;obtain⟨u,hu,ru⟩:=rv.get hx;obtain⟨f0,f1,f2,f3,f4,f5⟩:=hf it (by simp);refine wpAny_pyNext_list_item st p.isList (x:=u) (by simpa using hu) fun h' fb sb=>?_;have I1:Inv X pins σ H { s with heap:=h' }:=I.turned (t':=s.toks) (fun b o hb e=>(sb.2 b hb).trans e) f0 f1 f3 f4 f5;obtain⟨o,e,c,d⟩:=id fb;exact⟨u,rfl,wJ (s:={ s with heap:=h' }) e c d (by decide) ⟨x,H,I1,ru,⟨rfl,fun ys hy=>by rw[I.gT hy hq];exact hx⟩,fb,fun b hb=>(hf b hb).1⟩⟩
 done:=by
  intro X hP hw hK hc i pins s σ H E I hf st hg;subst hP hw hK;obtain⟨xs,hq,hx⟩:=hg;obtain⟨its,rv,p,hz⟩:=I.list hq;obtain⟨f0,f1,f2,f3,f4,f5⟩:=hf it (by simp);have hl:=rv.length;exact wpAny_pyNext_list_end (I.ok.hd hc) st p.isList (by simp;lia) fun h' eb=>⟨rfl,I.turned (t':=s.toks) (fun b o hb e=>eb b o hb e) f0 f1 f3 f4 f5⟩
 self:=fun _ _ _ _ _ st h=>wpAny_pyIter_listiter st h
def Qn{K:au}(a it:Addr):om P w K tg (Dg K a) [it] it (fun i h=>h.IsTupleIter it a i) where
 mem:=by simp
 obj := fun i h st b hb=>by
  have e:b=it:=by simpa using hb
  subst e
  obtain⟨o,e,c,d⟩:=st
  exact⟨o,e,fun v z=>by rw[d]at z;cases z⟩
 keep:=fun i h h' st k=>st.at fun o e=>k it (by simp) o e
 item:=by
  intro X hP hw hK hc i pins s σ H E I hf st hg;subst hP hw hK;obtain⟨xs,x,hq,hx⟩:=hg;obtain⟨its,rv,p,hz⟩:=I.tuple hq;obtain⟨u,hu,ru⟩:=rv.get hx;obtain⟨f0,f1,f2,f3,f4,f5⟩:=hf it (by simp);refine wpAny_pyNext_tuple_item st (show s.heap.IsTuple a its.toArray from p) (x:=u) (by simpa using hu) fun h' fb sb=>?_;have I1:Inv X pins σ H { s with heap:=h' }:=I.turned (t':=s.toks) (fun b o hb e=>(sb.2 b hb).trans e) f0 f1 f3 f4 f5;obtain⟨o,e,c,d⟩:=id fb;exact⟨u,rfl,wJ (s:={ s with heap:=h' }) e c d (by decide) ⟨x,H,I1,ru,⟨rfl,fun ys hy=>by rw[I.fF hy hq];exact hx⟩,fb,fun b hb=>(hf b hb).1⟩⟩
 done:=by
  intro X hP hw hK hc i pins s σ H E I hf st hg;subst hP hw hK;obtain⟨xs,hq,hx⟩:=hg;obtain⟨its,rv,p,hz⟩:=I.tuple hq;obtain⟨f0,f1,f2,f3,f4,f5⟩:=hf it (by simp);have hl:=rv.length;exact wpAny_pyNext_tuple_end (I.ok.hd hc) st (show s.heap.IsTuple a its.toArray from p) (by simp;lia) fun h' eb=>⟨rfl,I.turned (t':=s.toks) (fun b o hb e=>eb b o hb e) f0 f1 f3 f4 f5⟩
 self:=fun _ _ _ _ _ st h=>wpAny_pyIter_tupleiter st h
def Qo{K:au}(it:Addr)(lo:Int)(n:Nat):om P w K tg (Ae lo n) [it] it (fun i h=>IsRangeIter h it (lo+(i:Nat)*1) ((n:Int)-(i:Nat)) 1) where
 mem:=by simp
 obj := fun i h st b hb=>by
  have e:b=it:=by simpa using hb
  subst e
  exact⟨_,st,fun v z=>by
   have z':Data.fields _=Data.cell v:=z
   cases z'⟩
 keep:=fun i h h' st k=>k it (by simp) _ st
 item:=by
  intro X hP hw hK hc i pins s σ H E I hf st hg;subst hP hw hK;obtain⟨f0,f1,f2,f3,f4,f5⟩:=hf it (by simp);have W:=Walks.range (prog:=X.prog) (w:=X.w) (I.ok.hd hc) it lo 1 n;refine W.item i s _ _ hg st fun v h' tk hv fb kk=>?_;obtain⟨t,rfl⟩:=hv;have I1:Inv X pins σ H { s with heap:=h',toks:=tk }:=I.turned (fun b o hb e=>kk b o (by simpa using hb) e) f0 f1 f3 f4 f5;refine⟨_,rfl,wJ (s:={ s with heap:=h',toks:=tk }) (n:="range_iterator") fb rfl rfl (by decide) ⟨.int (lo+i),H,I1,⟨t,?_⟩,⟨rfl,rfl⟩,fb,fun b hb=>(hf b hb).1⟩⟩;rw[Int.mul_one]
 done:=by
  intro X hP hw hK hc i pins s σ H E I hf st hg;subst hP hw hK;obtain⟨f0,f1,f2,f3,f4,f5⟩:=hf it (by simp);exact wpAny_pyNext_range_end (I.ok.hd hc) st (by have:n<=i:=hg;lia) fun h' eb=>⟨rfl,I.turned (t':=s.toks) (fun b o hb e=>eb b o hb e) f0 f1 f3 f4 f5⟩
 self:=fun _ _ _ _ _ st h=>wpAny_pyIter_rangeiter st h
section
def Qp{lo hi:Int}(I:Inv X pins σ H s)(h1:-(2^62)<=lo)(h2:lo<2^62)(h3:-(2^62)<=hi)(h4:hi<2^62)(q:R (Ae lo (hi-lo).toNat) H):wpAny (model X.prog X.w) X.A (pyIter (.ref s.heap.objs.size)) (Jp X pins σ tg R) E { s with heap:=s.heap.push { cls:=.type "range",data:=.fields #[.int lo t,.int hi u,.int 1 v] },toks:=tk }:=by
 refine wpAny_pyIter_range (IsRange.new ..) (small_one h1 h2 h3 h4) ?_;have I1:Inv X pins σ H { s with heap:=s.heap.push { cls:=.type "range",data:=.fields #[.int lo t,.int hi u,.int 1 v] },toks:=tk }:=I.kept fun b o e=>Ye _ e;refine⟨(s.heap.push { cls:=.type "range",data:=.fields #[.int lo t,.int hi u,.int 1 v] }).objs.size,[(s.heap.push { cls:=.type "range",data:=.fields #[.int lo t,.int hi u,.int 1 v] }).objs.size],_,_,H,rfl,
  I1.kept (t':=tk) fun b o e=>Ye _ e,Qo _ lo (hi-lo).toNat,?_,fun b hb=>?_,q⟩
 .have e1:lo+((0:Nat):Int)*1=lo:=by simp
  have e2:(((hi-lo).toNat:Nat):Int)-((0:Nat):Int)=Builtin.Range.rangeSize lo hi 1:=by rw[rangeSize_one];split<;>lia
  show IsRangeIter _ _ (lo+((0:Nat):Int)*1) ((((hi-lo).toNat:Nat):Int)-((0:Nat):Int)) 1;rw[e1,e2];exact Yl _ rfl
 .have e:b=(s.heap.push { cls:=.type "range",data:=.fields #[.int lo t,.int hi u,.int 1 v] }).objs.size:=by simpa using hb
  subst e;exact I1.gU (Yj _) (I1.aG.fresh (Yj _))
def Jq(wi:TI)(g:TG)(tb:TS):TS:=fun D σ H=>wi σ H fun J H1=>∃W:Nat->Nat->St->Hp->Prop,(∃m,W 0 m σ H1)/\∀i m σ H,W i m σ H ->
 (J.stop i H/\D.nx σ H)\/(J.go i H/\∃N:St->Hp->Prop,(∀aU H',N aU H'->∃m',m'<m/\W (i+1) m' aU H')/\∀x H',J.rJ i H x H'->g x σ H' fun oo H2=>tb { D with nx:=N,ct:=N,bk:=D.nx } oo H2)
def uR(fp:List Addr)(h:Heap):List (Addr×Obj):=fp.filterMap fun b=>(h.get? b).map fun o=>(b,o)
def uS(hb:b∈fp)(e:h.get? b=some o):(b,o)∈uR fp h:=IL.mpr ⟨b,hb,by rw[e];rfl⟩
def Qq(hp:p∈uR fp h):p.1∈fp/\h.get? p.1=some p.2:=by
 obtain⟨b,hb,e⟩:=IL.mp hp;cases q:h.get? b with
 | none=>rw[q]at e;cases e
 | some o =>
  rw[q]at e;have e':(b,o)=p:=YD e;subst e';exact⟨hb,q⟩
def Inv.pinned(I:Inv X pins σ H s)(hf:∀b∈fp,gD X pins H b)(ho:∀b∈fp,∃o,s.heap.get? b=some o/\∀v,o.data≠.cell v):Inv X (pins++uR fp s.heap) σ H s :=
 I.fV fun p hp=>(Yy.mp hp).elim (fun z=>I.pin p (Yz _ z)) fun z=>by
  obtain⟨hb,e⟩:=Qq z
  obtain⟨f0,f1,f2,_⟩:=hf p.1 hb
  obtain⟨o,e',d⟩:=ho p.1 hb
  rw[e]at e';cases e'
  exact⟨e,f0,f1,f2,d⟩
def Inv.cp(I:Inv X (pins++pl) σ H s):Inv X pins σ H s:=I.fV fun p hp=>I.pin p (Yz _ (Y3 _ hp))
def ee(hp:PassesOwn (model X.prog X.w) X.A X.env X.xe)(hc:X.calm=true)(hi:PI X tg iter wi)(hg:PG X tg g)(hb:dW X body tb)(hs:∀x,foldedSetIterable iter X.env x=pure x:=by intro _;rfl):PS X (.For tg iter body [] pos) (Jq wi g tb):=by
 intro pins s σ H D I h;refine wpAny_For (aM (hi pins s σ H _ I h) fun v s1 h1=>aM h1 fun Ac s2 h2=>?_) hs;obtain⟨it,fp,tn,J,H2,e,I2,T,gE,f2,W,⟨m0,w0⟩,turn⟩:=h2;subst e;have ef:∀ {H':Hp},(∀b∈fp,H' b=none)->∀b∈fp,gD X pins H' b:=fun hn b hb=>⟨hn b hb,(f2 b hb).2⟩;refine codeAny_forLoop_any (fun n s'=>∃i aU H',Inv X pins aU H' s'/\tn i s'.heap/\(∀b∈fp,H' b=none)/\W i n aU H') ?_ m0 ⟨0,σ,H2,I2,gE,fun b hb=>(f2 b hb).1,w0⟩;rintro n s3 ⟨i,lL,H3,I3,Jr,Js,w3⟩;rcases turn i n lL H3 w3 with⟨stop,qn⟩|⟨go,N,hN,step⟩
 .refine rz hp (aM (T.done X rfl rfl rfl hc i pins s3 lL H3 X.xe I3 (ef Js) Jr stop) fun r s4 aL=>?_);obtain⟨hr,I4⟩:=aL;subst hr;exact rq ⟨lL,H3,I4,qn⟩
 .refine rz hp (aM (T.item X rfl rfl rfl hc i pins s3 lL H3 X.xe I3 (ef Js) Jr go) fun r s4 aL=>?_);obtain⟨u,hr,h4⟩:=aL;subst hr;refine rz hp (aM h4 fun _ s5 aL=>?_);obtain⟨x,H5,I5,r5,y5,oq,rK⟩:=aL;have Qr:=I5.pinned (ef rK) (T.obj _ _ oq);refine rz hp (aM (hg _ s5 lL H5 x u _ Qr r5 (step x H5 y5)) fun _ s6 aL=>?_);obtain⟨Qs,H6,I6,q6⟩:=aL;refine rz hp (aM (hb _ s6 Qs H6 _ I6 q6) fun f s7 q7=>?_);have again:∀ {lM:St} {H7:Hp},Inv X (pins++uR fp s5.heap) lM H7 s7->N lM H7->∃m,m<n/\∃i aU H',Inv X pins aU H' s7/\tn i s7.heap/\(∀b∈fp,H' b=none)/\W i m aU H':=fun {lM H7} I7 n7=>by
   obtain⟨m',hm,w7⟩:=hN lM H7 n7;refine⟨m',hm,i+1,lM,H7,I7.cp,T.keep _ _ _ oq fun b hb o e=>(I7.pin (b,o) (Yz _ (Yz _ (uS hb e)))).1,fun b hb=>?_,w7⟩;obtain⟨o,e,d⟩:=T.obj _ _ oq b hb;exact(I7.pin (b,o) (Yz _ (Yz _ (uS hb e)))).2.1
  cases f with
  | next=>obtain⟨lM,H7,I7,n7⟩:=q7;exact again I7 n7
  | cont=>obtain⟨lM,H7,I7,n7⟩:=q7;exact again I7 n7
  | brk=>obtain⟨lM,H7,I7,q7⟩:=q7;exact⟨lM,H7,I7.cp,q7⟩
  | ret v=>obtain⟨x7,lM,H7,I7,r7,q7⟩:=q7;exact⟨x7,lM,H7,I7.cp,r7,q7⟩
end
abbrev R2:=V->V->Hp->VK->Prop
def a9(X:Cx)(f:Value->Value->Sem Value)(r:R2):Prop :=
 ∀(pins:List (Addr×Obj))(s:Shared)(σ:St)(H:Hp)(x y:V)(v u:Value)(Q:VK),Inv X pins σ H s->aZ x v->aZ y u->r x y H Q ->
  wpAny (model X.prog X.w) X.A (f v u) (EP X pins σ Q) X.xe s
def cf(X:Cx)(f:Value)(r:List V->Hp->VK->Prop):Prop :=
 ∀(pins:List (Addr×Obj))(s:Shared)(σ:St)(H:Hp)(xs:List V)(us:List Value)(Q:VK),Inv X pins σ H s->Z3 xs us->r xs H Q ->
  wpAny (model X.prog X.w) X.A (call f us) (EP X pins σ Q) X.xe s
def Qt(X:Cx)(r:V->Hp->(Bool->Hp->Prop)->Prop):Prop :=
 ∀(pins:List (Addr×Obj))(s:Shared)(σ:St)(H:Hp)(x:V)(v:Value)(Q:Bool->Hp->Prop),Inv X pins σ H s->aZ x v->r x H Q ->
  wpAny (model X.prog X.w) X.A (truthy v) (TP X pins σ Q) X.xe s
def wK(r:R2)(ta tb:TE):TE:=fun σ H Q=>ta σ H fun x H1=>tb σ H1 fun y H2=>r x y H2 Q
def rI(C:Int->Int->Prop)(g:Int->Int->V):R2:=fun x y H Q=>∃i j,x=.int i/\y=.int j/\C i j/\Q (g i j) H
def uT(g:Int->Int->V):R2:=fun x y H Q=>∃i j,x=.int i/\y=.int j/\Q (g i j) H
section
def Dh(ha:PE X a ta)(hb:PE X b tb){R:V->V->Hp->Prop}(I:Inv X pins σ H s)(h:ta σ H fun x H1=>tb σ H1 fun y H2=>R x y H2){f:Value->Value->Sem Value}(hf:∀v u s2 x y H2,Inv X pins σ H2 s2->aZ x v->aZ y u->R x y H2->wpAny (model X.prog X.w) X.A (f v u) Q X.xe s2):
  wpAny (model X.prog X.w) X.A (eval a X.env) (fun v aH=>wpAny (model X.prog X.w) X.A (eval b X.env) (fun u fk=>wpAny (model X.prog X.w) X.A (f v u) Q X.xe fk) X.xe aH) X.xe s:=by
 refine aM (ha pins s σ H _ I h) fun v s1 aL=>?_;obtain⟨x,H1,I1,r1,q1⟩:=aL;refine aM (hb pins s1 σ H1 _ I1 q1) fun u s2 aL=>?_;obtain⟨y,H2,I2,r2,q2⟩:=aL;exact hf v u s2 x y H2 I2 r1 r2 q2
def ZO(ho:a9 X (binaryOp op) r)(ha:PE X a ta)(hb:PE X b tb):PE X (.BinOp a op b pos) (wK r ta tb):=by
 intro pins s σ H Q I h;exact wpAny_BinOp (Dh ha hb I h fun v u s2 x y H2 I2 rx ry q=>ho pins s2 σ H2 x y v u Q I2 rx ry q)
def Di{g:Int->Int->Int}(rule:∀(i j:Int)(t u:Tok)(s:Shared)(Q:Value->Shared->Prop)(E:Value->Shared->Prop),C i j->Q (.int (g i j) s.toks) { s with toks:=s.toks+1 }->wpAny (model X.prog X.w) X.A (f (.int i t) (.int j u)) Q E s):
  a9 X f (rI C fun i j=>.int (g i j)):=by
 intro pins s σ H x y v u Q I rx ry h;obtain⟨i,j,rfl,rfl,hc,q⟩:=h;obtain⟨t,rfl⟩:=rx;obtain⟨t',rfl⟩:=ry;exact rule i j t t' s _ _ hc ⟨.int (g i j),H,I.tok _,⟨_,rfl⟩,q⟩
def Jt{g:Int->Int->Int}(rule:∀(i j:Int)(t u:Tok)(s:Shared)(Q:Value->Shared->Prop)(E:Value->Shared->Prop),Q (.int (g i j) s.toks) { s with toks:=s.toks+1 }->wpAny (model X.prog X.w) X.A (f (.int i t) (.int j u)) Q E s):
  a9 X f (uT fun i j=>.int (g i j)):=by
 intro pins s σ H x y v u Q I rx ry h;obtain⟨i,j,rfl,rfl,q⟩:=h;obtain⟨t,rfl⟩:=rx;obtain⟨t',rfl⟩:=ry;exact rule i j t t' s _ _ ⟨.int (g i j),H,I.tok _,⟨_,rfl⟩,q⟩
def Ju{g:Int->Int->Bool}(rule:∀(i j:Int)(t u:Tok)(s:Shared)(Q:Value->Shared->Prop)(E:Value->Shared->Prop),Q (.bool (g i j)) s->wpAny (model X.prog X.w) X.A (f (.int i t) (.int j u)) Q E s):
  a9 X f (uT fun i j=>.bl (g i j)):=by
 intro pins s σ H x y v u Q I rx ry h;obtain⟨i,j,rfl,rfl,q⟩:=h;obtain⟨t,rfl⟩:=rx;obtain⟨t',rfl⟩:=ry;exact rule i j t t' s _ _ ⟨.bl (g i j),H,I,rfl,q⟩
def Dj(i j:Int):Prop:=0<j/\j<1073741824
def Dk(i j:Int):Prop:=0<=j/\j<=1000000/\i.natAbs<2^64
def Dl(i j:Int):Prop:=(-(2^64)<i/\i<2^64)\/(-(2^64)<j/\j<2^64)
def Dl.ok(h:Dl i j):IntMulOk i j:=by
 rcases h with⟨h1,h2⟩|⟨h1,h2⟩
 .exact .of_left (intBits_le_64 h1 h2)
 .exact .of_right (intBits_le_64 h1 h2)
def Qu:a9 X (binaryOp .Add) (uT fun i j=>.int (i+j)):=Jt fun _ _ _ _ _ _ _ q=>add_int q
def Qw:a9 X (binaryOp .Sub) (uT fun i j=>.int (i-j)):=Jt fun _ _ _ _ _ _ _ q=>sub_int q
def Qx:a9 X (binaryOp .FloorDiv) (rI Dj fun i j=>.int (i / j)):=Di fun i j _ _ _ _ _ hc q=>by
 have h1:(0:Int)<j:=hc.1
 have h2:j<1073741824:=hc.2
 exact floordiv_int (by lia) (by rw[Int.fdiv_eq_ediv_of_nonneg i (by lia)];exact q) (.inl (PyProof.noPylong_small (by lia)))
def Qy:a9 X (binaryOp .Mod) (rI (fun _ j=>0<j) fun i j=>.int (i % j)):=Di fun i j _ _ _ _ _ hc q=>by
 have h1:(0:Int)<j:=hc
 exact mod_int' (by lia) (by rw[Int.fmod_eq_emod_of_nonneg i (by lia)];exact q)
def Qz:a9 X (binaryOp .Pow) (rI Dk fun i j=>.int (i^j.toNat)):=Di fun _ _ _ _ _ _ _ hc q=>pow_int_small hc.1 hc.2.1 hc.2.2 q
end
def Jv:V->V->Bool
 | .ay,.ay=>true|.ay,.int _=>true|.int _,.ay=>true|.ay,.bl _=>true|.bl _,.ay=>true|.ay,.str _=>true|.str _,.ay=>true
 | .int _,.int _=>true|.bl _,.bl _=>true|.str _,.str _=>true|.jj _,.jj _=>true
 | .int _,.str _=>true|.str _,.int _=>true|.bl _,.str _=>true|.str _,.bl _=>true
 | _,_=>false
def QA:R2:=fun x y H Q=>Jv x y=true/\Q (.bl (decide (x=y))) H
def QB:R2:=fun x y H Q=>Jv x y=true/\Q (.bl (!decide (x=y))) H
def Jw:decide (V.int i=V.int j)=(i==j):=by
 rw[wt];simp
def Jx:decide (V.bl i=V.bl j)=(i==j):=by
 rw[wt];simp
def Jy:decide (V.str i=V.str j)=(i==j):=by
 rw[wt];simp
def Jz:decide (V.jj i=V.jj j)=(i.toList==j.toList):=by
 rw[wt];cases i;cases j;simp
section
def ZY(I:Inv X pins σ H s)(q:Q (.bl k) H)(e:k=k'):EP X pins σ Q (.bool k') s:=by
 subst e;exact⟨.bl k,H,I,rfl,q⟩
def QC:a9 X (compareOp .Eq) QA:=by
 intro pins s σ H x y v u Q I rx ry h;obtain⟨hs,q⟩:=h;cases x with
 | ay =>
  cases rx;cases y with
  | ay=>cases ry;exact PySem.EqNone.eq_none_none (ZY I q (by simp))
  | bl j=>cases ry;exact PySem.EqNone.eq_none_bool (ZY I q (by simp))
  | int j=>obtain⟨t',rfl⟩:=ry;exact PySem.EqNone.eq_none_int (ZY I q (by simp))
  | str j=>obtain⟨t',rfl⟩:=ry;exact PySem.EqNone.eq_none_str (ZY I q (by simp))
  | _=>exact absurd (show false=true from hs) Yv
 | bl i =>
  cases rx;cases y with
  | ay=>cases ry;exact PySem.EqNone.eq_bool_none (ZY I q (by simp))
  | bl j=>cases ry;exact eq_bool (ZY I q Jx)
  | str j=>obtain⟨t',rfl⟩:=ry;exact PySem.EqMixed.eq_bool_str (ZY I q (by simp))
  | _=>exact absurd (show false=true from hs) Yv
 | int i =>
  obtain⟨t,rfl⟩:=rx;cases y with
  | ay=>cases ry;exact PySem.EqNone.eq_int_none (ZY I q (by simp))
  | int j=>obtain⟨t',rfl⟩:=ry;exact eq_int (ZY I q Jw)
  | str j=>obtain⟨t',rfl⟩:=ry;exact PySem.EqMixed.eq_int_str (ZY I q (by simp))
  | _=>exact absurd (show false=true from hs) Yv
 | str i =>
  obtain⟨t,rfl⟩:=rx;cases y with
  | ay=>cases ry;exact PySem.EqNone.eq_str_none (ZY I q (by simp))
  | bl j=>cases ry;exact PySem.EqMixed.eq_str_bool (ZY I q (by simp))
  | int j=>obtain⟨t',rfl⟩:=ry;exact PySem.EqMixed.eq_str_int (ZY I q (by simp))
  | str j=>obtain⟨t',rfl⟩:=ry;exact eq_str (ZY I q Jy)
  | _=>exact absurd (show false=true from hs) Yv
 | jj i =>
  obtain⟨t,rfl⟩:=rx;cases y with
  | jj j=>obtain⟨t',rfl⟩:=ry;exact PySem.W.eq_bytes (ZY I q Jz)
  | _=>exact absurd (show false=true from hs) Yv
 | _=>cases y<;>exact absurd (show false=true from hs) Yv
def QD:a9 X (compareOp .NotEq) QB:=by
 intro pins s σ H x y v u Q I rx ry h;obtain⟨hs,q⟩:=h;cases x with
 | ay =>
  cases rx;cases y with
  | ay=>cases ry;exact PySem.EqNone.ne_none_none (ZY I q (by simp))
  | bl j=>cases ry;exact PySem.EqNone.ne_none_bool (ZY I q (by simp))
  | int j=>obtain⟨t',rfl⟩:=ry;exact PySem.EqNone.ne_none_int (ZY I q (by simp))
  | str j=>obtain⟨t',rfl⟩:=ry;exact PySem.EqNone.ne_none_str (ZY I q (by simp))
  | _=>exact absurd (show false=true from hs) Yv
 | bl i =>
  cases rx;cases y with
  | ay=>cases ry;exact PySem.EqNone.ne_bool_none (ZY I q (by simp))
  | bl j=>cases ry;exact ne_bool (ZY I q (congrArg not Jx))
  | str j=>obtain⟨t',rfl⟩:=ry;exact PySem.EqMixed.ne_bool_str (ZY I q (by simp))
  | _=>exact absurd (show false=true from hs) Yv
 | int i =>
  obtain⟨t,rfl⟩:=rx;cases y with
  | ay=>cases ry;exact PySem.EqNone.ne_int_none (ZY I q (by simp))
  | int j=>obtain⟨t',rfl⟩:=ry;exact ne_int (ZY I q (congrArg not Jw))
  | str j=>obtain⟨t',rfl⟩:=ry;exact PySem.EqMixed.ne_int_str (ZY I q (by simp))
  | _=>exact absurd (show false=true from hs) Yv
 | str i =>
  obtain⟨t,rfl⟩:=rx;cases y with
  | ay=>cases ry;exact PySem.EqNone.ne_str_none (ZY I q (by simp))
  | bl j=>cases ry;exact PySem.EqMixed.ne_str_bool (ZY I q (by simp))
  | int j=>obtain⟨t',rfl⟩:=ry;exact PySem.EqMixed.ne_str_int (ZY I q (by simp))
  | str j=>obtain⟨t',rfl⟩:=ry;exact ne_str (ZY I q (congrArg not Jy))
  | _=>exact absurd (show false=true from hs) Yv
 | jj i =>
  obtain⟨t,rfl⟩:=rx;cases y with
  | jj j=>obtain⟨t',rfl⟩:=ry;exact PySem.W.ne_bytes (ZY I q (congrArg not Jz))
  | _=>exact absurd (show false=true from hs) Yv
 | _=>cases y<;>exact absurd (show false=true from hs) Yv
def QE:a9 X (compareOp .Lt) (uT fun i j=>.bl (decide (i<j))):=Ju fun _ _ _ _ _ _ _ q=>lt_int q
def QF:a9 X (compareOp .Gt) (uT fun i j=>.bl (decide (j<i))):=Ju fun _ _ _ _ _ _ _ q=>gt_int q
def QG:a9 X (compareOp .Lt) (fun x y H Q=>∃i j,x=.str i/\y=.str j/\Q (.bl (decide (i.cps.toList<j.cps.toList))) H):=by
 intro pins s σ H x y v u Q I rx ry h;obtain⟨i,j,rfl,rfl,q⟩:=h;obtain⟨t,rfl⟩:=rx;obtain⟨t',rfl⟩:=ry;exact lt_str (ZY I q rfl)
def QH:a9 X (compareOp .In) (fun x y H Q=>∃i j,x=.str i/\y=.str j/\Q (.bl (!(Builtin.Str.occurrences j i 0 j.length 1).isEmpty)) H):=by
 intro pins s σ H x y v u Q I rx ry h;obtain⟨i,j,rfl,rfl,q⟩:=h;obtain⟨t,rfl⟩:=rx;obtain⟨t',rfl⟩:=ry;exact in_str (ZY I q rfl)
def JA:a9 X (compareOp .Is) (fun x y H Q=>y=.ay/\Q (.bl (decide (x=.ay))) H):=by
 intro pins s σ H x y v u Q I rx ry h;obtain⟨rfl,q⟩:=h;cases ry;refine is_none_gen (ZY I q ?_);cases x<;>first
  | (cases rx;rfl)
  | (obtain⟨t,rfl⟩:=rx;rfl)
def Dm:a9 X (compareOp .IsNot) (fun x y H Q=>y=.ay/\Q (.bl (!decide (x=.ay))) H):=by
 intro pins s σ H x y v u Q I rx ry h;obtain⟨rfl,q⟩:=h;cases ry;refine isnot_none_gen (ZY I q ?_);cases x<;>first
  | (cases rx;rfl)
  | (obtain⟨t,rfl⟩:=rx;rfl)
def a9.or(h:a9 X f r)(h':a9 X f r'):a9 X f (fun x y H Q=>r x y H Q\/r' x y H Q):=by
 intro pins s σ H x y v u Q I rx ry q;rcases q with q|q
 .exact h pins s σ H x y v u Q I rx ry q
 .exact h' pins s σ H x y v u Q I rx ry q
def ZF(b:Expr)(h:op≠.In:=by decide)(h2:op≠.NotIn:=by decide):behindInMarks op b=false:=by
 have e1:(op==CmpOp.In)=false:=by cases op<;>first|rfl|exact absurd rfl h
 have e2:(op==CmpOp.NotIn)=false:=by cases op<;>first|rfl|exact absurd rfl h2
 cases b<;>simp[behindInMarks,e1,e2]
def qg(ho:a9 X (compareOp op) r)(ha:PE X a ta)(hb:PE X b tb)(hm:behindInMarks op b=false):PE X (.Compare a [op] [b] pos) (wK r ta tb):=by
 intro pins s σ H Q I h;exact wpAny_Compare1 (Dh ha hb I h fun v u s2 x y H2 I2 rx ry q=>ho pins s2 σ H2 x y v u Q I2 rx ry q) hm
def JB(t:TE):TT:=fun σ H Q=>t σ H fun x H'=>∃k,x=.bl k/\Q k H'
def Zo(ho:a9 X (compareOp op) r)(ha:PE X a ta)(hb:PE X b tb)(hm:behindInMarks op b=false):PT X (.Compare a [op] [b] pos) (JB (wK r ta tb)):=by
 intro pins s σ H Q I h;refine wpAny_isTrue_Compare1 (aM (ha pins s σ H _ I h) fun v s1 ⟨x,H1,I1,r1,q1⟩=>aM (hb pins s1 σ H1 _ I1 q1) fun u s2 ⟨y,H2,I2,r2,q2⟩ =>
  aM (ho pins s2 σ H2 x y v u _ I2 r1 r2 q2) fun c s3 ⟨z,H3,I3,r3,k,e,q3⟩=>?_) hm
 subst e;cases r3;exact rj ⟨H3,I3,q3⟩
def Dp(K:au)(x:V)(H:Hp)(k:Bool):Prop :=
 match x with
 | .ay=>k=false
 | .bl b=>k=b
 | .int i=>k=(i != 0)
 | .str y=>y.length<=sizeLine/\k=((y.length:Int) != 0)
 | .jj y=>y.size<=sizeLine/\k=((y.size:Int) != 0)
 | .ref p=>(∃xs,aV K H p xs/\k=!xs.isEmpty)\/(∃xs,bf K H p xs/\k=!xs.isEmpty)\/∃aq,H p=some (.dK aq)/\k=!aq.isEmpty
 | _=>False
def QI{vs:List (κ×Value)}(r:KV aq vs):(!vs.isEmpty)=!aq.isEmpty:=by
 cases r<;>rfl
def JC(r:Z3 xs its):(!its.toArray.isEmpty)=!xs.isEmpty:=by
 cases r<;>simp
def rL:(sizeLine:Nat)<2^63:=by rw[gA];decide
def QJ:Qt X (fun x H Q=>∃k,Dp X.K x H k/\Q k H):=by
 intro pins s σ H x v Q I rx h;obtain⟨k,e,q⟩:=h;have hl:=rL;have hs:sizeLine=16777216:=gA;cases x with
 | ay =>
  cases rx;have e':k=false:=e;subst e';exact truthy_none ⟨H,I,q⟩
 | bl b =>
  cases rx;have e':k=b:=e;subst e';exact rj ⟨H,I,q⟩
 | int i =>
  obtain⟨t,rfl⟩:=rx;have e':k=(i != 0):=e;subst e';exact PySem.P.truthy_int ⟨H,I,q⟩
 | str y =>
  obtain⟨t,rfl⟩:=rx;obtain⟨hy,e'⟩:y.length<=sizeLine/\k=((y.length:Int) != 0):=e;subst e';exact PySem.P.truthy_str (by lia) ⟨H,I.tok _,q⟩
 | jj y =>
  obtain⟨t,rfl⟩:=rx;obtain⟨hy,e'⟩:y.size<=sizeLine/\k=((y.size:Int) != 0):=e;subst e';exact PySem.W.truthy_bytes (by lia) ⟨H,I.tok _,q⟩
 | ref p =>
  cases rx;have e':(∃xs,aV X.K H p xs/\k=!xs.isEmpty)\/(∃xs,bf X.K H p xs/\k=!xs.isEmpty)\/∃aq,H p=some (.dK aq)/\k=!aq.isEmpty:=e;rcases e' with⟨xs,hx,e'⟩|⟨xs,hx,e'⟩|⟨aq,hx,e'⟩
  .subst e';obtain⟨its,r,pl,hz⟩:=I.list hx;have hlen:=r.length;exact wpAny_truthy_list pl.isList (by simp only[Yq];lia) ⟨H,I.tok _,by rw[JC r];exact q⟩
  .subst e';obtain⟨its,r,pl,hz⟩:=I.tuple hx;have hlen:=r.length;exact truthy_tuple pl (by simp only[Yq];lia) ⟨H,I.tok _,by rw[JC r];exact q⟩
  .subst e';obtain⟨hz,hS,vs,r,m⟩:aq.length<=sizeLine/\(p==sysModules)=false/\∃vs,KV aq vs/\s.heap.DictOf (CY X.prog X.w) p vs:=I.aG p _ hx;have hlen:aq.length=vs.length:=Paired.length r;exact wpAny_truthy_dict hS m (by lia) ⟨H,I.tok _,by rw[QI r];exact q⟩
 | _=>exact(show False from e).elim
def Dq(ha:PE X a ta)(he:∀whole,isTrue a X.env whole=(do let v <- whole;standAt a.pos;holding [v] (truthy v))):
  PT X a (fun σ H Q=>ta σ H fun x H'=>∃k,Dp X.K x H' k/\Q k H'):=by
 intro pins s σ H Q I h;exact isTrue_plain (aM (ha pins s σ H _ I h) fun v s1 ⟨x,H1,I1,r1,q1⟩=>QJ pins s1 σ H1 x v Q I1 r1 q1) (he _)
def QK:a9 X (binaryOp .Add) (fun x y H Q=>∃i j,x=.str i/\y=.str j/\i.length+j.length<=sizeLine/\Q (.str (i++j)) H):=by
 intro pins s σ H x y v u Q I rx ry h;obtain⟨i,j,rfl,rfl,hz,q⟩:=h;obtain⟨t,rfl⟩:=rx;obtain⟨t',rfl⟩:=ry;exact add_str (fun t' tk=>⟨.str (i++j),H,I.tok _,⟨_,rfl⟩,q⟩) hz
def Dr(r:Z3 [x] us):∃u,us=[u]/\aZ x u:=by
 cases r with
 | cons r1 r2=>cases r2;exact⟨_,rfl,r1⟩
def QL(r:Z3 [x,y] us):∃u w',us=[u,w']/\aZ x u/\aZ y w':=by
 cases r with
 | cons r1 r2 =>
  cases r2 with
  | cons r3 r4=>cases r4;exact⟨_,_,rfl,r1,r3⟩
def QM(hc:X.calm=true):cf X (.builtin "min") (fun xs H Q=>∃i j,xs=[.int i,.int j]/\Q (.int (if j<i then j else i)) H):=by
 intro pins s σ H xs us Q I r h;obtain⟨i,j,rfl,q⟩:=h;obtain⟨u,w',rfl,⟨t,rfl⟩,⟨t',rfl⟩⟩:=QL r;refine min_two_ints (I.ok.hd hc) fun h' tk k=>⟨_,H,I.kept k,?_,q⟩;by_cases hj:j<i
 .rw[if_pos hj,if_pos hj];exact⟨_,rfl⟩
 .rw[if_neg hj,if_neg hj];exact⟨_,rfl⟩
end
structure rM (h:Heap) (x dx C:Addr) (mA:Str->Option Value):Prop where
 obj:h.get? x=some (instObj C dx)
 ns:h.Ns1 dx mA
 ne:dx≠x
def JD{h:Heap}(n:h.Ns1 dx mA):∃od,h.get? dx=some od/\∀name,lookIn name od=some (mA name):=by
 obtain⟨o,es,ep,ho,hd,hk,_,hm⟩:=n;refine⟨o,ho,fun name=>?_⟩;have e:=hm name;unfold nsFind findBy at e;rw[<- Array.find?_toList]at e;unfold lookIn;rw[hd];dsimp only;split
 .rename_i y q;rw[q]at e;exact congrArg some e
 .rename_i q;rw[q]at e;have a:es.toList.any (·.refKey)=false:=by
   rw[List.any_eq_false];intro y hy;obtain⟨z,t,ot⟩:=hk y (Array.mem_toList_iff.mp hy);simp[DictEntry.refKey,ot]
  have a':¬es.toList.any (·.refKey)=true:=by rw[a];exact Yv
  rw[if_neg a'];exact congrArg some e
def rM.look(I:rM h x dx C mA):∃od,PySem.W.InstAt h x (instObj C dx) C (some od)/\∀name,lookIn name od=some (mA name) :=
 let⟨od,ho,hl⟩:=JD I.ns
 ⟨od,⟨I.obj,rfl,rfl,ho⟩,hl⟩
section
variable{K:au}
def QN(X:K.In s.heap)(I:rM s.heap x dx C mA)(hg:PySem.W.plainGet K C name=true)(hh:PySem.W.hasDictIn K C=true)(ha:PySem.W.findIn K (.ref C) name=some none)(hv:mA name=some v)(jW:PySem.W.handedIn v=true)(h:Q v { s with toks:=s.toks+1 }):
  wpAny (model prog w) A (getAttr (.ref x) name expr) Q E s:=by
 obtain⟨od,J,hl⟩:=I.look;exact PySem.W.get_value X J (plainGet_of hg).1 (findObj_own hh ha rfl (by rw[hl,hv])) jW h
def QO(X:K.In s.heap)(I:rM s.heap x dx C mA)(hg:PySem.W.plainGet K C name=true)(hf:PySem.W.findIn K (.ref C) name=some (some (.ref f)))(ht:PySem.W.isFn K (.ref f)=true)(hv:mA name=none)(h:Q (.ref f,[.ref x]) s):
  wpAny (model prog w) A (getMethod (.ref x) name pl) Q E s:=by
 obtain⟨od,J,hl⟩:=I.look;exact PySem.W.method_fn X J (plainGet_of hg).1 (plainGet_of hg).2 hf (beq_iff_eq.mp ht) (by show(lookIn name od).map (·.isSome)=some false;rw[hl,hv];rfl) h
def QP(X:K.In s.heap)(I:rM s.heap x dx C mA)(hs:PySem.W.findIn K (.ref C) "__setattr__"=some (some (.builtin "object.__setattr__")))(hp:PySem.W.plainOver K C=true)(ht:PySem.W.takerIn K C name=some none)(hh:PySem.W.hasDictIn K C=true)(hw:PySem.Within mA ns)(hsz:ns.length<=sizeLine)(h:∀h',rM h' x dx C (fun y=>if y=name then some v else mA y)->Heap.SameBut dx s.heap h'->Q () { s with heap:=h',toks:=s.toks+2 }):
  wpAny (model prog w) A (setAttr (.ref x) name v) Q E s:=by
 obtain⟨od,J,hl⟩:=I.look;refine set_plain X J hs (PySem.W.osa_open (s:={ s with toks:=s.toks+1 }) (r:=none) X J hp ht fun b=>?_);obtain⟨cd,hc,gB⟩:=any_some hh;have hx:s.heap.get? x=some ⟨.ref C,some dx,.plain,#[]⟩:=I.obj;refine Yb (Yd (Yb (Yb (wpAny_loadPart hx (Yb (Looks.here (s:={ s with toks:=s.toks+1 }) (looks_clsIn X hc) ?_))))));rw[gB];refine Yd (a:=some dx) (Yb (Yd (Yb ?_)));refine wpAny_nsSet1 (s:={ s with toks:=s.toks+1 }) I.ns fun h' jX rN=>?_;obtain⟨oD,QQ,QR,Ds,Dt,lN⟩:=jX.count (PySem.Within.cons name v hw);refine Yb (wpAny_lookBehind Ds (by rw[Dt];exact pastItsLine_dict (YE lN (by rw[List.length_cons];lia))) ?_);exact Yd (h _ ⟨(rN.2 _ (Ne.symm I.ne)).trans I.obj,jX,I.ne⟩ rN)
def JE(X:K.In s.heap)(hm:PySem.W.makesIn K C=true)(hi:PySem.W.findIn K (.ref C) "__init__"=some (some (.ref f)))(hf:PySem.W.typeIn K (.ref f)=some (.type "function"))(h : codeAny (model prog w) (A.under (.builtin "type.__call__" ⟨.ref C::vs,kw⟩)) (.call (.ref f) ⟨.ref (s.heap.objs.size + 1)::vs,kw⟩) (InitBack (s.heap.objs.size + 1) R)
   { s with heap:=(s.heap.push emptyDict).push (instObj C s.heap.objs.size) }):
  codeAny (model prog w) A (.call (.ref C) ⟨vs,kw⟩) R s:=by
 obtain⟨hh,g,d,t,os⟩:=s;exact make_core (makes_of X hm) (looks_findIn X hi) (fun self=>bind_fn X self hf) (.inl rfl) h
def QS(X:K.In s.heap)(hm:PySem.W.makesIn K C=true)(hi:PySem.W.findIn K (.ref C) "__init__"=some (some (.builtin "object.__init__")))(hb:∀ self,Looks (model prog w) s.heap (bindSpecial (.builtin "object.__init__") self) (.builtin "object.__init__",[self]))(h : codeAny (model prog w) (A.under (.builtin "type.__call__" ⟨[.ref C],[]⟩)) (.call (.builtin "object.__init__") ⟨[.ref (s.heap.objs.size + 1)],[]⟩) (InitBack (s.heap.objs.size + 1) R)
   { s with heap:=(s.heap.push emptyDict).push (instObj C s.heap.objs.size) }):
  codeAny (model prog w) A (.call (.ref C) ⟨[],[]⟩) R s:=by
 obtain⟨hh,g,d,t,os⟩:=s;exact make_core (makes_of X hm) (looks_findIn X hi) hb (.inr ⟨rfl,rfl⟩) h
end
def dg(f:Str)(v:V):List (Str×V)->List (Str×V)
 | []=>[(f,v)]
 | (g,x)::r=>if g=f then(g,v)::r else(g,x)::dg f v r
theorem JF(f g:Str)(v:V):∀fs:List (Str×V),(dg f v fs).lookup g=if g=f then some v else fs.lookup g
 | [] => by
  show List.lookup g [(f,v)]=_
  by_cases h:g=f
  .have hb:(g==f)=true:=beq_iff_eq.mpr h
   simp only[List.lookup,hb,if_pos h]
  .have hb:(g==f)=false:=Yw.mpr h
   simp only[List.lookup,hb,if_neg h]
 | (k, x)::r=>by
  have ih:=JF f g v r
  rw[show dg f v ((k,x)::r)=(if k=f then(k,v)::r else(k,x)::dg f v r)from rfl]
  by_cases hk:k=f
  .rw[if_pos hk]
   by_cases h:g=k
   .have hb:(g==k)=true:=beq_iff_eq.mpr h
    simp only[List.lookup,hb,if_pos (h.trans hk)]
   .have hb:(g==k)=false:=Yw.mpr h
    simp only[List.lookup,hb,if_neg (fun e:g=f=>h (e.trans hk.symm))]
  .rw[if_neg hk]
   by_cases h:g=k
   .have hb:(g==k)=true:=beq_iff_eq.mpr h
    simp only[List.lookup,hb,if_neg (fun e:g=f=>hk (h.symm.trans e))]
   .have hb:(g==k)=false:=Yw.mpr h
    simp only[List.lookup,hb]
    exact ih
theorem Du(f:Str)(v:V):∀fs:List (Str×V),f∈(dg f v fs).map (·.1)/\∀g,g∈fs.map (·.1)->g∈(dg f v fs).map (·.1)
 | []=>⟨by simp[dg],fun g h=>by simp at h⟩
 | (k, x)::r=>by
  obtain⟨i1,i2⟩:=Du f v r
  rw[show dg f v ((k,x)::r)=(if k=f then(k,v)::r else(k,x)::dg f v r)from rfl]
  by_cases hk:k=f
  .rw[if_pos hk]
   subst hk
   exact⟨by simp,fun g h=>by simpa using h⟩
  .rw[if_neg hk]
   refine⟨?_,fun g h=>?_⟩
   .rw[Yr]
    exact m3 _ i1
   .rw[Yr]at h ⊢
    rcases Yo.mp h with e|e
    .exact Yo.mpr (.inl e)
    .exact m3 _ (i2 g e)
theorem JG(f:Str)(v:V):∀fs:List (Str×V),(dg f v fs).length<=fs.length+1
 | []=>by simp[dg]
 | (k,x)::r=>by
  have ih:=JG f v r
  rw[show dg f v ((k,x)::r)=(if k=f then(k,v)::r else(k,x)::dg f v r)from rfl]
  by_cases hk:k=f
  .rw[if_pos hk,List.length_cons,List.length_cons];lia
  .rw[if_neg hk,List.length_cons,List.length_cons];lia
def iL.some_of(r:iL (some v) o):∃u,o=some u/\aZ v u:=by
 cases o with
 | none=>exact(show False from r).elim
 | some u=>exact⟨u,rfl,r⟩
def iL.none_of(r:iL none o):o=none:=by
 cases o with
 | none=>rfl
 | some u=>exact(show False from r).elim
def JH(r:aZ v u):PySem.W.handedIn u=true:=by
 cases v with
 | ay=>cases(show u=Value.none from r);rfl
 | bl b=>cases(show u=Value.bool b from r);rfl
 | int i=>obtain⟨t,e⟩:=(show ∃t,u=Value.int i t from r);cases e;rfl
 | str x=>obtain⟨t,e⟩:=(show ∃t,u=Value.str x t from r);cases e;rfl
 | jj b=>obtain⟨t,e⟩:=(show ∃t,u=Value.bytes b t from r);cases e;rfl
 | rD b=>obtain⟨t,e⟩:=(show ∃t,u=Value.float b t from r);cases e;rfl
 | ref a=>cases(show u=Value.ref a from r);rfl
 | ty n=>cases(show u=Value.type n from r);rfl
section
def wL(aG:cV P w H h)(e:H a=some (.ins C dx fs)):∃mA,rM h a dx C mA/\(∀f,iL (fs.lookup f) (mA f))/\PySem.Within mA (fs.map (·.1))/\fs.length<=1000/\H dx=some (.own a):=by
 obtain⟨d,z,ne,ob,mA,n,r,q⟩:=(show dC P w H h a (.ins C dx fs)from aG a _ e);exact⟨mA,⟨ob,n,ne⟩,r,q,z,d⟩
end
structure fe (K:au) (C:Addr):Prop where
 pg:PySem.W.plainGet K C Str.empty=true
 hd:PySem.W.hasDictIn K C=true
 po:PySem.W.plainOver K C=true
 sa:PySem.W.findIn K (.ref C) "__setattr__"=some (some (.builtin "object.__setattr__"))
def fe.get{K:au}(c:fe K C)(f:Str):PySem.W.plainGet K C f=true:=c.pg
def fW(K:au)(C:Addr)(f:Str):Prop:=PySem.W.findIn K (.ref C) f=some none
def fW.qi{K:au}(n:fW K C f):PySem.W.takerIn K C f=some none:=by
 unfold PySem.W.takerIn;rw[show PySem.W.findIn K (.ref C) f=some none from n];rfl
structure Af (K:au) (C:Addr) (m:Str) (f:Addr):Prop where
 at_:PySem.W.findIn K (.ref C) m=some (some (.ref f))
 fn:PySem.W.isFn K (.ref f)=true
 kp:PySem.W.keepIn K (.ref f)=true
section
def QT(I:Inv X pins σ H s)(e:H a=some (.ins C dx fs))(c:fe X.K C)(n:fW X.K C f)(l:fs.lookup f=some v)(h:∀u s',Inv X pins σ H s'->aZ v u->Q u s'):wpAny (model X.prog X.w) A (getAttr (.ref a) f b) Q E s:=by
 obtain⟨mA,O,r,_,_,_⟩:=wL I.aG e;obtain⟨u,hu,ru⟩:=iL.some_of (v:=v) (o:=mA f) (by rw[<- l];exact r f);exact QN I.bo O (c.get f) c.hd n hu (JH ru) (h u _ (I.tok _) ru)
def QU(I:Inv X pins σ H s)(e:H a=some (.ins C dx fs))(c:fe X.K C)(k:Af X.K C m g)(l:fs.lookup m=none)(h:Q (.ref g,[.ref a]) s):wpAny (model X.prog X.w) A (getMethod (.ref a) m pl) Q E s:=by
 obtain⟨mA,O,r,_,_,_⟩:=wL I.aG e;have hn:mA m=none:=iL.none_of (by rw[<- l];exact r m);exact QO I.bo O (c.get m) k.at_ k.fn hn h
def QV(I:Inv X pins σ H s)(e:H a=some (.ins C dx fs))(c:fe X.K C)(n:fW X.K C f)(hl:fs.length<1000)(ry:aZ y u)(h:∀s',Inv X pins σ (upd H a (.ins C dx (dg f y fs))) s'->Q () s'):wpAny (model X.prog X.w) A (setAttr (.ref a) f u) Q E s:=by
 obtain⟨mA,O,r,wi,_,ho⟩:=wL I.aG e;have hz:(fs.map (·.1)).length<=sizeLine:=by rw[Yc,gA];lia
 refine QP I.bo O c.sa c.po n.qi c.hd wi hz fun h' O' sb=>h _ ?_;have hd:∃o,h'.get? dx=some o:=let⟨o,_,_,e',_⟩:=O'.ns;⟨o,e'⟩;refine I.write (x:=a) (e:=dx) (by rw[e];exact True.intro) (.inr ho) (fun b q hb z=>(sb.2 b hb).trans z) hd ?_;refine⟨by rw[Zs O.ne];exact ho,?_,O.ne,O'.obj,_,O'.ns,fun g=>?_,fun g hg=>?_⟩
 .have:=JG f y fs;lia
 .show iL ((dg f y fs).lookup g) (if g=f then some u else mA g);rw[JF];by_cases q:g=f
  .rw[if_pos q,if_pos q];exact ry
  .rw[if_neg q,if_neg q];exact r g
 .by_cases q:g=f
  .rw[q];exact(Du f y fs).1
  .refine(Du f y fs).2 g (wi g fun z=>hg ?_);show(if g=f then some u else mA g)=none;rw[if_neg q];exact z
def Inv.made(I:Inv X pins σ H s):Inv X pins σ (upd (upd H s.heap.objs.size (.own (s.heap.objs.size+1))) (s.heap.objs.size+1) (.ins C s.heap.objs.size []))
  { s with heap:=(s.heap.push emptyDict).push (instObj C s.heap.objs.size) }:=by
 have e1:(s.heap.push emptyDict).get? s.heap.objs.size=some emptyDict:=Yl s.heap rfl;have e2:((s.heap.push emptyDict).push (instObj C s.heap.objs.size)).get? (s.heap.objs.size+1)=some (instObj C s.heap.objs.size):=by
  have:=Yl (s.heap.push emptyDict) (o:=instObj C s.heap.objs.size) rfl;rwa [YL]at this
 have e3:(s.heap.push emptyDict).Ns s.heap.objs.size (fun _=>none):=⟨emptyDict,#[],_,e1,rfl,(fun e he=>absurd he (by simp)),fun _=>rfl⟩;have I1:=I.laid (a:=s.heap.objs.size) (o:=.own (s.heap.objs.size+1)) (h':=s.heap.push emptyDict) (t':=s.toks) (fun b u q=>Ye _ q) (Yj _) ⟨_,e1⟩;refine I1.laid (a:=s.heap.objs.size+1) (o:=.ins C s.heap.objs.size []) (t':=s.toks) (fun b u q=>Ye _ q) (CV (YL _ _)) ?_;have ne:s.heap.objs.size≠s.heap.objs.size+1:=Yn (lG _);refine⟨by rw[Zs ne,ZC],Y0 _,ne,e2,fun _=>none,(Heap.Ns1.of_empty e3).at fun o q=>Ye _ q,fun _=>True.intro,fun y hy=>absurd rfl hy⟩
def JI(hb:attributeBase e f env (eval e env)=eval e env)(h:wpAny (model prog w) A (eval e env) (fun o aH=>wpAny (model prog w) A (getAttr o f true) Q E aH) E s):wpAny (model prog w) A (eval (.Attribute e f pos) env) Q E s :=
 Attribute_any_ h (by rw[arm_eval_Attribute,hb])
end
def JJ(K:au)(ta:TE)(f:Str):TE:=fun σ H Q=>ta σ H fun x H1=>∃a C dx fs v,x=.ref a/\H1 a=some (.ins C dx fs)/\fe K C/\fW K C f/\fs.lookup f=some v/\Q v H1
def JK(K:au)(ta tv:TE)(f:Str):TS:=fun D σ H=>tv σ H fun y H1=>ta σ H1 fun x H2=>∃a C dx fs,x=.ref a/\H2 a=some (.ins C dx fs)/\fe K C/\fW K C f/\fs.length<1000 /\
 D.nx σ (upd H2 a (.ins C dx (dg f y fs)))
section
def dX(he:PE X e ta)(hb:attributeBase e f X.env (eval e X.env)=eval e X.env):PE X (.Attribute e f pos) (JJ X.K ta f):=by
 intro pins s σ H Q I h;refine JI hb (aM (he pins s σ H _ I h) fun u s1 aL=>?_);obtain⟨x,H1,I1,rx,a,C,dx,fs,v,ex,ea,c,n,l,q⟩:=aL;subst ex;obtain rfl:u=Value.ref a:=rx;exact QT I1 ea c n l fun u' s2 I2 ru=>⟨v,H1,I2,ru,q⟩
def jo(ha:PE X o ta)(hv:PE X value tv)(hs:swapsWith value (some (.Attribute o f pos')) pos.line X.env=pure false):PS X (.Assign [.Attribute o f pos'] value pos) (JK X.K ta tv f):=by
 intro pins s σ H D I h;refine plainObj_wpAny_Assign_Attribute (aM (hv pins s σ H _ I h) fun u s1 ⟨y,H1,I1,ry,q⟩=>aM (ha pins s1 σ H1 _ I1 q) fun ov s2 ⟨x,H2,I2,rx,a,C,dx,fs,ex,ea,c,n,l,q2⟩=>?_) hs;subst ex;obtain rfl:ov=Value.ref a:=rx;exact QV I2 ea c n l ry fun s3 I3=>⟨σ,_,I3,q2⟩
end
section
inductive jY (K:au) (H:Hp):V->Value->Prop where
 | ay:jY K H .ay (.type "NoneType")
 | bl (x:Bool):jY K H (.bl x) (.type "bool")
 | int (i:Int):jY K H (.int i) (.type "int")
 | str (x:Str):jY K H (.str x) (.type "str")
 | rD (x:UInt64):jY K H (.rD x) (.type "float")
 | lst {a:Addr} {xs:List V} (e:H a=some (.lst xs)):jY K H (.ref a) (.type "list")
 | gP {a:Addr} {o:Obj} {xs:List V} (e:H a=some (.gP o (.lst xs))):jY K H (.ref a) (.type "list")
 | tup {a:Addr} {xs:List V} (e:H a=some (.tup xs)):jY K H (.ref a) (.type "tuple")
 | dK {a:Addr} {aq:List (Key×V)} (e:H a=some (.dK aq)):jY K H (.ref a) (.type "dict")
 | dT {a:Addr} {aq:List (List Key×V)} (e:H a=some (.dT aq)):jY K H (.ref a) (.type "dict")
 | ins {a C dx:Addr} {fs:List (Str×V)} (e:H a=some (.ins C dx fs)) (cl:fe K C) (ha:PySem.W.findIn K (.ref C) "__class__"=some (some (.builtin "object.__class__")))
   (hn:PySem.W.specialIn K (.builtin "object.__class__") "__get__"=some (some (.builtin "getset_descriptor.__get__"))) (ou:PySem.W.takesIn K (.builtin "object.__class__")=some true)
   (hm:PySem.W.mroIn K C (.type "object")=some true):jY K H (.ref a) (.ref C)
def JL(I:Inv X pins σ H s)(rx:aZ x u)(ty:jY X.K H x t)(e:PySem.W.kitOne X.K t c=some b)(h:∀tk,Q (.bool b) { s with toks:=tk }):
  wpAny (model X.prog X.w) A (call (.builtin "isinstance") [u,c]) Q E s:=by
 cases ty with
 | ay=>cases(show u=Value.none from rx);exact Y6 PySem.W.kitx_none I.bo True.intro e (fun z=>nomatch z) h
 | bl y=>cases(show u=Value.bool y from rx);exact Y6 PySem.W.kitx_bool I.bo True.intro e (fun z=>nomatch z) h
 | int i=>obtain⟨t,q⟩:=(show ∃t,u=Value.int i t from rx);cases q;exact Y6 PySem.W.kitx_int I.bo True.intro e (fun z=>nomatch z) h
 | str y=>obtain⟨t,q⟩:=(show ∃t,u=Value.str y t from rx);cases q;exact Y6 PySem.W.kitx_str I.bo True.intro e (fun z=>nomatch z) h
 | rD y=>obtain⟨t,q⟩:=(show ∃t,u=Value.float y t from rx);cases q;exact Y6 PySem.W.kitx_float I.bo True.intro e (fun z=>nomatch z) h
 | @lst a xs ea =>
  cases(show u=Value.ref a from rx);obtain⟨_,_,n,_,h1⟩:=(show dC X.prog X.w H s.heap a (.lst xs)from I.aG a _ ea);exact Y6 CL I.bo ⟨_,h1,rfl⟩ e (fun z=>nomatch z) h
 | @gP a ob xs ea =>
  cases(show u=Value.ref a from rx);obtain⟨_,_,_,n,_,h1⟩:=(show dC X.prog X.w H s.heap a (.gP ob (.lst xs))from I.aG a _ ea);exact Y6 CL I.bo ⟨_,h1,rfl⟩ e (fun z=>nomatch z) h
 | @tup a xs ea =>
  cases(show u=Value.ref a from rx);obtain⟨_,_,_,p⟩:=(show dC X.prog X.w H s.heap a (.tup xs)from I.aG a _ ea);obtain⟨o,h1,h2,_⟩:=p;exact Y6 IM I.bo ⟨o,h1,h2⟩ e (fun z=>nomatch z) h
 | @dK a aq ea =>
  cases(show u=Value.ref a from rx);obtain⟨_,_,vs,_,p⟩:=(show dC X.prog X.w H s.heap a (.dK aq)from I.aG a _ ea);obtain⟨o,es,ep,h1,h2,_⟩:=p;exact Y6 IS I.bo ⟨o,h1,h2.1⟩ e (fun z=>nomatch z) h
 | @dT a aq ea =>
  cases(show u=Value.ref a from rx);obtain⟨_,_,xs,_,o,es,ep,h1,h2,_⟩:=(show dC X.prog X.w H s.heap a (.dT aq)from I.aG a _ ea);exact Y6 IS I.bo ⟨o,h1,h2.1⟩ e (fun z=>nomatch z) h
 | @ins a C dx fs ea cl ha hn ou hm =>
  cases(show u=Value.ref a from rx);obtain⟨mA,O,_⟩:=wL I.aG ea;obtain⟨od,J,_⟩:=O.look;exact Y6 (kitx_own (cl.get _) cl.hd ha hn ou hm) I.bo J e (fun z=>nomatch z) h
end
structure bV (k:Nat) (A:Around):Prop where
 hd:A.handled=none
 dp:A.depth+3*k+5<recursionLimit
 un:A.units+16*k+200<cLine
def bV.mono(r:bV k A)(h:j<=k):bV j A:=⟨r.hd,by have:=r.dp;lia,by have:=r.un;lia⟩
def bV.deeper(r:bV (k+1) A)(env:Env):bV k (A.deeper env) :=
 ⟨r.hd,by have:=r.dp;show A.depth+1+3*k+5<_;lia,by have:=r.un;show A.units+3+16*k+200<_;lia⟩
def QW{A:Around}:(A.under (.builtin "type.__call__" ⟨.ref C::us,kw⟩)).depth=A.depth+1:=by
 first|rfl|simp[Around.under,Code.weight,Code.isCreation,Code.isGuard,Code.isCaller,Code.frames,Code.isFrame,guardIds]
def QX{A:Around}:(A.under (.builtin "type.__call__" ⟨.ref C::us,kw⟩)).units=A.units+1:=by
 first|rfl|simp[Around.under,Code.cUnits,Code.frames,Code.isFrame]
def bV.make(r:bV (k+1) A)(C:Addr)(us:List Value)(kw:List (Str×Value)):bV k (A.under (.builtin "type.__call__" ⟨.ref C::us,kw⟩)) :=
 ⟨r.hd,by have:=r.dp;rw[QW];lia,by have:=r.un;rw[QX];lia⟩
def bV.depth(r:bV k A):A.depth<recursionLimit:=by have:=r.dp;lia
def bV.rO(r:bV k A):A.units<cLine:=by have:=r.un;lia
def oy:TA:=fun _ H Q=>Q [] H
def oz(ta:TE)(tr:TA):TA:=fun σ H Q=>ta σ H fun x H1=>tr σ H1 fun xs H2=>Q (x::xs) H2
section
def Zg:PA X [] oy:=fun _ _ _ _ H Q I h=>CM ⟨[],H,I,.nil,h⟩
def Za(ha:PE X e te)(hr:PA X es t)(hs:starEach (e::es) X.env=(false,eval e X.env)::starEach es X.env:=by rfl):PA X (e::es) (oz te t):=by
 intro pos pins s σ H Q I h;rw[hs];show wpAny _ _ (spliced ((false,eval e X.env)::backTo pos (starEach es X.env))) _ _ s;refine CH (aM (ha pins s σ H _ I h) fun u s1 aL=>?_);obtain⟨x,H1,I1,r1,q1⟩:=aL;exact aM (hr pos pins s1 σ H1 _ I1 q1) fun us s2 ⟨xs,H2,I2,r2,q2⟩=>⟨x::xs,H2,I2,.cons r1 r2,q2⟩
def JM(t:TA):TE:=fun σ H Q=>t σ H fun xs H1=>xs.length<=sizeLine/\∀p,H1 p=none->Q (.ref p) (upd H1 p (.tup xs))
def JN(t:TA):TE:=fun σ H Q=>t σ H fun xs H1=>xs.length<=sizeLine/\∀p,H1 p=none->Q (.ref p) (upd H1 p (.lst xs))
def ZJ(h:PA X es t):PE X (.Tuple es x1 pos) (JM t):=by
 intro pins s σ H Q I hq;refine wpAny_Tuple_spliced (aM (h pos pins s σ H _ I hq) fun us s1 ⟨xs,H1,I1,r,z,q⟩=>⟨by rw[<- r.length];exact z,?_⟩);have hf:H1 s1.heap.objs.size=none:=I1.aG.fresh (Yj _);exact⟨.ref s1.heap.objs.size,upd H1 s1.heap.objs.size (.tup xs),I1.laid (t':=s1.toks) (fun b u e=>Ye _ e) (Yj _) ⟨z,us,r,⟨_,Yl _ rfl,rfl,_,rfl⟩⟩,rfl,q _ hf⟩
def ZW(h:PA X es t):PE X (.List es pos) (JN t):=by
 intro pins s σ H Q I hq;refine wpAny_List_spliced (aM (h pos pins s σ H _ I hq) fun us s1 ⟨xs,H1,I1,r,z,q⟩=>⟨by rw[<- r.length];exact z,?_⟩);have hf:H1 s1.heap.objs.size=none:=I1.aG.fresh (Yj _);exact⟨.ref s1.heap.objs.size,upd H1 s1.heap.objs.size (.lst xs),I1.laid (t':=s1.toks) (fun b u e=>Ye _ e) (Yj _) ⟨z,us,0,r,Yl _ rfl⟩,rfl,q _ hf⟩
end
abbrev Sp:=List V->Hp->VK->XK->Prop
abbrev oA:=List Env->Hp->Shared->XK->Value->Shared->Prop
structure rP (P:Program) (w:World) (K:au) (mg:Str->Option Value) (base:Heap) (A:Around) (outer:List Env) (s:Shared) (H:Hp):Prop where
 frames:A.frames=some outer
 mod:Mod K mg base
 bs:∀b o,base.get? b=some o->s.heap.get? b=some o/\H b=none
 n6:base.objs.size<=s.heap.objs.size
 dH:s.heap.FunFrames base outer
 rF:∀b∈bE outer,H b=none
 aG:cV P w H s.heap
 bare:AllBare s.gens
def CE(outer:List Env)(P:Program)(w:World)(H:Hp)(s:Shared)(Q:VK)(u:Value)(s':Shared):Prop :=
 ∃v H',s'.os=s.os/\AllBare s'.gens/\Un (bE outer) [] H H' s.heap s'.heap/\cV P w H' s'.heap/\aZ v u/\Q v H'
def CR(CX:oA)(outer:List Env)(P:Program)(w:World)(H:Hp)(s:Shared)(Q:VK)(E:XK)(r:Result)(s':Shared):Prop :=
 match r with
 | .ok (.ret u)=>CE outer P w H s Q u s'
 | .ok _=>False
 | .error e=>CX outer H s E e s'
structure cF (P:Program) (w:World) (K:au) (mg:Str->Option Value) (base:Heap) (CX:oA) (k:Nat) (f:Addr) (fd:FuncData) (ps:List Str) (sp:Sp):Prop where
 len:∀vs H Q E,sp vs H Q E->vs.length=ps.length
 run : ∀(A:Around)(outer:List Env)(s:Shared)(H:Hp)(args:Args)(us:List Value)(vs:List V)(Q:VK)(E:XK),bV k A->rP P w K mg base A outer s H->BindsTo s fd args (ps.zip us)->Z3 vs us->sp vs H Q E ->
  codeAny (model P w) A (.call (.ref f) args) (CR CX outer P w H s Q E) s
def cF.mono{K:au}(F:cF P w K mg base CX j f fd ps sp)(h:j<=k):
  cF P w K mg base CX k f fd ps sp:=⟨F.len,fun A outer s H args us vs Q E hr=>F.run A outer s H args us vs Q E (hr.mono h)⟩
def cF.imp{K:au}(F:cF P w K mg base CX k f fd ps sp)(h:∀vs H Q E,QY vs H Q E->sp vs H Q E):cF P w K mg base CX k f fd ps QY :=
 ⟨fun vs H Q E q=>F.len vs H Q E (h _ _ _ _ q),fun A outer s H args us vs Q E hr he hb hv hs=>F.run A outer s H args us vs Q E hr he hb hv (h _ _ _ _ hs)⟩
def rP.make{K:au}(e:rP P w K mg base A outer s H)(C:Addr)(us:List Value)(kw:List (Str×Value)):
  rP P w K mg base (A.under (.builtin "type.__call__" ⟨.ref C::us,kw⟩)) outer s H:=⟨by first|exact e.frames|(simpa[Around.under,Code.envs,Code.isFrame,pushEnvs]using e.frames),e.mod,e.bs,e.n6,e.dH,e.rF,e.aG,e.bare⟩
section
def Inv.oB(I:Inv X pins σ H s):rP X.prog X.w X.K X.mg X.base X.A X.stack s H :=
 ⟨I.ok.frames,I.ok.mod,I.bs,YE I.ok.n6 I.sz,I.stack,I.fU,I.aG,I.bare⟩
def Inv.after(I:Inv X pins σ H s)(h:CE X.stack X.prog X.w H s Q u s'):EP X pins σ Q u s':=by
 obtain⟨v,H',os,bare,un,aG,r,q⟩:=h;obtain⟨hh,g,d,t,wM⟩:=s';obtain rfl:wM=s.os:=os;exact⟨v,H',I.call (h':=hh) (g':=g) (d':=d) (t':=t) (ch:=[]) un aG bare (fun b z=>absurd z (by simp)),r,q⟩
end
def Dv(sp:Sp)(dvs:List V)(E:XK)(t:TA):TE:=fun σ H Q=>t σ H fun vs H1=>sp (vs++dvs) H1 Q E
def JO(C:Addr)(sp:Sp)(dvs:List V)(E:XK)(t:TA):TE:=fun σ H Q=>t σ H fun vs H1=>∀x dx,H1 x=none->H1 dx=none->dx≠x ->
 sp (.ref x::(vs++dvs)) (upd (upd H1 dx (.own x)) x (.ins C dx [])) (fun v H2=>v=.ay/\Q (.ref x) H2) E
def kN(K:au)(fd:FuncData)(ps:List Str)(ds:List Value):Prop :=
 ∀(s:Shared)(us:List Value),K.In s.heap->(us++ds).length=ps.length->BindsTo s fd ⟨us,[]⟩ (ps.zip (us++ds))
def kN.all{K:au}(h:∀us:List Value,us.length=ps.length->bindArgs fd ⟨us,[]⟩=pure (ps.zip us)):kN K fd ps []:=fun s us _ hl=>by
 rw[YW]at hl ⊢
 exact .of_eq (h us hl)
def rQ(CX:oA)(X:Cx)(E:XK):Prop:=∀(pins:List (Addr×Obj))(σ:St)(H:Hp)(s:Shared)(e:Value)(s':Shared),Inv X pins σ H s->CX X.stack H s E e s'->X.xe e s'
section
def Dw(F:cF X.prog X.w X.K X.mg X.base CX k f fd ps sp)(hr:bV k X.A)(hb:kN X.K fd ps ds)(hd:Z3 dvs ds)(hx:rQ CX X E)(I:Inv X pins σ H s)(r:Z3 vs us)(h:sp (vs++dvs) H Q E):wpAny (model X.prog X.w) X.A (call (.ref f) us) (EP X pins σ Q) X.xe s:=by
 have r2:Z3 (vs++dvs) (us++ds):=r.append hd;have hl:(us++ds).length=ps.length:=by rw[<- r2.length];exact F.len _ _ _ _ h
 refine kJ (kI (F.run X.A X.stack s H ⟨us,[]⟩ (us++ds) (vs++dvs) Q E hr I.oB (hb s us I.bo hl) r2 h) fun r s' hq=>?_);cases r with
 | error e=>exact hx pins σ H s e s' I hq
 | ok fl =>
  cases fl with
  | ret u=>exact I.after hq
  | next=>exact False.elim hq
  | brk=>exact False.elim hq
  | cont=>exact False.elim hq
def QZ(F:cF X.prog X.w X.K X.mg X.base CX k f fd ps sp)(hr:bV k X.A)(hg:Gl X x)(hm:X.mg x=some (.ref f))(hk:PySem.W.keepIn X.K (.ref f)=true)(hb:kN X.K fd ps ds)(hd:Z3 dvs ds)(hx:rQ CX X E)(ha:PA X (e::es) t)(cR:(x==("__debug__":Str))=false:=by decide)(he:starEach (e::es) X.env=(false,eval e X.env)::starEach es X.env:=by rfl)(bx:(backTo pos (starEach es X.env)).any (·.1)=false:=by rfl):
  PE X (.Call (.Name x p) (e::es) [] pos) (Dv sp dvs E t):=by
 intro pins s σ H Q I h;exact kG (lK I hg hm (wm (h₀:=X.base) I.ok.mod.rE hk (aM (ha pos pins s σ H _ I h) fun us s1 ⟨vs,H1,I1,r,q⟩=>⟨I1.bo,Dw F hr hb hd hx I1 r q⟩) he bx) cR)
structure Mk (K:au) (C f:Addr):Prop where
 makes:PySem.W.makesIn K C=true
 init:PySem.W.findIn K (.ref C) "__init__"=some (some (.ref f))
 fn:PySem.W.isFn K (.ref f)=true
 kp:PySem.W.keepIn K (.ref C)=true
def Q0(M:Mk X.K C f)(F:cF X.prog X.w X.K X.mg X.base CX k f fd ps sp)(hr:bV (k+1) X.A)(hb:kN X.K fd ps ds)(hd:Z3 dvs ds)(hx:rQ CX X E)(I:Inv X pins σ H s)(r:Z3 vs us)(h:∀x dx,H x=none->H dx=none->dx≠x->sp (.ref x::(vs++dvs)) (upd (upd H dx (.own x)) x (.ins C dx [])) (fun v H2=>v=.ay/\Q (.ref x) H2) E):
  wpAny (model X.prog X.w) X.A (call (.ref C) us) (EP X pins σ Q) X.xe s:=by
 have hq:=h (s.heap.objs.size+1) s.heap.objs.size (I.aG.fresh (fT _)) (I.aG.fresh (Yj _)) (Yn (lG _));have I2:=Inv.made (C:=C) I;have r2:Z3 (V.ref (s.heap.objs.size+1)::(vs++dvs)) (Value.ref (s.heap.objs.size+1)::(us++ds)):=.cons rfl (r.append hd);have hl:(Value.ref (s.heap.objs.size+1)::us++ds).length=ps.length:=by
  have e:=r2.length;rw[F.len _ _ _ _ hq]at e;exact e.symm
 refine kJ (JE (f:=f) I.bo M.makes M.init (beq_iff_eq.mp M.fn) (kI (F.run _ X.stack _ _ ⟨Value.ref (s.heap.objs.size+1)::us,[]⟩ (Value.ref (s.heap.objs.size+1)::(us++ds)) _ _ E (hr.make C us [])
  (I2.oB.make C us []) (hb _ (Value.ref (s.heap.objs.size+1)::us) I2.bo hl) r2 hq) fun r s' gV=>?_))
 cases r with
 | error e=>exact hx pins σ _ _ e s' I2 gV
 | ok fl =>
  cases fl with
  | ret u =>
   obtain⟨v,H',I3,rv,ev,q3⟩:=I2.after gV;subst ev;exact⟨rv,⟨V.ref (s.heap.objs.size+1),H',I3,rfl,q3⟩⟩
  | next=>exact False.elim gV
  | brk=>exact False.elim gV
  | cont=>exact False.elim gV
def qj(M:Mk X.K C f)(F:cF X.prog X.w X.K X.mg X.base CX k f fd ps sp)(hr:bV (k+1) X.A)(hg:Gl X x)(hm:X.mg x=some (.ref C))(hb:kN X.K fd ps ds)(hd:Z3 dvs ds)(hx:rQ CX X E)(ha:PA X (e::es) t)(cR:(x==("__debug__":Str))=false:=by decide)(he:starEach (e::es) X.env=(false,eval e X.env)::starEach es X.env:=by rfl)(bx:(backTo pos (starEach es X.env)).any (·.1)=false:=by rfl):
  PE X (.Call (.Name x p) (e::es) [] pos) (JO C sp dvs E t):=by
 intro pins s σ H Q I h;exact kG (lK I hg hm (wm (h₀:=X.base) I.ok.mod.rE M.kp (aM (ha pos pins s σ H _ I h) fun us s1 ⟨vs,H1,I1,r,q⟩=>⟨I1.bo,Q0 M F hr hb hd hx I1 r q⟩) he bx) cR)
end
structure gW (N P:List Str) (sc:Scope):Prop where
 kind:sc.kind=.function
 co:sc.isCoroutine=false
 gen:sc.isGenerator=false
 nd:N.Nodup
 pre:N.take P.length=P
 par:∀x∈P,sc.names.lookup x=some .local\/sc.names.lookup x=some .cell
 rR:∀y∈sc.names,y.2≠.free
theorem JP{kindOf:Str->Option NameKind}:∀ {binds:List (Str×Value)} {m:Str->Option Value},(∀v,(x,v)∉binds)->bindL kindOf binds m x=m x
 | [],_,_=>rfl
 | (n, v)::r,m,h=>by
  unfold bindL
  rw[JP fun w hw=>h w (m3 _ hw)]
  split
  .have:x≠n:=by rintro rfl;exact h v lE
   simp[this]
  .rfl
theorem JQ{kindOf:Str->Option NameKind}:∀ {binds:List (Str×Value)} {m:Str->Option Value},(∀v,(x,v)∉binds)->bindC kindOf binds m x=m x
 | [],_,_=>rfl
 | (n, v)::r,m,h=>by
  unfold bindC
  rw[JQ fun w hw=>h w (m3 _ hw)]
  split
  .rfl
  .have:x≠n:=by rintro rfl;exact h v lE
   simp[this]
theorem JR{kindOf:Str->Option NameKind}:∀ {P:List Str} {vs:List Value} {i:Nat} {m:Str->Option Value},P.Nodup->P[i]? = some x->vs[i]? = some v->kindOf x=some .local ->
  bindL kindOf (P.zip vs) m x=some v
 | [],_,_,_,_,h,_,_=>by simp at h
 | _::_,[],_,_,_,_,h,_=>by simp at h
 | p :: P,w::vs,0,m,nd,h1,h2,hk=>by
  simp at h1 h2;subst h1;subst h2
  show bindL kindOf ((p,w)::P.zip vs) m p=_
  unfold bindL
  rw[JP fun v hv=>(Y7.mp nd).1 (CP hv).1,if_pos hk]
  simp
 | p :: P,w::vs,i+1,m,nd,h1,h2,hk=>by
  show bindL kindOf ((p,w)::P.zip vs) m x=_
  unfold bindL
  exact JR (i:=i) (Y7.mp nd).2 (by simpa using h1) (by simpa using h2) hk
theorem JS{kindOf:Str->Option NameKind}:∀ {P:List Str} {vs:List Value} {i:Nat} {m:Str->Option Value},P.Nodup->P[i]? = some x->vs[i]? = some v->kindOf x≠some .local ->
  bindC kindOf (P.zip vs) m x=some v
 | [],_,_,_,_,h,_,_=>by simp at h
 | _::_,[],_,_,_,_,h,_=>by simp at h
 | p :: P,w::vs,0,m,nd,h1,h2,hk=>by
  simp at h1 h2;subst h1;subst h2
  show bindC kindOf ((p,w)::P.zip vs) m p=_
  unfold bindC
  rw[JQ fun v hv=>(Y7.mp nd).1 (CP hv).1,if_neg hk]
  simp
 | p :: P,w::vs,i+1,m,nd,h1,h2,hk=>by
  show bindC kindOf ((p,w)::P.zip vs) m x=_
  unfold bindC
  exact JS (i:=i) (Y7.mp nd).2 (by simpa using h1) (by simpa using h2) hk
def start(N:List Str)(vs:List V):St:=vs.map some++List.replicate (N.length-vs.length) none
def fo(CX:oA)(P:Program)(w:World)(K:au)(mg:Str->Option Value)(base:Heap)(N:List Str)(qual:Str)(scope:Scope)(f:Addr)(cd:Value)(A:Around)(outer:List Env)(s:Shared)(H:Hp)(E:XK):Cx where
 prog:=P
 w := w
 K := K
 mg:=mg
 base:=base
 A := A.deeper (envOfC qual scope s.heap.objs.size f cd)
 N := N
 bA:=s
 iR:=H
 env:=envOfC qual scope s.heap.objs.size f cd
 outer:=outer
 stack:=envOfC qual scope s.heap.objs.size f cd::outer
 ex:=[]
 calm:=true
 fn:=fun _=>true
 pn:=[]
 xe:=fun e s'=>wpAny (model P w) (A.deeper (envOfC qual scope s.heap.objs.size f cd)) (leaving (envOfC qual scope s.heap.objs.size f cd) e) (fun _ Dx=>CX outer H s E e Dx) (fun e' Dx=>CX outer H s E e' Dx) s'
def JT{sc:Scope}(h:sc.names.lookup x=some .cell):∃c,(cellsFrom n sc.names []).lookup x=some c:=by
 have q:=Iv sc.names n [] (.inl h);exact zF.mp q
def Q2{K:au}(S:gW N ps scope)(hd:A.handled=none)(e0:rP P w K mg base A outer s H)(hl:vs.length=ps.length)(r:Z3 vs us)(x:InCallC s s.heap.objs.size (bindL (envOfC qual scope s.heap.objs.size f cd).kindOf (ps.zip us) fun _=>none) (cellsFrom (s.heap.objs.size+1) scope.names []) (bindC (envOfC qual scope s.heap.objs.size f cd).kindOf (ps.zip us) fun _=>none) s1):
  Inv (fo CX P w K mg base N qual scope f cd A outer s H E) [] (start N vs) H s1:=by
 have bx:ps.length<=N.length:=by have:=congrArg List.length S.pre;rw[YK]at this;lia
 obtain⟨h1,tk,rfl,hk⟩:=x.done;have wN:∀b:Addr,b∉(fo CX P w K mg base N qual scope f cd A outer s H E).ex:=fun b z=>absurd (show b∈([]:List Addr)from z) (by simp);refine⟨⟨e0.mod,S.kind,rfl,rfl,Yj _,fun y z c h1 h2=>?_,fun y hy=>?_,fun y c _ h=>?_,fun _=>hd,Around.frames_deeper e0.frames,.inr ⟨rfl,rfl⟩,fun b z=>absurd z (wN b),e0.bs,e0.n6,fun b _ _=>wN b,fun b z=>absurd z (wN b),e0.dH,e0.rF⟩,
  rfl,e0.bare,Un.kept hk,⟨_,x.toInCall.ns,fun i y v h1 h2 h3=>?_⟩,fun y c h=>⟨_,x.cell y c h⟩,e0.aG.fresh (Yj _),fun y c h=>?_,fun p hp=>absurd (show p∈([]:List (Addr×Obj))from hp) (by simp),e0.aG.kept hk,?_⟩
 .exact name_of_addr x.apart (pY h1) (pY h2)
 .have hy:scope.names.lookup y=some .cell\/scope.names.lookup y=some .free:=hy;rcases hy with hy|hy
  .exact JT hy
  .exact absurd rfl (S.rR _ (pY hy))
 .exact nZ (x.above y c (pY h))
 .have hi:i<vs.length:=by
   unfold start at h2;by_cases hi:i<vs.length
   .exact hi
   .rw[YQ (by simpa using hi)]at h2;rw[Iq]at h2;split at h2<;>cases h2
  have ha:vs[i]? = some v:=by
   unfold start at h2;rw[YU (by simpa using hi),Yi]at h2;cases e:vs[i]? with
   | none=>rw[e]at h2;cases h2
   | some a=>rw[e]at h2;cases h2;rfl
  obtain⟨u,hu,rv⟩:=r.get ha;have hp:ps[i]? = some y:=by
   rw[<- S.pre,Im (by lia)];exact h1
  have JU:ps.Nodup:=by rw[<- S.pre];exact S.nd.sublist (List.take_sublist _ _)
  refine⟨u,rv,?_⟩;rcases S.par y (Yk hp)with k|k
  .exact .inl ⟨k,JR JU hp hu k⟩
  .obtain⟨c,e⟩:=JT (n:=s.heap.objs.size+1) k;refine .inr ⟨.inl k,c,e,?_⟩;have q:=x.cell y c e;rw[JS JU hp hu (by show scope.names.lookup y≠_;rw[k];decide)]at q;exact q
 .exact e0.aG.fresh (nZ (x.above y c (pY h)))
 .unfold start;show _=N.length;rw[Yt,Yc,Iz];lia
def JV{K:au}{dV kV doc pm bg ct oc:Value}(lk:K.lookup f=some ⟨oc,od,.func (PySem.W.fnOf name qual params body scope dV kV doc pm an bg ct),oC⟩)(gR:PySem.W.codeIn K bg qual=true)(S:gW N ps scope)(len:∀ vs H Q E,sp vs H Q E->vs.length=ps.length)(cW:∀ (A:Around) (outer:List Env) (s:Shared) (H:Hp) (vs:List V) (Q:VK) (E:XK),bV k (A.deeper (envOfC qual scope s.heap.objs.size f bg))->sp vs H Q E ->
   ∃t,dW (fo CX P w K mg base N qual scope f bg A outer s H E) body t/\t { nx:=fun _ H'=>Q .ay H',rt:=Q } (start N vs) H):
  cF P w K mg base CX (k+1) f (PySem.W.fnOf name qual params body scope dV kV doc pm an bg ct) ps sp:=by
 refine⟨len,fun A outer s H args us vs Q E hr e0 hb r iM=>?_⟩;have hl:=len _ _ _ _ iM;have KX:K.In s.heap:=e0.mod.rE.keeps fun b o e=>(e0.bs b o e).1;have lim:s.heap.NoLimit:=e0.mod.nolimit.keeps fun b o e=>(e0.bs b o e).1;have wO:∀y∈ps.zip us,scope.names.lookup y.1=some .local\/(scope.names.lookup y.1=some .cell/\((cellsFrom (s.heap.objs.size+1) scope.names []).lookup y.1).isSome=true):=fun aF hy=>by
  obtain⟨n,v⟩:=aF;rcases S.par n (CP hy).1 with q|q
  .exact .inl q
  .exact .inr ⟨q,Iv _ _ _ (.inl q)⟩
 refine codeAny_call_function hr.depth (KX _ _ lk) rfl S.co S.gen rfl (PySem.W.codeRec_of KX gR) (hb _ _ _ _ (wpAny_newFunctionEnv_cells S.kind wO fun env he s1 x=>?_));subst he;refine⟨lim.keeps x.toInCall.keep,codeAny_func ?_⟩;obtain⟨t,ht,hq⟩:=cW A outer s H vs Q E (hr.deeper _) iM;have I:Inv (fo CX P w K mg base N qual scope f bg A outer s H E) [] (start N vs) H s1:=Q2 S hr.hd e0 hl r x;refine YH (ht [] s1 (start N vs) H _ I hq) (fun fl s' hs=>?_) fun e s' hs=>hs;have fin:∀ {aU:St} {H':Hp} {v:V} {u:Value},Inv (fo CX P w K mg base N qual scope f bg A outer s H E) [] aU H' s'->aZ v u->Q v H'->CE outer P w H s Q u s' :=
  fun {aU H' v u} J rv q=>⟨v,H',J.os,J.bare,J.base,J.aG,rv,q⟩
 cases fl with
 | ret u =>
  obtain⟨v,aU,H',J,rv,q⟩:=hs;exact fin J rv q
 | next =>
  obtain⟨aU,H',J,q⟩:=hs;exact fin (v:=V.ay) (u:=Value.none) J rfl q
 | brk =>
  obtain⟨_,_,_,q⟩:=hs;exact False.elim q
 | cont =>
  obtain⟨_,_,_,q⟩:=hs;exact False.elim q
section
variable{id T:String}
def rS(r:List V->Hp->VK->Prop)(t:TA):TE:=fun σ H Q=>t σ H fun vs H1=>r vs H1 Q
def Q3(hc:cf X (.builtin id) r)(hg:Gl X x)(hm:X.mg x=none)(hv:bootBuiltins x=some (.builtin id))(ha:PA X (e::es) t)(hn:x≠"__name__":=by decide)(cR:(x==("__debug__":Str))=false:=by decide)(he:starEach (e::es) X.env=(false,eval e X.env)::starEach es X.env:=by rfl)(bx:(backTo pos (starEach es X.env)).any (·.1)=false:=by rfl):PE X (.Call (.Name x p) (e::es) [] pos) (rS r t):=by
 intro pins s σ H Q I h;exact kG (og I hg hm hv (PyProof.Rows.callWith_builtin1 (aM (ha pos pins s σ H _ I h) fun us s1 ⟨vs,H1,I1,r1,q1⟩=>hc pins s1 σ H1 vs us Q I1 r1 q1) he bx) hn cR)
def Q4(hc:cf X (.type T) r)(hg:Gl X x)(hm:X.mg x=none)(hv:bootBuiltins x=some (.type T))(ha:PA X (e::es) t)(hn:x≠"__name__":=by decide)(cR:(x==("__debug__":Str))=false:=by decide)(he:starEach (e::es) X.env=(false,eval e X.env)::starEach es X.env:=by rfl)(bx:(backTo pos (starEach es X.env)).any (·.1)=false:=by rfl):PE X (.Call (.Name x p) (e::es) [] pos) (rS r t):=by
 intro pins s σ H Q I h;exact kG (og I hg hm hv (wg (aM (ha pos pins s σ H _ I h) fun us s1 ⟨vs,H1,I1,r1,q1⟩=>hc pins s1 σ H1 vs us Q I1 r1 q1) he bx) hn cR)
def JW(hc:cf X (.type T) r)(hg:Gl X x)(hm:X.mg x=none)(hv:bootBuiltins x=some (.type T))(hn:x≠"__name__":=by decide)(cR:(x==("__debug__":Str))=false:=by decide):
  PE X (.Call (.Name x p) [] [] pos) (rS r oy):=by
 intro pins s σ H Q I h;refine kG (og I hg hm hv ?_ hn cR);exact PyProof.Rows.callWith_type0 (hc pins s σ H [] [] Q I .nil h)
end
end L2
namespace HT
open PySem PyProof.Rows
def gX(A:Around)(s:Shared)(a:Int)(t:Tok)(c:Int)(u:Tok)(prog:Program)(w:World)(E:Value->Shared->Prop)(Q:Value->Shared->Prop)(h:Q (.bool (decide (a<c))) s):
  wpAny (model prog w) A (richCompare .Lt (.int a t) (.int c u)) Q E s :=
 (PyProof.Rows.lt_int h:wpAny (model prog w) A (compareOp .Lt (.int a t) (.int c u)) Q E s)
section
def oE(ht:IsTup s.heap t vs.toArray)(hb:IsTup s.heap b ws.toArray)(hv:vs≠[])(h1:ws=[]->Q (.ref t) s)(h2:ws≠[]->Q (.ref s.heap.objs.size) { s with heap:=s.heap.push { cls:=.type "tuple",data:=.seq (vs++ws).toArray } })(hsz:vs.length+ws.length<=sizeLine):wpAny (model prog w) A (binaryOp .Add (.ref t) (.ref b)) Q E s:=by
 obtain⟨⟨cls,dd,data,sl⟩,ho,hc,n,hd⟩:=id ht;obtain⟨⟨Dy,kO,data2,Ag⟩,lO,wQ,n2,hd2⟩:=id hb;simp only at hc hd wQ hd2;subst hc hd wQ hd2;have e:vs.toArray++ws.toArray=(vs++ws).toArray:=by simp
 by_cases hw:ws=[]
 .exact zW ⟨_,ho,rfl⟩ ⟨_,lO,rfl⟩ IX seq_tuple_add CC CB (CA _ _)
   (tuple_addW1 t b vs.toArray ws.toArray n n2 dd kO sl Ag (by simpa using hv) (by simp[hw])) ⟨ho,lO,h1 hw⟩
 .refine zW ⟨_,ho,rfl⟩ ⟨_,lO,rfl⟩ IX seq_tuple_add CC CB (CA _ _)
   (tuple_addW2 t b vs.toArray ws.toArray n n2 dd kO sl Ag (by simpa using hv) (by simpa using hw) (by rw[Yq,Yq];exact hsz)) ⟨ho,lO,?_⟩
  rw[e];exact h2 hw
def aO(n d:Nat):Option Int->Nat
 | none=>d
 | some v=>if v<0 then(v+(n:Int)).toNat else min v.toNat n
def lP(n d:Nat):aO n d none=d:=rfl
def cz(n d k:Nat):aO n d (some (k:Int))=min k n:=by
 show(if(k:Int)<0 then((k:Int)+(n:Int)).toNat else min (k:Int).toNat n)=min k n;rw[if_neg (by lia),Int.toNat_natCast]
def iT(n d:Nat)(hd:d<=n)(o:Option Int):aO n d o<=n:=by
 cases o with
 | none=>exact hd
 | some v =>
  show(if v<0 then(v+(n:Int)).toNat else min v.toNat n)<=n;by_cases hv:v<0
  .rw[if_pos hv];lia
  .rw[if_neg hv];exact Nat.min_le_right _ _
def fX(v:Int)(n d:Nat):(if v<0 then max (v+(n:Int)) 0 else min v (n:Int))=((aO n d (some v):Nat):Int):=by
 show(if v<0 then max (v+(n:Int)) 0 else min v (n:Int))=(((if v<0 then(v+(n:Int)).toNat else min v.toNat n):Nat):Int);by_cases hv:v<0
 .simp only[if_pos hv];lia
 .simp only[if_neg hv];lia
def Q5(lo hi:Option Int)(n:Nat):Builtin.Slice.sliceAdjust lo hi 1 (n:Int)=(((aO n 0 lo:Nat):Int),((aO n n hi:Nat):Int)):=by
 have h1:¬((1:Int)<0):=by lia
 unfold Builtin.Slice.sliceAdjust;simp only[h1,fj];refine Prod.ext ?_ ?_
 .cases lo with
  | none=>rfl
  | some v=>exact fX v n 0
 .cases hi with
  | none=>rfl
  | some v=>exact fX v n n
def Q6(i j:Nat):Builtin.Slice.slicePlaces (i:Int) (j:Int) 1=j-i:=by
 unfold Builtin.Slice.slicePlaces;have h1:(1:Int)>0:=by lia
 simp only[h1,if_true,Int.ediv_one];split<;>lia
def JX(p:IsPart v o)(h:Q o s):wpAny (model prog w) A (Builtin.Slice.slicePartIndex v) Q E s:=by
 cases p with
 | none=>exact slicePart_none h
 | int i t=>exact slicePart_int h
def bP{lo hi:Option Int}{Q:Int×Int×Nat->Shared->Prop}(hs:s.heap.IsSliceOf sl vl vu .none)(pl:IsPart vl lo)(pu:IsPart vu hi)(h:Q (((aO n 0 lo:Nat):Int),1,aO n n hi-aO n 0 lo) s):wpAny (model prog w) A (Builtin.Slice.sliceApplied (.ref sl) (pure (n:Int))) Q E s:=by
 obtain⟨os,gY,oF,lQ⟩:=id hs;unfold Builtin.Slice.sliceApplied Builtin.Slice.sliceFields;refine Yb (Yb (Y9 gY lQ (x:=vl) rfl (Yb (Y9 gY lQ (x:=vu) rfl (Yb (Y9 gY lQ (x:=.none) rfl (Yd ?_)))))));refine Yb (slicePart_none ?_);show wpAny _ _ (if((1:Int)==0)=true then _ else _) _ _ s;rw[if_neg (by decide)];refine Yb (JX pl (Yb (JX pu (Yb (Yd ?_)))));show wpAny _ _ (match Builtin.Slice.sliceAdjust lo hi 1 (n:Int)with|(lo,hi)=>pure (lo,(1:Int),Builtin.Slice.slicePlaces lo hi 1)) _ _ s;rw[Q5 lo hi n];show wpAny _ _ (pure (((aO n 0 lo:Nat):Int),(1:Int),Builtin.Slice.slicePlaces ((aO n 0 lo:Nat):Int) ((aO n n hi:Nat):Int) 1)) _ _ s;rw[Q6];exact Yd h
def Q7(xs:Array Value)(i k:Nat):((List.range k).filterMap fun(m:Nat)=>xs[((i:Int)+(m:Int)*1).toNat]?).toArray=((xs.toList.drop i).take k).toArray:=by
 have e:(fun(m:Nat)=>xs[((i:Int)+(m:Int)*1).toNat]?)=fun m=>xs[i+m]?:=by
  funext m;have:((i:Int)+(m:Int)*1).toNat=i+m:=by lia
  rw[this]
 rw[e];have:=pick_run xs i k;rw[List.filterMap_map]at this;have e2:((fun x=>xs[x]?)∘fun x=>i+x)=fun m=>xs[i+m]?:=rfl;rw[e2]at this;rw[this]
def cX{lo hi:Option Int}(ht:IsTup s.heap t items)(hs:s.heap.IsSliceOf sl vl vu .none)(pl:IsPart vl lo)(pu:IsPart vu hi)(hw:¬(aO items.size 0 lo=0/\aO items.size items.size hi=items.size))(h:Q (.ref s.heap.objs.size) { s with heap:=s.heap.push { cls:=.type "tuple",data:=.seq ((items.toList.drop (aO items.size 0 lo)).take (aO items.size items.size hi-aO items.size 0 lo)).toArray } })(hsz:items.size<=sizeLine):wpAny (model prog w) A (getItem (.ref t) (.ref sl)) Q E s:=by
 have jq:sizeOk (.seq ((items.toList.drop (aO items.size 0 lo)).take (aO items.size items.size hi-aO items.size 0 lo)).toArray):=by
  show((items.toList.drop (aO items.size 0 lo)).take (aO items.size items.size hi-aO items.size 0 lo)).toArray.size<=sizeLine;rw[Yq,YK,pZ,Array.length_toList];lia
 have hj:aO items.size items.size hi<=items.size:=iT _ _ (Yj _) hi;obtain⟨os,gY,oF,lQ⟩:=id hs;have hTs:s.TypeIs (.ref sl) "slice":=⟨os,gY,oF⟩;unfold getItem;try with_reducible refine YT ?_
 first|refine Yb (Yd ?_)|skip
 refine Yb (IU ht.typeIs (by decide) ?_);refine Yb (Y5 (name:=Str.ofString "__getitem__") ht.typeIs uC
  (YZ uC ht.typeIs entry_tuple_getitem ?_ (args_tuple_getitem _ _)))
 show wpAny _ _ (Builtin.Tuple.tupleItemsOf (.ref t)>>=_) _ _ s;refine Yb (tupleItemsOf_ ht ?_);refine Yb (p_ hTs ?_);rw[if_pos (by decide)];refine Yb (bP hs pl pu ?_);have iU:¬((((aO items.size 0 lo:Nat):Int)==0&&(1:Int)==1&&(aO items.size items.size hi-aO items.size 0 lo)==items.size)=true):=by
  intro q;rw[Y8,Y8]at q;have q1:((aO items.size 0 lo:Nat):Int)=0:=eq_of_beq q.1.1;have q2:aO items.size items.size hi-aO items.size 0 lo=items.size:=eq_of_beq q.2;exact hw ⟨by lia,by lia⟩
 show wpAny _ _ (if(((aO items.size 0 lo:Nat):Int)==0&&(1:Int)==1&&(aO items.size items.size hi-aO items.size 0 lo)==items.size)=true then _ else _) _ _ s;rw[if_neg iU,Q7];first
  | exact Yb (m:=Builtin.Tuple.tupleExact _) (YR (Yd ⟨_,rfl,Yd h⟩) jq)
  | exact Yb (m:=Builtin.Tuple.tupleExact _) (YR (Yb (Yd (Yd ⟨_,rfl,Yd h⟩))) jq)
  | exact Yb (Yb (m:=Builtin.Tuple.tupleExact _) (YR (Yd (Yd ⟨_,rfl,Yd h⟩)) jq))
  | exact Yb (Yb (m:=Builtin.Tuple.tupleExact _) (YR (Yd ⟨_,rfl,Yd h⟩) jq))
end
end HT
namespace L2
open PySem PySem.Spec PyProof.Rows
abbrev TO:=St->Hp->(Option Int->Hp->Prop)->Prop
def PO(X:Cx)(e:Option Expr)(t:TO):Prop :=
 ∀(pins:List (Addr×Obj))(s:Shared)(σ:St)(H:Hp)(Q:Option Int->Hp->Prop),Inv X pins σ H s->t σ H Q ->
  wpAny (model X.prog X.w) X.A (evalPart e X.env) (fun u s'=>∃o H',Inv X pins σ H' s'/\IsPart u o/\Q o H') X.xe s
def JY:TO:=fun _ H Q=>Q none H
def JZ(t:TE):TO:=fun σ H Q=>t σ H fun x H1=>∃i,x=.int i/\Q (some i) H1
section
variable{lo hi:Option Expr}
def rT:PO X none JY:=by
 intro pins s σ H Q I h;rw[evalPart_none];exact Yd ⟨none,H,I,.none,h⟩
def oG(h:PE X e te):PO X (some e) (JZ te):=by
 intro pins s σ H Q I hw;rw[evalPart_some];refine aM (h pins s σ H _ I hw) fun u s1 aL=>?_;obtain⟨x,H1,I1,r1,q1⟩:=aL;obtain⟨i,rfl,q⟩:=q1;obtain⟨t,rfl⟩:=r1;exact⟨some i,H1,I1,.int i t,q⟩
def uU(X:Cx)(r:V->Option Int->Option Int->Hp->VK->Prop):Prop :=
 ∀(pins:List (Addr×Obj))(s:Shared)(σ:St)(H:Hp)(x:V)(v vl vu:Value)(lo hi:Option Int)(sl:Addr)(Q:VK),Inv X pins σ H s->aZ x v->s.heap.IsSliceOf sl vl vu .none->IsPart vl lo->IsPart vu hi->r x lo hi H Q ->
  ∃T id,typeLookup (.type T) "__getitem__"=pure (some (.builtin id))/\s.TypeIs v T/\wpAny (model X.prog X.w) X.A (getItem v (.ref sl)) (EP X pins σ Q) X.xe s
def J0(r:V->Option Int->Option Int->Hp->VK->Prop)(te:TE)(tl th:TO):TE:=fun σ H Q=>te σ H fun x H1=>tl σ H1 fun l H2=>th σ H2 fun u H3=>r x l u H3 Q
def qk(hr:uU X r)(he:PE X e te)(hl:PO X lo tl)(hu:PO X hi th):PE X (.Subscript e (.Slice lo hi none p2) pos) (J0 r te tl th):=by
 intro pins s σ H Q I h;refine Subscript_ (aM (he pins s σ H _ I h) fun v s1 aL=>?_);obtain⟨x,H1,I1,r1,q1⟩:=aL;refine wpAny_Slice (aM (hl pins s1 σ H1 _ I1 q1) fun vl s2 ⟨l,H2,I2,pl,q2⟩=>aM (hu pins s2 σ H2 _ I2 q2) fun vu s3 aL=>?_);obtain⟨u,H3,I3,pu,q3⟩:=aL;rw[evalPart_none];refine Yd ?_;have I4:Inv X pins σ H3 { s3 with heap:=s3.heap.push { cls:=.type "slice",data:=.fields #[vl,vu,.none] } }:=I3.kept (t':=s3.toks) fun b ob q=>Ye _ q;obtain⟨T,id,hT,ht,hg⟩:=hr pins { s3 with heap:=s3.heap.push { cls:=.type "slice",data:=.fields #[vl,vu,.none] } } σ H3 x v vl vu l u s3.heap.objs.size Q I4 r1 (Heap.IsSliceOf.new ..) pl pu q3;show wpAny (model X.prog X.w) X.A (subscriptTail e (.Slice lo hi none p2) v (.ref s3.heap.objs.size)) (EP X pins σ Q) X.xe { s3 with heap:=s3.heap.push { cls:=.type "slice",data:=.fields #[vl,vu,.none] } };exact tail_any (ops:=[.ref s3.heap.objs.size,v]) ht hT hg (by with_unfolding_all rfl)
def jZ(xs:List V)(lo hi:Option Int):List V:=(xs.drop (HT.aO xs.length 0 lo)).take (HT.aO xs.length xs.length hi-HT.aO xs.length 0 lo)
def J2(xs:List V)(lo hi:Option Int):(jZ xs lo hi).length<=xs.length:=by
 unfold jZ;rw[YK,pZ];lia
def Q8(K:au):V->Option Int->Option Int->Hp->VK->Prop:=fun x lo hi H Q=>∃a xs,x=.ref a/\bf K H a xs /\
 ¬(HT.aO xs.length 0 lo=0/\HT.aO xs.length xs.length hi=xs.length)/\∀p,H p=none->Q (.ref p) (upd H p (.tup (jZ xs lo hi)))
def Q9:uU X (Q8 X.K):=by
 intro pins s σ H x v vl vu lo hi sl Q I rx hs pl pu h;obtain⟨a,xs,rfl,hx,hw,q⟩:=h;cases rx;obtain⟨its,r,ht,hz⟩:=I.tuple hx;have hlen:its.toArray.size=xs.length:=by rw[Yq];exact r.length.symm
 refine⟨"tuple",_,uC.lookup,ht.typeIs,?_⟩;refine HT.cX ht hs pl pu (by rw[hlen];exact hw) ?_ (by rw[hlen];exact hz);rw[hlen];exact⟨.ref s.heap.objs.size,_,I.laid (t':=s.toks) (o:=.tup (jZ xs lo hi)) (fun b ob q=>Ye _ q) (Yj _) ⟨YE (J2 xs lo hi) hz,_,(r.drop (HT.aO xs.length 0 lo)).take (HT.aO xs.length xs.length hi-HT.aO xs.length 0 lo),IsTup.new _ _⟩,rfl,q _ (I.aG.fresh (Yj _))⟩
def Q_(K:au):R2:=fun x y H Q=>∃a b xs ys,x=.ref a/\y=.ref b/\bf K H a xs/\bf K H b ys/\xs≠[]/\xs.length+ys.length<=sizeLine /\
 (ys=[]->Q (.ref a) H)/\(ys≠[]->∀p,H p=none->Q (.ref p) (upd H p (.tup (xs++ys))))
def Z3.fY(r:Z3 xs us):us=[]↔xs=[]:=by
 cases r with
 | nil=>simp
 | cons _ _=>simp
def Ra:a9 X (binaryOp .Add) (Q_ X.K):=by
 intro pins s σ H x y v u Q I rx ry h;obtain⟨a,b,xs,ys,rfl,rfl,ha,hb,hx,hz,q1,q2⟩:=h;cases rx;cases ry;obtain⟨its,r1,p1,_⟩:=I.tuple ha;obtain⟨cY,r2,p2,_⟩:=I.tuple hb;refine HT.oE p1 p2 (fun z=>hx (r1.fY.mp z)) (fun z=>⟨.ref a,H,I,rfl,q1 (r2.fY.mp z)⟩) (fun z=>?_) (by rw[<- r1.length,<- r2.length];exact hz);refine⟨.ref s.heap.objs.size,_,I.laid (t':=s.toks) (o:=.tup (xs++ys)) (fun b ob q=>Ye _ q) (Yj _) ?_,rfl,q2 (fun w=>z (r2.fY.mpr w)) _ (I.aG.fresh (Yj _))⟩;exact⟨by rw[Yt];exact hz,_,r1.append r2,IsTup.new _ _⟩
end
def jr(n:Nat)(i:Int):Option Nat:=if 0<=i then(if i<n then some i.toNat else none)else if -(n:Int)<=i then some (i+n).toNat else none
def cm{α:Type}(xs:List α)(i:Int):Option α:=(jr xs.length i).bind fun j=>xs[j]?
def J3(h:jr n i=some j):seqIndex? i n=some j/\j<n/\-(n:Int)<=i/\i<n:=by
 unfold jr at h;by_cases h0:0<=i
 .rw[if_pos h0]at h;by_cases h1:i<n
  .rw[if_pos h1]at h;have e:i.toNat=j:=YD h;exact⟨by rw[seqIndex_of h0 h1,e],by lia,by lia,h1⟩
  .rw[if_neg h1]at h;cases h
 .rw[if_neg h0]at h;by_cases h1:-(n:Int)<=i
  .rw[if_pos h1]at h;have e:(i+n).toNat=j:=YD h;exact⟨by rw[seqIndex_neg (by lia) h1,e],by lia,h1,by lia⟩
  .rw[if_neg h1]at h;cases h
def Dz(h:cm xs i=some v):∃j,seqIndex? i xs.length=some j/\xs[j]? = some v/\j<xs.length/\-(xs.length:Int)<=i/\i<xs.length:=by
 unfold cm at h;cases e:jr xs.length i with
 | none=>rw[e]at h;cases h
 | some j =>
  rw[e]at h;obtain⟨h1,h2,h3,h4⟩:=J3 e;exact⟨j,h1,h,h2,h3,h4⟩
def ZU{j:Nat}(h:xs[j]? = some v):cm xs (j:Int)=some v:=by
 have hj:j<xs.length:=(Yh.mp h).1;have e:jr xs.length (j:Int)=some j:=by
  unfold jr;rw[if_pos (by lia),if_pos (by lia)];simp
 unfold cm;rw[e];exact h
def Rb(b:Expr):Prop:=∀o i,subscripted b false o i=operate [o,i] (getItem o i)
def j0(X:Cx)(r:R2):Prop :=
 ∀(value slice:Expr)(pins:List (Addr×Obj))(s:Shared)(σ:St)(H:Hp)(x y:V)(v u:Value)(Q:VK),Inv X pins σ H s->aZ x v->aZ y u->r x y H Q ->
  subscripted slice false v u=operate [v,u] (getItem v u)->wpAny (model X.prog X.w) X.A (subscriptTail value slice v u) (EP X pins σ Q) X.xe s
def Ah(X:Cx)(id:String)(r:V->List V->Hp->VK->Prop):Prop :=
 ∀(pins:List (Addr×Obj))(s:Shared)(σ:St)(H:Hp)(x:V)(xs:List V)(v:Value)(us:List Value)(Q:VK),Inv X pins σ H s->aZ x v->Z3 xs us->r x xs H Q ->
  wpAny (model X.prog X.w) X.A (call (.builtin id) (v::us)) (EP X pins σ Q) X.xe s
section
def j0.or(h:j0 X r)(h':j0 X r'):j0 X (fun x y H Q=>r x y H Q\/r' x y H Q):=by
 intro value slice pins s σ H x y v u Q I rx ry q hs;rcases q with q|q
 .exact h value slice pins s σ H x y v u Q I rx ry q hs
 .exact h' value slice pins s σ H x y v u Q I rx ry q hs
def ZH(hr:j0 X r)(ha:PE X a ta)(hb:PE X b tb)(hs:Rb b):PE X (.Subscript a b pos) (wK r ta tb):=by
 intro pins s σ H Q I h;exact Subscript_ (Dh ha hb I h fun v u s2 x y H2 I2 rx ry q=>hr a b pins s2 σ H2 x y v u Q I2 rx ry q (hs _ _))
def J4(K:au):R2:=fun x y H Q=>∃p xs i v,x=.ref p/\y=.int i/\aV K H p xs/\cm xs i=some v/\Q v H
def J5(K:au):R2:=fun x y H Q=>∃p xs i v,x=.ref p/\y=.int i/\bf K H p xs/\cm xs i=some v/\Q v H
def J6:R2:=fun x y H Q=>∃z i c,x=.str z/\y=.int i/\z.length<=sizeLine/\cm z.cps.toList i=some c/\Q (.str ⟨#[c]⟩) H
def Rc:j0 X (J4 X.K):=by
 intro value slice pins s σ H x y v u Q I rx ry h hs;obtain⟨p,xs,i,z,rfl,rfl,hq,he,q⟩:=h;cases rx;obtain⟨t,rfl⟩:=ry;obtain⟨its,r,pl,hz⟩:=I.list hq;obtain⟨j,h1,h2,h3,h4,h5⟩:=Dz he;obtain⟨w,ew,wR⟩:=r.get h2;have hl:=r.length;have hn:=rL;have fin:EP X pins σ Q w s:=⟨z,H,I,wR,q⟩;by_cases h0:0<=i
 .have hj:i.toNat=j:=by
   rw[seqIndex_of h0 h5]at h1;exact YD h1
  exact item_listR pl.isList h0 (by lia) (by rw[hj];simpa using ew) fin hs
 .have hj:(i+(its.toArray.size:Int)).toNat=j:=by
   rw[seqIndex_neg (by lia) h4]at h1;rw[Yq,<- hl];exact YD h1
  exact Iw (x:=w) pl.isList.typeIs IV.lookup
   (wpAny_getItem_list_neg (Q:=fun r s'=>r=w/\EP X pins σ Q r s') pl.isList (by lia) (by rw[Yq]<;>lia) (by lia) (by rw[hj];simpa using ew) ⟨rfl,fin⟩) hs
def Rf:j0 X (J5 X.K):=by
 intro value slice pins s σ H x y v u Q I rx ry h hs;obtain⟨p,xs,i,z,rfl,rfl,hq,he,q⟩:=h;cases rx;obtain⟨t,rfl⟩:=ry;obtain⟨its,r,pl,hz⟩:=I.tuple hq;obtain⟨j,h1,h2,h3,h4,h5⟩:=Dz he;obtain⟨w,ew,wR⟩:=r.get h2;have hl:=r.length;have hn:=rL;have fin:EP X pins σ Q w s:=⟨z,H,I,wR,q⟩;exact Iw (x:=w) pl.typeIs slot_tuple_getitem.lookup
  (getItem_tuple (j:=j) (Q:=fun r s'=>r=w/\EP X pins σ Q r s') pl (by lia) (by lia) (by rw[Yq,<- hl];exact h1) (by simpa using ew) ⟨rfl,fin⟩) hs
def Ai:j0 X J6:=by
 intro value slice pins s σ H x y v u Q I rx ry h hs;obtain⟨z,i,c,rfl,rfl,hz,he,q⟩:=h;obtain⟨t,rfl⟩:=rx;obtain⟨t',rfl⟩:=ry;obtain⟨j,h1,h2,h3,h4,h5⟩:=Dz he;have hl:z.cps.toList.length=z.length:=by simp[Str.length]
 rw[hl]at h1 h4 h5;have hn:=rL;exact tail_any (typeIs_str s z t) slot_str_getitem.lookup (getItem_str (c:=c) (by
  have e1:decide (i < -(2^63:Int))=false:=Yu (by lia);have e2:decide (i ≥ 2^63)=false:=Yu (by lia);rw[e1,e2,Bool.or_false]) (by rw[h1];simpa using h2) ⟨.str ⟨#[c]⟩,H,I.tok _,⟨_,rfl⟩,q⟩) hs
def Rg(K:au):R2:=fun x y H Q=>J4 K x y H Q\/J5 K x y H Q\/J6 x y H Q
def Rh:j0 X (Rg X.K):=Rc.or (Rf.or Ai)
def Ri(its:List Value)(n j:Nat)(u:Value):Obj.mapSeq (·.setIfInBounds j u) { cls:=.type "list",data:=.seq its.toArray n }={ cls:=.type "list",data:=.seq (its.set j u).toArray n }:=by
 simp[Obj.mapSeq]
def Inv.lst(I:Inv X pins σ H s)(h:H p=some (.lst xs)):
  ∃(its:List Value)(n:Nat),Z3 xs its/\s.heap.get? p=some { cls:=.type "list",data:=.seq its.toArray n }/\xs.length<=sizeLine:=by
 obtain⟨z,its,n,r,e⟩:=I.aG p _ h;exact⟨its,n,r,e,z⟩
def Inv.rU{its its':List Value}(I:Inv X pins σ H s)(h:H p=some (.lst xs))(ho:s.heap.get? p=some { cls:=.type "list",data:=.seq its.toArray n })(hf:f { cls:=.type "list",data:=.seq its.toArray n }={ cls:=.type "list",data:=.seq its'.toArray n' })(r:Z3 ys its')(hz:ys.length<=sizeLine)(t:Nat):
  Inv X pins σ (upd H p (.lst ys)) { s with heap:=s.heap.update p f,toks:=t }:=by
 have e:(s.heap.update p f).get? p=some { cls:=.type "list",data:=.seq its'.toArray n' }:=by
  rw[YB f ho (by rw[hf]<;>rfl),hf]
 refine I.write (x:=p) (e:=p) (by rw[h];trivial) (.inl rfl) (fun b u hb q=>(YC _ _ (Ne.symm hb)).trans q) ⟨_,e⟩ ?_;exact⟨hz,its',n',r,e⟩
def J7:V->V->V->Hp->(Hp->Prop)->Prop:=fun o i v H Q=>∃p xs k j,o=.ref p/\i=.int k/\H p=some (.lst xs)/\jr xs.length k=some j/\Q (upd H p (.lst (xs.set j v)))
def Rj:Dd X J7:=by
 intro pins s σ H o i v ov iv u Q I ro ri rv h;obtain⟨p,xs,k,j,rfl,rfl,hp,hj,q⟩:=h;cases ro;obtain⟨t,rfl⟩:=ri;obtain⟨its,n,r,ho,hz⟩:=I.lst hp;obtain⟨h1,h2,h3,h4⟩:=J3 hj;have hl:=r.length;have hn:=rL;have I':Inv X pins σ (upd H p (.lst (xs.set j v))) { s with heap:=s.heap.update p (Obj.mapSeq (·.setIfInBounds j u)) } :=
  I.rU hp ho (Ri its n j u) (r.set rv j) (by rw[List.length_set];exact hz) s.toks
 by_cases h0:0<=k
 .have hk:k.toNat=j:=by
   rw[seqIndex_of h0 h4]at h1;exact YD h1
  exact PySem.W.ki_setAt ho h0 (by lia) (by rw[Yq,<- hl];exact h4) (by rw[hk];exact⟨_,I',q⟩)
 .have hk:(k+(its.toArray.size:Int)).toNat=j:=by
   rw[seqIndex_neg (by lia) h3]at h1;rw[Yq,<- hl];exact YD h1
  exact PySem.W.ki_setBack ho (by lia) (by rw[Yq,<- hl];exact h3) (by lia) (by rw[hk];exact⟨_,I',q⟩)
def Rk(lo hi:Option Int)(n:Nat):(sliceBounds lo hi none n).1=((HT.aO n 0 lo:Nat):Int)/\(sliceBounds lo hi none n).2.1=((HT.aO n n hi:Nat):Int)/\(sliceBounds lo hi none n).2.2=1:=by
 refine⟨?_,?_,rfl⟩
 .cases lo with
  | none=>simp[sliceBounds,HT.aO]
  | some i =>
   simp only[sliceBounds,HT.aO,Option.getD_none,show(1:Int)>0 by decide,if_true];by_cases h:i<0
   .simp only[h,if_true]<;>lia
   .simp only[h,fj]<;>lia
 .cases hi with
  | none=>simp[sliceBounds,HT.aO]
  | some i =>
   simp only[sliceBounds,HT.aO,Option.getD_none,show(1:Int)>0 by decide,if_true];by_cases h:i<0
   .simp only[h,if_true]<;>lia
   .simp only[h,fj]<;>lia
def Rm(its:List Value)(lo hi:Option Int):slicePick its.toArray lo hi none=((its.drop (HT.aO its.length 0 lo)).take (HT.aO its.length its.length hi-HT.aO its.length 0 lo)).toArray:=by
 obtain⟨h1,h2,h3⟩:=Rk lo hi its.toArray.size;unfold slicePick;rw[h1,h2,h3];simp only[sliceRange_one,pick_run,Yq]<;>rfl
def Rn(K:au):V->Option Int->Option Int->Hp->VK->Prop:=fun x lo hi H Q=>∃a xs,x=.ref a/\aV K H a xs/\∀p,H p=none->Q (.ref p) (upd H p (.lst (jZ xs lo hi)))
def Ro:uU X (Rn X.K):=by
 intro pins s σ H x v vl vu lo hi sl Q I rx hs pl pu h;obtain⟨a,xs,rfl,hx,q⟩:=h;cases rx;obtain⟨its,r,ht,hz⟩:=I.list hx;have hlen:=r.length;refine⟨"list",_,IV.lookup,ht.isList.typeIs,?_⟩;refine wpAny_getItem_list_slice ht.isList hs pl pu .none (by simp) ?_ (by rw[Yq]<;>lia);rw[Rm,<- hlen];exact⟨.ref s.heap.objs.size,_,I.laid (t':=s.toks) (o:=.lst (jZ xs lo hi)) (fun b ob q=>Ye _ q) (Yj _) ⟨YE (J2 xs lo hi) hz,_,0,(r.drop (HT.aO xs.length 0 lo)).take (HT.aO xs.length xs.length hi-HT.aO xs.length 0 lo),Yl _ rfl⟩,rfl,q _ (I.aG.fresh (Yj _))⟩
def fG:V->Bool
 | .ay=>true
 | .bl _=>true
 | .int _=>true
 | .str _=>true
 | _=>false
def lR:V->V->Bool
 | .ay,.ay=>true
 | .bl a,.bl b=>a==b
 | .bl a,.int b=>(if a then 1 else 0)==b
 | .int a,.bl b=>a==(if b then 1 else 0)
 | .int a,.int b=>a==b
 | .str a,.str b=>a==b
 | _,_=>false
def Rp(ry:aZ y u)(rx:aZ x v)(fy:fG y=true)(fx:fG x=true):SeqAt.EqAt A s u v (lR y x):=by
 cases y with
 | ay =>
  cases ry;cases x with
  | ay=>cases rx;exact SeqAt.EqAt.same _
  | bl b=>cases rx;exact SeqAt.EqAt.none_bool b
  | int b=>obtain⟨t,rfl⟩:=rx;exact SeqAt.EqAt.none_int b t
  | str b=>obtain⟨t,rfl⟩:=rx;exact SeqAt.EqAt.none_str b t
  | _=>exact absurd (show false=true from fx) Yv
 | bl a =>
  cases ry;cases x with
  | ay=>cases rx;exact SeqAt.EqAt.bool_none a
  | bl b=>cases rx;exact SeqAt.EqAt.bool_bool a b
  | int b=>obtain⟨t,rfl⟩:=rx;exact SeqAt.EqAt.bool_int a b t
  | str b=>obtain⟨t,rfl⟩:=rx;exact SeqAt.EqAt.bool_str a b t
  | _=>exact absurd (show false=true from fx) Yv
 | int a =>
  obtain⟨t',rfl⟩:=ry;cases x with
  | ay=>cases rx;exact SeqAt.EqAt.int_none a t'
  | bl b=>cases rx;exact SeqAt.EqAt.int_bool a t' b
  | int b=>obtain⟨t,rfl⟩:=rx;exact SeqAt.EqAt.int_int a t' b t
  | str b=>obtain⟨t,rfl⟩:=rx;exact IJ a t' b t
  | _=>exact absurd (show false=true from fx) Yv
 | str a =>
  obtain⟨t',rfl⟩:=ry;cases x with
  | ay=>cases rx;exact SeqAt.EqAt.str_none a t'
  | bl b=>cases rx;exact SeqAt.EqAt.str_bool a t' b
  | int b=>obtain⟨t,rfl⟩:=rx;exact IK a t' b t
  | str b=>obtain⟨t,rfl⟩:=rx;exact SeqAt.EqAt.str_str a t' b t
  | _=>exact absurd (show false=true from fx) Yv
 | _=>exact absurd (show false=true from fy) Yv
def iV(x:V)(u:Value):Bool:=match u with
 | .none=>lR .ay x
 | .bool b=>lR (.bl b) x
 | .int i _=>lR (.int i) x
 | .str z _=>lR (.str z) x
 | _=>false
def J8(r:aZ y u)(f:fG y=true):iV x u=lR y x:=by
 cases y with
 | ay=>cases r;rfl
 | bl b=>cases r;rfl
 | int i=>obtain⟨t,rfl⟩:=r;rfl
 | str z=>obtain⟨t,rfl⟩:=r;rfl
 | _=>exact absurd (show false=true from f) Yv
def wU:∀ {xs:List V} {us:List Value},Z3 xs us->xs.all fG=true->us.any (iV x)=xs.any fun y=>lR y x
 | _,_,.nil,_=>rfl
 | y :: xs,u::us,.cons r t,f=>by
  rw[List.all_cons,Y8]at f
  rw[List.any_cons,List.any_cons,J8 r f.1,wU t f.2]
theorem wV(rx:aZ x v)(fx:fG x=true):∀ {xs:List V} {us:List Value},Z3 xs us->xs.all fG=true->∀u∈us,SeqAt.EqAt A s u v (iV x u)
 | _,_,.nil,_=>fun u hu=>by cases hu
 | y :: xs,u::us,.cons r t,f=>fun u' hu=>by
  rw[List.all_cons,Y8]at f
  rcases Yo.mp hu with rfl|hu
  .rw[J8 r f.1];exact Rp r rx f.1 fx
  .exact wV rx fx t f.2 u' hu
def ng(x:V)(xs:List V):Bool:=xs.any fun y=>lR y x
def J9(K:au)(neg:Bool):R2:=fun x y H Q=>∃p xs,y=.ref p/\(aV K H p xs\/bf K H p xs)/\fG x=true/\xs.all fG=true/\Q (.bl (if neg then !ng x xs else ng x xs)) H
def Rq:a9 X (compareOp .In) (J9 X.K false):=by
 intro pins s σ H x y v u Q I rx ry h;obtain⟨p,xs,rfl,hq,fx,fs,q⟩:=h;cases ry;rcases hq with hq|hq
 .obtain⟨its,r,pl,hz⟩:=I.list hq;refine SeqAt.in_listAt (iV x) pl.isList (fun w hw=>wV rx fx r fs w (by simpa using hw)) ⟨.bl _,H,I,rfl,?_⟩;rw[show its.toArray.any (iV x)=its.any (iV x) by simp,wU r fs];exact q
 .obtain⟨its,r,pl,hz⟩:=I.tuple hq;refine SeqAt.in_tupleAt (iV x) pl (fun w hw=>wV rx fx r fs w (by simpa using hw)) ⟨.bl _,H,I,rfl,?_⟩;rw[show its.toArray.any (iV x)=its.any (iV x) by simp,wU r fs];exact q
def Rr:a9 X (compareOp .NotIn) (J9 X.K true):=by
 intro pins s σ H x y v u Q I rx ry h;obtain⟨p,xs,rfl,hq,fx,fs,q⟩:=h;cases ry;rcases hq with hq|hq
 .obtain⟨its,r,pl,hz⟩:=I.list hq;refine SeqAt.notIn_listAt (iV x) pl.isList (fun w hw=>wV rx fx r fs w (by simpa using hw)) ⟨.bl _,H,I,rfl,?_⟩;rw[show its.toArray.any (iV x)=its.any (iV x) by simp,wU r fs];exact q
 .obtain⟨its,r,pl,hz⟩:=I.tuple hq;refine SeqAt.notIn_tupleAt (iV x) pl (fun w hw=>wV rx fx r fs w (by simpa using hw)) ⟨.bl _,H,I,rfl,?_⟩;rw[show its.toArray.any (iV x)=its.any (iV x) by simp,wU r fs];exact q
def Rt:a9 X (compareOp .NotIn) (fun x y H Q=>∃i j,x=.str i/\y=.str j/\Q (.bl (!(!(Builtin.Str.occurrences j i 0 j.length 1).isEmpty))) H):=by
 intro pins s σ H x y v u Q I rx ry h;obtain⟨i,j,rfl,rfl,q⟩:=h;obtain⟨t,rfl⟩:=rx;obtain⟨t',rfl⟩:=ry;exact notIn_str ⟨.bl _,H,I,rfl,q⟩
def Ru:cf X (.builtin "len") (fun xs H Q=>∃p ys,xs=[.ref p]/\(aV X.K H p ys\/bf X.K H p ys)/\Q (.int ys.length) H):=by
 intro pins s σ H xs us Q I r h;obtain⟨p,ys,rfl,hq,q⟩:=h;obtain⟨u,rfl,rx⟩:=Dr r;cases rx;have hn:=rL;rcases hq with hq|hq
 .obtain⟨its,r',pl,hz⟩:=I.list hq;have hlen:=r'.length;exact Calls.call_len_list pl.isList (by simp only[Yq]<;>lia) ⟨.int ys.length,H,I.tok _,⟨s.toks+1,by rw[Yq,hlen]⟩,q⟩
 .obtain⟨its,r',pl,hz⟩:=I.tuple hq;have hlen:=r'.length;exact len_tuple pl (by simp only[Yq]<;>lia) ⟨.int ys.length,H,I.tok _,⟨s.toks+1,by rw[Yq,hlen]⟩,q⟩
def Rv:cf X (.builtin "len") (fun xs H Q=>∃z,xs=[.str z]/\z.length<=sizeLine/\Q (.int z.length) H):=by
 intro pins s σ H xs us Q I r h;obtain⟨z,rfl,hz,q⟩:=h;obtain⟨u,rfl,t,rfl⟩:=Dr r;have hn:=rL;exact len_str (by lia) ⟨.int z.length,H,I.tok _,⟨_,rfl⟩,q⟩
def cf.or(h:cf X f r)(h':cf X f r'):cf X f (fun xs H Q=>r xs H Q\/r' xs H Q):=by
 intro pins s σ H xs us Q I rs q;rcases q with q|q
 .exact h pins s σ H xs us Q I rs q
 .exact h' pins s σ H xs us Q I rs q
def Rw:cf X (.type "list") (fun xs H Q=>∃p ys,xs=[.ref p]/\(aV X.K H p ys\/bf X.K H p ys)/\∀l,H l=none->Q (.ref l) (upd H l (.lst ys))):=by
 intro pins s σ H xs us Q I r h;obtain⟨p,ys,rfl,hq,q⟩:=h;obtain⟨u,rfl,rx⟩:=Dr r;cases rx;have fin:∀(its:List Value),Z3 ys its->ys.length<=sizeLine->∀(h':Heap)(c':Nat),(∀b o',s.heap.get? b=some o'->h'.get? b=some o') ->
   h'.get? s.heap.objs.size=some { cls:=.type "list",dict:=none,data:=.seq its.toArray c',slots:=#[] }->EP X pins σ Q (.ref s.heap.objs.size) { s with heap:=h' }:=fun its r' hz h' c' kp e =>
  ⟨.ref s.heap.objs.size,_,I.laid (t':=s.toks) kp (Yj _) (show dC X.prog X.w _ h' _ (.lst ys)from⟨hz,its,c',r',e⟩),rfl,q _ (I.aG.fresh (Yj _))⟩
 rcases hq with hq|hq
 .obtain⟨its,r',pl,hz⟩:=I.list hq;have hlen:=r'.length;obtain⟨o,ho,hc,n,hd⟩:=pl.isList;exact call_list_seq p (.inl rfl) ho hc hd (fun h' c' kp e=>fin its r' hz h' c' kp e) (by simp only[Yq]<;>lia)
 .obtain⟨its,r',pl,hz⟩:=I.tuple hq;have hlen:=r'.length;obtain⟨o,ho,hc,n,hd⟩:=pl;exact call_list_seq p (.inr rfl) ho hc hd (fun h' c' kp e=>fin its r' hz h' c' kp e) (by simp only[Yq]<;>lia)
def Aj(K:au)(T:String)(x:V)(H:Hp):Prop:=match x with
 | .str _=>T="str"
 | .int _=>T="int"
 | .ref p=>(T="list"/\∃xs,aV K H p xs)\/(T="tuple"/\∃o,K.lookup p=some o/\o.cls=.type "tuple"/\o.dict=none) \/
   (T="dict"/\((∃aq,H p=some (.dK aq))\/∃aq,H p=some (.dT aq)))\/(T="set"/\∃S n,H p=some (.set S n))
 | _=>False
def J_(I:Inv X pins σ H s)(r:aZ x v)(ty:Aj X.K T x H):
  s.TypeIs v T/\∀a,v=.ref a->∃ob,s.heap.get? a=some ob/\ob.dict=none:=by
 cases x with
 | str z =>
  obtain⟨t,rfl⟩:=r;cases(show T="str" from ty);exact⟨typeIs_str s z t,fun _ e=>nomatch e⟩
 | int i =>
  obtain⟨t,rfl⟩:=r;cases(show T="int" from ty);exact⟨typeIs_int s i t,fun _ e=>nomatch e⟩
 | ref p =>
  cases r;rcases ty with⟨rfl,xs,hq⟩|⟨rfl,o,hk,hc,hd⟩|⟨rfl,hk⟩|⟨rfl,S,n,hk⟩
  .obtain⟨its,_,pl,_⟩:=I.list hq;refine⟨pl.isList.typeIs,fun a e=>?_⟩;cases e;obtain⟨o,n,e,c,hd,_⟩:=pl;exact⟨o,e,hd⟩
  .refine⟨⟨o,I.bo p o hk,hc⟩,fun a e=>?_⟩;cases e;exact⟨o,I.bo _ o hk,hd⟩
  .have z:∃o,s.heap.get? p=some o/\o.ExactDict:=by
    rcases hk with⟨aq,hk⟩|⟨aq,hk⟩
    .obtain⟨_,_,_,_,o,_,_,e,ex,_⟩:=I.aG p _ hk;exact⟨o,e,ex⟩
    .obtain⟨_,_,_,_,o,_,_,e,ex,_⟩:=I.aG p _ hk;exact⟨o,e,ex⟩
   obtain⟨o,e,ex⟩:=z;refine⟨⟨o,e,ex.1⟩,fun a e2=>?_⟩;cases e2;exact⟨o,e,ex.2.1⟩
  .obtain⟨o,_,_,_,e,ex,_⟩:=I.aG p _ hk;refine⟨⟨o,e,ex.1⟩,fun a e2=>?_⟩;cases e2;exact⟨o,e,ex.2.1⟩
 | _=>exact False.elim ty
def J'(K:au)(T:String)(r:V->List V->Hp->VK->Prop)(to:TE):TE:=fun σ H Q=>to σ H fun x H1=>Aj K T x H1/\r x [] H1 Q
def Ka(K:au)(T:String)(r:V->List V->Hp->VK->Prop)(to:TE)(t:TA):TE:=fun σ H Q=>to σ H fun x H1=>Aj K T x H1/\t σ H1 fun xs H2=>r x xs H2 Q
variable{T id:String}
def uV(pa:PlainAttrs T)(slot:Slot T name id)(DA:typeOf (.builtin id)=pure (.type "method_descriptor"))(hm:Ah X id r)(ho:PE X o to)(eg:attributeBase o name X.env (eval o X.env)=eval o X.env:=by rfl)(eh:(apos.endLine==aW.line)=true:=by rfl):PE X (.Call (.Attribute o name apos) [] [] aW) (J' X.K T r to):=by
 intro pins s σ H Q I h;refine wpAny_Call_method0_late eg eh (aM (ho pins s σ H _ I h) fun v s1 aL=>?_);obtain⟨x,H1,I1,r1,ty,q1⟩:=aL;obtain⟨h1,h2⟩:=J_ I1 r1 ty;exact⟨T,id,pa,slot,DA,h1,h2,rh rfl (PySem.evalArgs_none (hm pins s1 σ H1 x [] v [] Q I1 r1 .nil q1))⟩
def gF(pa:PlainAttrs T)(slot:Slot T name id)(DA:typeOf (.builtin id)=pure (.type "method_descriptor"))(hm:Ah X id r)(ho:PE X o to)(ha:PA X (e::es) t)(eg:attributeBase o name X.env (eval o X.env)=eval o X.env:=by rfl)(DB:((backTo aW (starEach (e::es) X.env)).all (fun x=>!x.1) && (backToKw aW (keywordEach [] X.env)).all (fun x=>x.1.isSome)
   && decide ((e::es).length+([]:List Keyword).length+(if([]:List Keyword).isEmpty then 0 else 1)<30))=true:=by rfl)(eh:(apos.endLine==aW.line)=true:=by rfl)(hs:starEach (e::es) X.env=(false,eval e X.env)::starEach es X.env:=by rfl)(rV:(backTo aW (starEach es X.env)).any (·.1)=false:=by rfl):
  PE X (.Call (.Attribute o name apos) (e::es) [] aW) (Ka X.K T r to t):=by
 intro pins s σ H Q I h;refine wpAny_Call_method_late eg DB eh rfl (aM (ho pins s σ H _ I h) fun v s1 aL=>?_);obtain⟨x,H1,I1,r1,ty,q1⟩:=aL;obtain⟨h1,h2⟩:=J_ I1 r1 ty;refine⟨T,id,pa,slot,DA,h1,h2,?_⟩;have hA:=ha aW pins s1 σ H1 _ I1 q1;rw[hs]at hA ⊢;refine rh (by show(false||(backTo aW (starEach es X.env)).any (·.1))=false;rw[rV]<;>rfl) (Calls.evalArgs_plain ?_);exact aM hA fun us s2 ⟨vs,H2,I2,r2,q2⟩=>hm pins s2 σ H2 x vs v us Q I2 r1 r2 q2
end
def wW(X:Cx)(id:String)(r:V->List V->Hp->VK->Prop):Prop :=
 ∀(pins:List (Addr×Obj))(s:Shared)(σ:St)(H:Hp)(x:V)(xs:List V)(v:Value)(us:List Value)(Q:VK),Inv X pins σ H s->aZ x v->Z3 xs us->r x xs H Q ->
  wpAny (model X.prog X.w) X.A (call (.builtin id) (v::us)) (EP X pins σ Q) X.xe s
def Z3.one:∀ {x:V} {us:List Value},Z3 [x] us->∃u,us=[u]/\aZ x u
 | _,_,.cons r .nil=>⟨_,rfl,r⟩
def Z3.two:∀ {x y:V} {us:List Value},Z3 [x,y] us->∃u v,us=[u,v]/\aZ x u/\aZ y v:=by
 intro x y us h;cases h with
 | cons r h=>cases h with|cons q h=>cases h;exact⟨_,_,rfl,r,q⟩
def Z3.zero:∀ {us:List Value},Z3 [] us->us=[]
 | _,.nil=>rfl
def Z3.dropLast(h:Z3 xs us):Z3 xs.dropLast us.dropLast:=by
 induction h with
 | nil=>exact .nil
 | cons r t ih =>
  cases t with
  | nil=>exact .nil
  | cons q t'=>exact .cons r ih
def Z3.reverse(h:Z3 xs us):Z3 xs.reverse us.reverse:=by
 induction h with
 | nil=>exact .nil
 | cons r t ih=>rw[zN,zN];exact Z3.append ih (.cons r .nil)
theorem Z3.rep(h:Z3 xs us):∀k:Nat,Z3 (List.replicate k xs).flatten (List.replicate k us).flatten
 | 0=>.nil
 | k+1=>by
  rw[List.replicate_succ,List.replicate_succ,List.flatten_cons,List.flatten_cons]
  exact Z3.append h (Z3.rep h k)
def Rx{α:Type}(l:List α):l.eraseIdx (l.length-1)=l.dropLast:=by
 induction l with
 | nil=>rfl
 | cons a r ih =>
  cases r with
  | nil=>rfl
  | cons b r =>
   have e:(a::b::r).length-1=((b::r).length-1)+1:=by
    have h1:(a::b::r).length=r.length+2:=rfl;have h2:(b::r).length=r.length+1:=rfl;lia
   rw[e,List.eraseIdx_cons_succ,ih];all_goals rfl
theorem Kb(its:List Value):∀(k:Nat)(acc:List Value),
  List.foldl (fun x1 x2=>x1++x2) acc.toArray (List.replicate k its.toArray)=(acc++(List.replicate k its).flatten).toArray
 | 0,acc=>by simp
 | k+1,acc=>by
  have e:acc.toArray++its.toArray=(acc++its).toArray:=by simp
  have e2:(acc++its)++(List.replicate k its).flatten=acc++(List.replicate (k+1) its).flatten:=by
   rw[List.replicate_succ,List.flatten_cons,wq]
  rw[<- e2,<- Kb its k (acc++its),<- e,List.replicate_succ,List.foldl_cons]
section
def Inv.oH{its its':List Value}(I:Inv X pins σ H s)(hH:H l=some (.lst xs))(e:s.heap.get? l=some { cls:=.type "list",data:=.seq its.toArray n })(hf:f its.toArray=its'.toArray)(hv:Z3 ys its')(hz:ys.length<=sizeLine):
  Inv X pins σ (upd H l (.lst ys)) { s with heap:=s.heap.update l (Obj.mapSeq f),toks:=t' }:=by
 have q:=PySem.IsL.update e f;rw[hf]at q;refine I.write (x:=l) (e:=l) (by rw[hH];exact trivial) (.inl rfl) (fun b' u hb hu=>(YC s.heap (Obj.mapSeq f) (Ne.symm hb)).trans hu) ⟨_,q⟩ ?_;exact⟨hz,its',_,hv,q⟩
def Inv.wX(I:Inv X pins σ H s)(hv:Z3 ys its)(hz:ys.length<=sizeLine):
  Inv X pins σ (upd H s.heap.objs.size (.lst ys)) { s with heap:=s.heap.push { cls:=.type "list",data:=.seq its.toArray },toks:=t' } :=
 I.laid (fun _ _ q=>Ye _ q) (Yj _) ⟨hz,its,0,hv,Yl _ rfl⟩
def Inv.fresh(I:Inv X pins σ H s):H s.heap.objs.size=none:=I.aG.fresh (Yj _)
def Inv.ei(I:Inv X pins σ H s)(hH:H l=some (.lst xs)):xs.length<=sizeLine/\∃(its:List Value)(n:Nat),Z3 xs its/\xs.length=its.length/\s.heap.get? l=some { cls:=.type "list",data:=.seq its.toArray n }:=by
 obtain⟨z,its,n,r,e⟩:=I.aG l _ hH;exact⟨z,its,n,r,r.length,e⟩
def DC(h:n<=sizeLine):Builtin.List.listTooLong n=false:=by
 unfold Builtin.List.listTooLong;exact Yu (by lia)
end
section
def Kc:V->List V->Hp->VK->Prop:=fun x vs H Q=>∃l xs y,x=.ref l/\vs=[y]/\H l=some (.lst xs)/\xs.length<sizeLine/\Q .ay (upd H l (.lst (xs++[y])))
def Z4:wW X "list.append" Kc:=by
 intro pins s σ H x vs v us Q I rx rv h;obtain⟨l,xs,y,rfl,rfl,hH,hz,q⟩:=h;cases rx;obtain⟨u,rfl,ru⟩:=rv.one;obtain⟨z,its,n,r,hl,e⟩:=I.ei hH;refine rC F.slot_list_append ⟨_,e,rfl⟩ F.entry_list_append (F.args_list_append_2 _ _) (PySem.list_append l its.toArray n u (by rw[Yq];lia)) ⟨e,?_⟩;refine⟨.ay,_,I.oH (its':=its++[u]) hH e (by simp) (r.append (.cons ru .nil)) ?_,rfl,q⟩;rw[Yt,List.length_singleton];lia
def DD:V->List V->Hp->VK->Prop:=fun x vs H Q=>∃l b xs zs,x=.ref l/\vs=[.ref b]/\H l=some (.lst xs)/\H b=some (.lst zs)/\xs.length+zs.length<=sizeLine/\Q .ay (upd H l (.lst (xs++zs)))
def Ry:wW X "list.extend" DD:=by
 intro pins s σ H x vs v us Q I rx rv h;obtain⟨l,b,xs,zs,rfl,rfl,hH,hB,hz,q⟩:=h;cases rx;obtain⟨u,rfl,ru⟩:=rv.one;cases ru;obtain⟨z,its,n,r,hl,e⟩:=I.ei hH;obtain⟨z2,cY,n2,r2,cZ,e2⟩:=I.ei hB;have hsz:its.toArray.size+cY.toArray.size<=sizeLine:=by rw[Yq,Yq];lia
 have lT:¬(!its.toArray.isEmpty&&Builtin.List.listTooLong (its.toArray.size+cY.toArray.size))=true:=by
  rw[DC hsz,CT];exact Yv
 refine rC IP ⟨_,e,rfl⟩ IE (IC _ _)
  (AutoSeq1.list_extend_list_list_0 l its.toArray n b cY.toArray n2 lT (by rw[Yq];lia) (by lia)) ⟨e,e2,?_⟩
 refine⟨.ay,_,I.oH (its':=its++cY) hH e (by simp) (r.append r2) ?_,rfl,q⟩;rw[Yt];lia
def Ke:V->List V->Hp->VK->Prop:=fun x vs H Q=>∃l xs y,x=.ref l/\vs=[]/\H l=some (.lst xs)/\xs[xs.length-1]? = some y/\Q y (upd H l (.lst xs.dropLast))
def uW:wW X "list.pop" Ke:=by
 intro pins s σ H x vs v us Q I rx rv h;obtain⟨l,xs,y,rfl,rfl,hH,hy,q⟩:=h;cases rx;have Rz:=rv.zero;subst Rz;obtain⟨z,its,n,r,hl,e⟩:=I.ei hH;obtain⟨u,hu,ru⟩:=r.get hy;have fZ:its.toArray[its.toArray.size-1]? = some u:=by
  show its.toArray[its.length-1]? = some u;rw[<- nX,<- hl];exact hu
 refine rC F.slot_list_pop ⟨_,e,rfl⟩ F.entry_list_pop (F.args_list_pop_1 _) (MeetsSeq.list_pop_last l its.toArray n u fZ (by rw[Yq];lia)) ⟨e,?_⟩;refine⟨y,_,I.oH (its':=its.dropLast) hH e ?_ r.dropLast ?_,ru,q⟩
 .show its.toArray.eraseIdxIfInBounds (its.toArray.size-1)=its.dropLast.toArray;rw[Yq,List.eraseIdxIfInBounds_toArray,Rx]
 .rw[List.length_dropLast];lia
def Kf:R2:=fun x y H Q=>∃l k xs,x=.ref l/\y=.int k/\H l=some (.lst xs)/\-(2^63)<=k/\k<2^63/\xs.length*k.toNat<=sizeLine /\
 ∀p,H p=none->Q (.ref p) (upd H p (.lst (List.replicate k.toNat xs).flatten))
def RA{α:Type}(xs:List α)(k:Nat):(List.replicate k xs).flatten.length=k*xs.length:=by
 induction k with
 | zero=>simp
 | succ k ih=>rw[List.replicate_succ,List.flatten_cons,Yt,ih,Nat.succ_mul,Nat.add_comm]
def RB:a9 X (binaryOp .Mult) Kf:=by
 intro pins s σ H x y v u Q I rx ry h;obtain⟨l,k,xs,rfl,rfl,hH,h1,h2,hz,q⟩:=h;cases rx;obtain⟨t,rfl⟩:=ry;obtain⟨z,its,n,r,hl,e⟩:=I.ei hH;have hlen:its.toArray.size*k.toNat<=sizeLine:=by rw[Yq,<- hl];exact hz
 have DF:¬its.toArray.size*k.toNat>(2^63-1) / 8:=by
  have:(sizeLine:Nat)<=(2^63-1) / 8:=by decide
  lia
 have DG:¬(!Builtin.List.listFitsIndex k)=true:=by
  rw[fitsIndex_both h1 h2];exact Yv
 have lT:¬Builtin.List.listTooLong (its.toArray.size*k.toNat)=true:=by
  rw[DC hlen];exact Yv
 have DI:List.foldl (fun x1 x2=>x1++x2) #[] (List.replicate (if its.toArray.isEmpty=true then 0 else k.toNat) its.toArray)=(List.replicate k.toNat its).flatten.toArray:=by
  have f0:∀m:Nat,List.foldl (fun x1 x2=>x1++x2) #[] (List.replicate m its.toArray)=(List.replicate m its).flatten.toArray:=fun m=>by
   have:=Kb its m [];rw[List.nil_append]at this;exact this
  rw[f0];cases its with
  | nil=>simp
  | cons a r'=>rw[if_neg (by simp)]
 refine wpAny_binaryOp_repeat_ref (T:="list") (U:="int") (by decide) ⟨_,e,rfl⟩ (fun s'=>typeIs_int s' k t) noFill_list_mul F.fills_int_mul F.slot_int_rmul repeat_list F.slot_int_index.lookup
  (rC F.slot_int_rmul (typeIs_int s k t) F.entry_int_rmul (F.args_int_rmul_2 _ _) (int___rmul___int_list k t l its.toArray n)
   ⟨e,rfl,⟨_,e,rfl⟩,rC F.slot_list_mul ⟨_,e,rfl⟩ F.entry_list_mul (F.args_list_mul_2 _ _) (AutoListH.list___mul___list_int_3 l its.toArray n k t DG DF lT) ⟨e,?_⟩⟩)
 rw[DI];exact⟨.ref _,_,I.wX (t':=s.toks) (r.rep k.toNat) (by rw[RA,Nat.mul_comm];exact hz),rfl,q _ I.fresh⟩
end
end L2
namespace Att
open PySem PySem.W PySem.Calls PyProof.Rows
def RC:∀(ns:List Int)(vs:List Value),WellAll P h vs (ns.map WData.int)->IntsAre vs ns:=by
 intro ns;induction ns with
 | nil =>
  intro vs w;rw[YaY]at w;cases w;exact .nil
 | cons n ns ih =>
  intro vs w;rw[Yr]at w;cases w with
  | cons a b =>
   cases a;exact .cons _ _ (ih _ b)
def RD{l:OpenLaw}(hn:l.most=some n)(oI:l.row.toRowW.claim.pre args=true)(uX:WellAll P h vals args):
  ∃a vs ns,vals=[Value.ref a]/\args=[WData.list (ns.map WData.int)]/\h.get? a=some { cls:=.type "list",data:=.seq vs.toArray }/\IntsAre vs ns/\ns.length<=n:=by
 have RE:WShape.hasAll [] args [.list .int]=true:=(pre_splitW oI).1;have hc:l.pre.holds [] { args:=args }=true:=(pre_splitW oI).2;obtain⟨d,r,rfl,h1,h2⟩:=hasAllW_cons RE;obtain rfl:=hasAllW_nil h2;obtain⟨xs,rfl,h3⟩:=hasW_list h1;obtain⟨ns,rfl⟩:=items_int h3;have hlen:ns.length<=n:=by
  unfold OpenLaw.pre at hc;have h4:(WTm.not (.lt (.lit (.int (n:Int))) (.len (.arg 0)))).holds [] { args:=[.list (ns.map .int)] }=true:=by
   have h4:=(holds_andW hc).1;rw[hn]at h4;exact h4
  have h5:=condW_of h4 (w_not (w_lt w_lit (w_len_list (w_arg rfl))));rw[Yc]at h5;refine IY fun q=>?_;have q':(n:Int)<((ns.length:Nat):Int):=by lia
  first
   | (rw[YA q']at h5;exact absurd h5 (by decide))
   | (simp at h5;lia)
 cases uX with
 | cons w1 w2 =>
  cases w2;cases w1 with
  | list ho oJ=>exact⟨_,_,ns,rfl,rfl,ho,RC ns _ oJ,hlen⟩
def RF(l:OpenLaw)(args:List WData):l.row.toRowW.claim.post args (.bool true) args=true :=
 postW_of (r:=l.row.toRowW) (X:=(true==true))
  (show WShape.has [] (.bool true) .bool=true by first|rfl|decide|simp[WShape.has,WShape.arms,WShape.armsAll])
  (show(WTm.eq .res (.lit (.bool true))).value [] { args:=args,res:=some (.bool true),after:=args }=some (.bool (true==true))from w_eq_bool (w_res rfl) w_lit) rfl
def gZ{l:OpenLaw}(hn:l.most=some n)(wY:d.params.defaults=[])(call:∀ (w:World) (bA aH:Shared) (mg mb:Str->Option Value) (fa:Addr) (o:Obj) (pm cd doc:Value) (a:Addr) (vs:List Value) (ns:List Int),
   Ground q loose [] XP w bA mg mb aH.heap->YP w aH.heap ->
   aH.heap.get? fa=some o->o.data=.func (docDef d.name d.params d.body d.scope pm cd doc)->aH.heap.CodeRec cd d.name->mg d.name=some (.ref fa) ->
   aH.heap.get? a=some { cls:=.type "list",data:=.seq vs.toArray }->IntsAre vs ns->ns.length<=n->aH.gens=#[] ->
   codeAny (model l.prog w) callerA (.call (.ref fa) ⟨[.ref a],[]⟩) (fun r s'=>r=.ok (.ret (.bool true))/\OldK aH.heap s'.heap/\s'.os=aH.os/\AllBare s'.gens) aH):
  WalkO q loose XP YP l.row.toRowW d [] (fun f vs=>PySem.call f vs):=by
 intro w bA aH mg mb G Y fa o pm cd doc dV kV ho hd gR hD wZ hg args vals as oI RG w6 uX hlo;obtain rfl:dV=.none:=Dflts.none hD wY;obtain rfl:kV=.none:=Dflts.noKw hD;obtain⟨a,vs,ns,rfl,rfl,rW,hints,hlen⟩:=RD hn oI uX;refine enter_call (kI (call w bA aH mg mb fa o pm cd doc a vs ns G Y ho (fd_plain hd) gR wZ rW hints hlen hg) fun r s' hq=>?_);obtain⟨rfl,h2,h3,h4⟩:=hq;exact⟨.inl ⟨.bool true,.bool true,[],rfl,fun _=>rfl,.bool true,RF l _,fun _=>⟨List.Pairwise.nil,fun _ hm=>(nomatch hm)⟩⟩,h2,h3,h4⟩
end Att
namespace L2
open PySem PySem.Spec PyProof.Rows
def Kg:∀ {vs:List Value} {ns:List Int},IntsAre vs ns->Z3 (ns.map V.int) vs
 | _,_,.nil=>.nil
 | _,_,.cons n t h=>.cons ⟨t,rfl⟩ (Kg h)
def Ak(H:Hp):Prop:=∀b,H b=none\/∃o xs,H b=some (.gP o (.lst xs))
def RH{K:au}(KX:K.In aH.heap)(Al:aH.heap.Ns mainGlobals mg)(hb:aH.heap.Ns builtinsNs mb)(RI:∀x:Str,x≠"__name__"->mb x=bootBuiltins x)(DJ:aH.heap.NoLimit)(hg:aH.gens=#[])(ha:aH.heap.get? a=some { cls:=.type "list",data:=.seq vs.toArray })(hi:IntsAre vs ns)(hl:ns.length<=sizeLine)(hr:bV k callerA)(F:∀base:Heap,K.In base->base.Ns mainGlobals mg->cF P w K mg base CX k fa fd [x] sp)(w8:∀(s:Shared)(u:Value),BindsTo s fd ⟨[u],[]⟩ [(x,u)])(iM:∀H:Hp,Ak H->aV K H a (ns.map V.int)->sp [.ref a] H (fun v _=>v=.bl true) fun _ _ _=>False)(DK:∀H e s',CX [] H aH (fun _ _ _=>False) e s'->False):
  codeAny (model P w) callerA (.call (.ref fa) ⟨[.ref a],[]⟩) (fun r s'=>r=.ok (.ret (.bool true))/\OldK aH.heap s'.heap/\s'.os=aH.os/\AllBare s'.gens) aH:=by
 have rv:=Kg hi;have DL:=hi.length;have core : ∀H:Hp,Ak H->aV K H a (ns.map V.int)->cV P w H aH.heap->(∀b,H b≠none->b=a)->(H a≠none->K.lookup a=none) ->
   codeAny (model P w) callerA (.call (.ref fa) ⟨[.ref a],[]⟩) (fun r s'=>r=.ok (.ret (.bool true))/\OldK aH.heap s'.heap/\s'.os=aH.os/\AllBare s'.gens) aH:=by
  intro H hO hS aG hA hK;have jt:∀ {b:Addr} {o:Obj},aH.heap.get? b=some o->H b=none->(n0 aH.heap H).get? b=some o:=fun e n=>Qe e n;have wN:∀ {b:Addr} {o:Obj} {es:Array DictEntry} {ep:Nat},aH.heap.get? b=some o->o.data=.dict es ep->H b=none:=fun {b o es ep} e d=>by
   cases q:H b with
   | none=>rfl
   | some u =>
    have e':b=a:=hA b (by rw[q];simp);subst e';rw[ha]at e;cases e;have d':Data.seq vs.toArray _=Data.dict es ep:=d;cases d'
  have Am:∀ {b:Addr} {m:Str->Option Value},aH.heap.Ns b m->(n0 aH.heap H).Ns b m:=fun {b m} ⟨o,es,ep,e,d,r⟩=>⟨o,es,ep,jt e (wN e d),d,r⟩;have Kh:K.In (n0 aH.heap H):=fun b o e=>jt (KX b o e) (by
   cases q:H b with
   | none=>rfl
   | some u =>
    have e':b=a:=hA b (by rw[q];simp);subst e';rw[hK (by rw[q];simp)]at e;cases e)
  have hM:Mod K mg (n0 aH.heap H):=⟨Kh,Am Al,⟨mb,Am hb,RI⟩,let⟨mc,h1,h2⟩:=DJ;⟨mc,Am h1,h2⟩⟩;have e0:rP P w K mg (n0 aH.heap H) callerA [] aH H:=⟨rfl,hM,fun b o e=>Qf e,CV (Qd _ _),trivial,fun b hb=>absurd (show b∈([]:List Addr)from hb) (by simp),aG,.of_eq hg⟩;refine kI ((F _ Kh (Am Al)).run callerA [] aH H ⟨[.ref a],[]⟩ [.ref a] [.ref a] _ _ hr e0 (w8 aH (.ref a)) (.cons rfl .nil) (iM H hO hS)) fun r s' h=>?_;cases r with
  | error e=>exact(DK H e s' h).elim
  | ok fl =>
   cases fl with
   | next=>exact False.elim h
   | brk=>exact False.elim h
   | cont=>exact False.elim h
   | ret u =>
    obtain⟨v,H',os,bare,un,DM,r',q⟩:=h;have q':v=.bl true:=q;subst q';obtain rfl:u=Value.bool true:=r';refine⟨rfl,OldK.of_keep fun b o e=>?_,os,bare⟩;cases q:H b with
    | none=>exact un.keep b o e q (by intro z;exact absurd (show b∈([]:List Addr)from z) (by simp)) (by simp)
    | some u =>
     rcases hO b with z|⟨ob,xs,z⟩
     .rw[q]at z;cases z
     .have z2:=un.cE b ob _ z;obtain⟨e1,_⟩:=aG b _ z;obtain⟨e2,_⟩:=DM b _ z2;rw[e]at e1;cases e1;exact e2
 cases hk:K.lookup a with
 | some o =>
  have e:=KX a o hk;rw[ha]at e;cases e;refine core (fun _=>none) (fun _=>.inl rfl) (.inr ⟨_,vs.toArray,_,hk,rfl,rfl,rfl,by rw[Yq,DL];exact hl,by simpa using rv⟩) (fun b u z=>by have z':(none:Option HO)=some u:=z;cases z') (fun b z=>absurd rfl z) fun z=>absurd rfl z
 | none =>
  refine core (fun b=>if b=a then some (.gP { cls:=.type "list",data:=.seq vs.toArray } (.lst (ns.map V.int)))else none) (fun b=>?_) (.inl (.inr ⟨{ cls:=.type "list",data:=.seq vs.toArray },if_pos rfl⟩)) (fun b u z=>?_) (fun b z=>?_) fun _=>hk
  .by_cases hb:b=a
   .exact .inr ⟨_,_,if_pos hb⟩
   .exact .inl (if_neg hb)
  .by_cases hb:b=a
   .have z':=(if_pos hb).symm.trans z;cases z';subst hb;exact⟨ha,by rw[Yc];exact hl,vs,_,rv,ha⟩
   .have z':=(if_neg hb).symm.trans z;cases z'
  .by_cases hb:b=a
   .exact hb
   .exact absurd (if_neg hb) z
def oK{l:PySem.W.OpenLaw}{K:Params->au}{CX:World->oA}{sp:World->Sp}(hn:l.most=some n)(jX:n<=sizeLine)(wY:d.params.defaults=[])(hr:bV k callerA)(hY:∀ (w:World) (h:Heap),YP w h->(K w.params).In h)(F : ∀ (w:World) (mg:Str->Option Value) (fa:Addr) (h:Heap),(K w.params).In h->h.Ns mainGlobals mg->mg d.name=some (.ref fa) ->
   ∃fd:FuncData,(∀(s:Shared)(u:Value),BindsTo s fd ⟨[u],[]⟩ [(x,u)]) /\
    ∀base:Heap,(K w.params).In base->base.Ns mainGlobals mg->cF l.prog w (K w.params) mg base (CX w) k fa fd [x] (sp w))(iM:∀(w:World)(H:Hp)(a:Addr)(ns:List Int),ns.length<=n->Ak H->aV (K w.params) H a (ns.map V.int)->sp w [.ref a] H (fun v _=>v=.bl true) fun _ _ _=>False)(DK:∀(w:World)(H:Hp)(s:Shared)(e:Value)(s':Shared),CX w [] H s (fun _ _ _=>False) e s'->False):
  PySem.W.WalkO q loose XP YP l.row.toRowW d [] (fun f vs=>PySem.call f vs):=by
 refine Att.gZ hn wY fun w bA aH mg mb fa o pm cd doc a vs ns G Y ho hd gR wZ rW hints hlen hg=>?_;have KX:=hY w _ Y;obtain⟨fd,hb,hF⟩:=F w mg fa _ KX G.T.g wZ;exact RH KX G.T.g G.T.b G.T.builtins G.T.nolimit hg rW hints (YE hlen jX) hr hF hb (fun H hO hS=>iM w H a ns hlen hO hS) fun H e s'=>DK w H aH e s'
def ZG(s:Stmt)(j:Nat):Stmt:=match s with
 | .ClassDef _ _ _ body _ _ _ _ _ _ _=>body.getD j (.Pass ⟨0,0,0,0⟩)
 | _=>.Pass ⟨0,0,0,0⟩
def An(s:Stmt):Arguments:=match s with
 | .FunctionDef _ a _ _ _ _ _ _ _ _=>a
 | _=>{ posonlyargs:=[],args:=[],vararg:=none,kwonlyargs:=[],kw_defaults:=[],kwarg:=none,defaults:=[] }
def kP(s:Stmt):List Stmt:=match s with
 | .FunctionDef _ _ b _ _ _ _ _ _ _=>b
 | _=>[]
def ZQ(s:Stmt):Scope:=match s with
 | .FunctionDef _ _ _ _ _ _ sc _ _ _=>sc
 | _=>{ kind:=.function,names:=[],isGenerator:=false,isCoroutine:=false }
abbrev aQ:oA:=fun _ _ _ _ _ _=>False
abbrev E0:XK:=fun _ _ _=>False
def g8:rQ aQ X E0:=fun _ _ _ _ _ _ _ h=>h.elim
structure iW (K:au) (x qual:Str) (st:Stmt) (f:Addr) (fd:FuncData):Prop where
 ex : ∃(oc:Value)(od:Option Addr)(kV doc pm:Value)(an:Option Addr)(bg ct:Value)(oC:Array (Option Value)),
  fd=PySem.W.fnOf x qual (An st) (kP st) (ZQ st) .none kV doc pm an bg ct/\K.lookup f=some ⟨oc,od,.func fd,oC⟩/\PySem.W.codeIn K bg qual=true
 kp:PySem.W.keepIn K (.ref f)=true
section
variable{K:au}
def iW.ok{st:Stmt}(F:iW K x qual st f fd)(S:gW N ps (ZQ st))(len:∀ vs H Q E,sp vs H Q E->vs.length=ps.length)(cW:∀ (bg:Value) (A:Around) (outer:List Env) (s:Shared) (H:Hp) (vs:List V) (Q:VK) (E:XK),bV k (A.deeper (envOfC qual (ZQ st) s.heap.objs.size f bg))->sp vs H Q E ->
   ∃t,dW (fo aQ P w K mg base N qual (ZQ st) f bg A outer s H E).nc (kP st) t/\t { nx:=fun _ H'=>Q .ay H',rt:=Q } (start N vs) H):cF P w K mg base aQ (k+1) f fd ps sp:=by
 obtain⟨oc,od,kV,doc,pm,an,bg,ct,oC,rfl,lk,gR⟩:=F.ex;refine JV lk gR S len fun A outer s H vs Q E hr iM=>?_;obtain⟨t,h,q⟩:=cW bg A outer s H vs Q E hr iM;exact⟨t,h.nc,q⟩
def RJ{st:Stmt}{kV doc pm bg ct:Value}(l:K.lookup f=some ⟨oc,od,.func (PySem.W.fnOf x qual (An st) (kP st) (ZQ st) .none kV doc pm an bg ct),oC⟩)(c:PySem.W.codeIn K bg qual=true)(k:PySem.W.keepIn K (.ref f)=true):iW K x qual st f (PySem.W.fnOf x qual (An st) (kP st) (ZQ st) .none kV doc pm an bg ct):=⟨⟨oc,od,kV,doc,pm,an,bg,ct,oC,rfl,l,c⟩,k⟩
end
section
def pv(i:Nat)(hN:X.N[i]? = some x:=by rfl)(hv:zZ X.env.scope x:=by first|exact Or.inl rfl|exact Or.inr (Or.inl rfl)|exact Or.inr (Or.inr rfl))(hd:(x==("__debug__":Str))=false:=by decide)(gR:(x==("__classdict__":Str))=false:=by decide):PE X (.Name x pos) (m_ i):=Qi hN hv hd gR
end
def ba(H H':Hp):Prop:=∀b o,H b=some o->H' b=some o
def ba.refl(H:Hp):ba H H:=fun _ _ h=>h
open PySem PySem.W
def w9(tb:String->Option Builtin)(p:Program)(w:World)(lU:Nat)(ann:Option Value):Nat->SharedT->Thread->Option SharedT
 | 0,_,_=>none
 | n+1, s,t=>match through t with
  | true=>some s
  | false=>match stepOk lU ann t with
   | false=>none
   | true=>match stepT (denote tb) p w s t with
    | some (s',t')=>w9 tb p w lU ann n s' t'
    | none=>none
def Ki:∀ {n:Nat} {s s':SharedT} {t:Thread},w9 tb p w lU ann n s t=some s'->topRun tb p w lU ann n s.abs t=some s'.abs
 | 0,_,_,_,h=>by cases h
 | n+1, s,s',t,h=>by
  unfold w9 at h
  unfold topRun
  cases ht:through t with
  | true=>rw[ht]at h;cases h;rfl
  | false =>
   rw[ht]at h
   cases hk:stepOk lU ann t with
   | false=>rw[hk]at h;cases h
   | true =>
    rw[hk]at h
    cases hs:stepT (denote tb) p w s t with
    | none=>rw[hs]at h;cases h
    | some r=>obtain⟨fk,RK⟩:=r;rw[hs]at h;rw[stepT_spec hs];exact Ki h
def rX(x:Option (BT×Nat))(o:Obj):Option (BT×Nat):=match x with
 | none=>none
 | some (t,n)=>match ((t.ins n o).get n).isSome with
  | true=>some (t.ins n o,n+1)
  | false=>none
def DN(l:List Obj):Option (BT×Nat):=l.foldl rX (some (.nil,0))
def Kj:∀l:List Obj,l.foldl rX none=none
 | []=>rfl
 | o::l=>Kj l
def Kk:∀(l pre:List Obj)(t:BT)(n:Nat)(T:BT)(m:Nat)(life:Life),n=pre.length->absHeap t n life=⟨pre.toArray,life⟩->l.foldl rX (some (t,n))=some (T,m)->m=(pre++l).length/\absHeap T m life=⟨(pre++l).toArray,life⟩
 | [],pre,t,n,T,m,life,hn,h,e=>by
  cases e
  rw[YW]
  exact⟨hn,h⟩
 | o :: l,pre,t,n,T,m,life,hn,h,e=>by
  rw[List.foldl_cons]at e
  cases hs:((t.ins n o).get n).isSome with
  | false =>
   have:rX (some (t,n)) o=none:=by unfold rX;simp only[hs]
   rw[this,Kj]at e;cases e
  | true =>
   have hp:rX (some (t,n)) o=some (t.ins n o,n+1):=by unfold rX;simp only[hs]
   rw[hp]at e
   have:=Kk l (pre++[o]) (t.ins n o) (n+1) T m life (by rw[Yt,hn];rfl) (by
    rw[absHeap_ins hs,h]
    show Heap.mk _ _=Heap.mk _ _
    simp) e
   rw[wq]at this
   exact this
def RL(h:DN l=some (T,m)):m=l.length/\absHeap T m life=⟨l.toArray,life⟩:=by
 have:=Kk l [] .nil 0 T m life rfl rfl h;simpa using this
def Ao{β:Type}:List Obj->(List Obj->β)->β
 | [],k=>k []
 | ⟨a,b,c,d⟩::l,k=>Ao l fun l'=>k (⟨a,b,c,d⟩::l')
def Kl:∀(l:List Obj)(k:List Obj->β),Ao l k=k l
 | [],k=>rfl
 | ⟨a,b,c,d⟩::l,k=>by rw[Ao,Kl l]
def Zlg{β:Type}(p:Program)(w:World)(os:OsState)(m:Nat)(ann:Option Value)(M:Nat)(k:Shared->β):Option β :=
 match DN (boot_heap w.params).objs.toList with
 | none=>none
 | some (T,n)=>match w9 treeTable p w m ann M ⟨T,n,(boot_heap w.params).life,#[],boot_drawn,boot_toks,os⟩ (topStub p)with
  | none=>none
  | some s=>some (Ao (s.tree.list s.n) fun l=>k ⟨⟨l.toArray,s.life⟩,s.gens,s.drawn,s.toks,s.os⟩)
def RM{os:OsState}{r:β}(h:Zlg p w os m ann M k=some r):∃s,topRun treeTable p w m ann M ⟨boot_heap w.params,#[],boot_drawn,boot_toks,os⟩ (topStub p)=some s/\k s=r:=by
 unfold Zlg at h;cases hb:DN (boot_heap w.params).objs.toList with
 | none=>rw[hb]at h;cases h
 | some x =>
  obtain⟨T,n⟩:=x;rw[hb]at h;obtain⟨hn,ha⟩:=RL (life:=(boot_heap w.params).life) hb;have ha:absHeap T n (boot_heap w.params).life=boot_heap w.params:=by rw[ha]
  simp only at h;cases ht:w9 treeTable p w m ann M ⟨T,n,(boot_heap w.params).life,#[],boot_drawn,boot_toks,os⟩ (topStub p)with
  | none=>rw[ht]at h;cases h
  | some s =>
   rw[ht]at h;simp only[Kl,Option.some.injEq]at h;have:=Ki ht;rw[show(SharedT.mk T n (boot_heap w.params).life #[] boot_drawn boot_toks os).abs=⟨boot_heap w.params,#[],boot_drawn,boot_toks,os⟩from by unfold SharedT.abs;simp only;rw[ha]]at this;exact⟨s.abs,this,h⟩
def Zg1{Ya:World->α}(e:opening p=plainProg p.main.scope.names)(hN:Nat.ble 600 N=true)(f:∀s,fenceModules? p s=some s)(size:∀w:World,((boot_heap w.params).isNs mainGlobals,(boot_heap w.params).objs.size,(boot_heap w.params).nsMap mainGlobals "__annotations__")=(true,m,ann))(run:∀(w:World)(os:OsState),Zlg p w os m ann N (fun s=>(staticsOk (importedModules p.main.body) (boot_heap w.params) s.heap&&namesBound p s.heap&&gensDone s&&laidKept (boot_heap w.params) s.heap,openSeen q loose (importedModules p.main.body) Xt g0 s,Yf s))=some (true,openGood q loose,Ya w)):
  LeftO p q loose Xt Yf Ya N g0:=fun w=>by
 obtain⟨⟨h,gs,d,k,os⟩,eo,e'⟩:=YO.mp (boot_open e hN f w)
 obtain⟨rfl,rfl,rfl,rfl⟩:h=boot_heap w.params/\gs=#[]/\d=boot_drawn/\k=boot_toks:=by simpa using e'
 obtain⟨z1,z2,z3⟩:_/\_/\_:=by simpa only[Prod.mk.injEq]using size w
 obtain⟨s,r,l⟩:=RM (run w os)
 obtain⟨l1,l2,l3⟩:_/\_/\_:=by simpa only[Prod.mk.injEq]using l
 have t:topFrom treeTable p w N ⟨boot_heap w.params,#[],boot_drawn,boot_toks,os⟩=some s:=by
  unfold topFrom;dsimp only;rw[z1,z2,z3,r];show(match staticsOk (importedModules p.main.body) (boot_heap w.params) s.heap&&namesBound p s.heap&&gensDone s&&laidKept (boot_heap w.params) s.heap with|true=>_|false=>_)=_;rw[l1]
 unfold openEnds;rw[eo];show(topFrom treeTable p w N _).map _=_;rw[t];exact congrArg some (Prod.ext l2 l3)
def ZE(P:Params)(x:Str)(t:Nat)(v:Value):DictEntry:=⟨PyData.keyHash P x,.str x t,v⟩
def hNs(n:Nat)(es:List DictEntry):Obj:=⟨.type "dict",none,.dict es.toArray n,#[]⟩
def Km:Option Nat->Value
 | some a=>.ref a
 | none=>.none
def Kn(x q:Str)(t ln ac fl a b:Nat)(d e:Option Nat)(f m n:Nat):Obj :=
 ⟨.type "code",none,.fields #[.str x t,.str q (t+1),.str "/claim/cut.py" (t+2),.int ln 0,.int ac 0,.int 0 0,.int 0 0,.int fl 0,.ref a,.bool true,.int 181 0,.ref b,.none,Km d,Km e,.ref f,.int m 0,.int ln 0,.str "/claim/cut.py" n],#[]⟩
def hBoot(w:World):Bool×Nat×Option Value:=((boot_heap w.params).isNs mainGlobals,(boot_heap w.params).objs.size,(boot_heap w.params).nsMap mainGlobals "__annotations__")
end L2
set_option maxHeartbeats 4000000
namespace L2
open PySem PySem.Spec PyProof.Rows
def RN(I:Nat->Shared->Prop)(turn : ∀ n s,I n s->wpAny (model prog w) A (pyNext it) (fun r aH=>match r with
   | none=>R (.ok .next) aH
   | some v => wpAny (model prog w) A (letOwnedTupleGo target it v) (fun _ g9=>wpAny (model prog w) A (assign target env v) (fun _ fk =>
     wpAny (model prog w) A (forIn ifs true fun c r=>if r=true then do let ok <- isTrue c env (eval c env);pure (ForInStep.yield ok)else pure (ForInStep.yield r)) (fun ok iX =>
      if ok=true then wpAny (model prog w) A (eval elt env) (fun x lW =>
       wpAny (model prog w) A (call (.builtin "list.append") [acc,x]) (fun _ lX=>∃m,m<n/\I m lX) (fun _ _=>False) lW) (fun _ _=>False) iX
      else ∃m,m<n/\I m iX) (fun _ _=>False) fk) (fun _ _=>False) g9) (fun _ _=>False) aH) (fun _ _=>False) s)(n:Nat)(h:I n s):
  codeAny (model prog w) A (.compLoop (.ListComp elt [⟨target,iter,ifs,0⟩] scope pos) 0 it acc env) R s:=by
 refine codeAny_loop rfl I (fun n s hI=>?_) n h;show wpAny _ A ((compTurn (.ListComp elt [⟨target,iter,ifs,0⟩] scope pos) 0 it acc env).onRaise (fun x=>do noteFrame x env;theTreesLotGoes x)) _ _ s;refine wpAny_noted ?_;rw[compTurn_list];refine Yb (nY (Yb (YH (turn n s hI) (fun r aH bq=>?_) fun _ _ h'=>h'.elim)));cases r with
 | none=>exact Yd bq
 | some v =>
  refine Yb (YH bq (fun _ g9 lY=>Yb (YH lY (fun _ fk rY=>Yb (YH rY (fun ok iX lZ=>?_) fun _ _ h'=>h'.elim)) fun _ _ h'=>h'.elim)) fun _ _ h'=>h'.elim);cases ok with
  | false=>exact Yd ⟨rfl,lZ⟩
  | true =>
   exact Yb (Yb (YH lZ (fun x lW rZ=>Yb (YH rZ (fun _ lX r8=>Yd (Yd ⟨rfl,r8⟩)) fun _ _ h'=>h'.elim)) fun _ _ h'=>h'.elim))
def Cx.comp(X:Cx)(scope:Scope)(cl:List (Str×Addr))(N:List Str)(pins:List (Addr×Obj))(s:Shared)(H:Hp)(fp:List Addr):Cx where
 prog:=X.prog
 w := X.w
 K := X.K
 mg:=X.mg
 base:=X.base
 A := X.A
 N := N
 bA:=s
 iR:=H
 env:=compEnvC scope cl s.heap.objs.size X.env
 outer:=X.stack
 stack:=X.stack
 ex:=fp
 fn:=fun _=>false
 calm:=X.calm
 pn:=X.pn++pins
 xe:=fun _ _=>False
def l_(nt:Nat)(bE:List (Str×Nat))(σ:St):St:=List.replicate nt none++bE.map fun p=>(σ[p.2]?).join
structure Z8 (X:Cx) (scope:Scope) (cl:List (Str×Addr)) (ts:List Str) (bE:List (Str×Nat)):Prop where
 w_:closureFor scope X.env=pure cl
 kind:scope.kind=.function
 ma:∀y∈scope.names,y.2≠.cell
 names:∀y∈scope.names,y.2=.local->scope.names.lookup y.1=some .local
 sub:∀p∈cl,X.env.cells.lookup p.1=some p.2
 has:∀p∈(relabel scope X.env).names,p.2=.cell\/p.2=.free->(cl.lookup p.1).isSome=true
 out:∀p∈bE,X.N[p.2]? = some p.1/\(X.env.kindOf p.1=some .cell\/X.env.kindOf p.1=some .free)/\((relabel scope X.env).names.lookup p.1=some .cell\/(relabel scope X.env).names.lookup p.1=some .free)/\(cl.lookup p.1).isSome=true
section
def Z8.g_(S:Z8 X scope cl ts frs')(h:cl.lookup x=some c):X.env.cells.lookup x=some c:=S.sub (x,c) (pY h)
def Z8.inv(S:Z8 X scope cl ts frs')(I:Inv X pins σ H s)(hf:∀b∈fp,gD X pins H b)(bD:∀b∈fp,b<s.heap.objs.size)(Al:bq.Ns s.heap.objs.size m)(hk:∀b o,s.heap.get? b=some o->bq.get? b=some o):Inv (X.comp scope cl (ts++frs'.map (·.1)) pins s H fp) [] (l_ ts.length frs' σ) H { s with heap:=bq,toks:=tk }:=by
 have hC:∀b o,s.heap.get? b=some o->b≠s.heap.objs.size:=fun b o e=>Yn (Ym e);have jl:∀x c,cl.lookup x=some c->∃v,bq.IsCell c v:=fun x c e=>by
  obtain⟨v,o,ho,hd⟩:=I.cell x c (S.g_ e);exact⟨v,o,hk c o ho,hd⟩
 refine⟨⟨I.ok.mod,?_,I.ok.glob,I.ok.blt,Yj _,fun x y c h1 h2=>I.ok.inj x y c (S.g_ h1) (S.g_ h2),fun x hx=>?_,fun x c z=>(by cases z),I.ok.hd,I.ok.frames,.inl rfl,fun b hb=>⟨Yn (bD b hb),fun x c e=>?_⟩,I.bs,YE I.ok.n6 I.sz,fun b o e hb=>?_,fun b hb z=>?_,I.stack,I.fU⟩,
  rfl,I.bare,Un.kept hk,⟨m,Al,fun i x v h1 h2 h3=>?_⟩,jl,I.aG.fresh (Yj _),fun x c e=>I.bw x c (S.g_ e),fun p hp=>?_,I.aG.kept hk,?_⟩
 .exact S.kind
 .have r9:(relabel scope X.env).names.lookup x=some .cell\/(relabel scope X.env).names.lookup x=some .free:=hx;have:(cl.lookup x).isSome=true:=by
   rcases r9 with e|e
   .exact S.has (x,.cell) (pY e) (.inl rfl)
   .exact S.has (x,.free) (pY e) (.inr rfl)
  exact zF.mp this
 .exact(hf b hb).2.2.2.2.1 x c (S.g_ e)
 .obtain⟨_,_,_,h4,_⟩:=hf b hb;rcases h4 with h4|h4
  .exact I.ok.lH b o e h4
  .exact absurd (YJ (Ym e) (YE I.ok.n6 h4)) (uJ _)
 .obtain⟨_,h2,h3,_⟩:=hf b hb;rcases Yo.mp (I.dk b z)with e|e
  .exact h2 e
  .exact h3 e
 .have hi : ts.length<=i:=by
   by_cases hi:ts.length<=i
   .exact hi
   .have:(l_ ts.length frs' σ)[i]? = some none:=by
     unfold l_;rw[YU (by simp;lia),Iq,if_pos (by lia)]
    rw[this]at h2;cases h2
  obtain⟨p,hp,e1,e2⟩:∃p∈frs',p.1=x/\(σ[p.2]?).join=some v:=by
   have r_:(ts++frs'.map (·.1))[i]? = some x:=h1;have Ap:(l_ ts.length frs' σ)[i]? = some (some v):=h2;unfold l_ at Ap;rw[YQ hi,Yi]at r_;rw[YQ (by simpa using hi),Yi,Iz]at Ap;cases e:frs'[i-ts.length]? with
   | none=>rw[e]at r_;cases r_
   | some p =>
    rw[e]at r_ Ap;exact⟨p,Yk e,YD r_,YD Ap⟩
  obtain⟨o1,o2,o3,o4⟩:=S.out p hp;rw[e1]at o1 o2 o3 o4;have e3:σ[p.2]? = some (some v):=by
   cases e:σ[p.2]? with
   | none=>rw[e]at e2;cases e2
   | some q=>rw[e]at e2;exact congrArg some e2
  obtain⟨m',_,hl⟩:=I.loc;have hv:zZ X.env.scope x:=by
   rcases o2 with o2|o2
   .exact .inr (.inl o2)
   .exact .inr (.inr o2)
  obtain⟨u,r,l⟩:=hl p.2 x v o1 e3 hv;refine⟨u,r,.inr ⟨o3,?_⟩⟩;obtain⟨c,hc⟩:=zF.mp o4;rcases l with⟨k,_⟩|⟨_,c',e,ob,ho,hd⟩
  .rcases o2 with o2|o2<;>(rw[o2]at k;cases k)
  .have:c'=c:=by have:=S.g_ hc;rw[this]at e;exact(YD e).symm
   subst this;exact⟨c',hc,ob,hk c' ob ho,hd⟩
 .have j3:p∈X.pn++pins:=by
   have:p∈(X.pn++pins)++[]:=hp;rwa [YW]at this
  obtain⟨e,n,ne,nf,d⟩:=I.pin p j3;refine⟨hk _ _ e,n,hC _ _ e,fun z=>?_,d⟩;rcases Yo.mp (I.dk _ z)with e'|e'
  .exact ne e'
  .exact nf e'
 .show(l_ ts.length frs' σ).length=(ts++frs'.map (·.1)).length;unfold l_;simp
def Z8.after(I:Inv X pins σ H s)(hf:∀b∈fp,gD X pins H b)(J:Inv (X.comp scope cl N pins s H fp) [] aU H' s')(hs:Heap.SameBut s.heap.objs.size s'.heap h'):
  Inv X pins σ H' { s' with heap:=h' }:=by
 have hC:∀b o,s.heap.get? b=some o->b≠s.heap.objs.size:=fun b o e=>Yn (Ym e);have fr:H' s.heap.objs.size=none:=J.free;refine I.jk (s':={ s' with heap:=h' }) (ch:=fp) J.os ?_ ?_ J.bare fun b hb=>?_
 .have u:=J.base;exact⟨fun b o e n h1 h2=>(hs.2 b (hC b o e)).trans (u.keep b o e n h1 h2),fun b o e n h1 h2=>by
    obtain⟨sl,q⟩:=u.slot b o e n h1 h2;exact⟨sl,(hs.2 b (hC b o e)).trans q⟩,u.free,fun b o e h2=>by
    obtain⟨o',q⟩:=u.there b o e h2;exact⟨o',(hs.2 b (hC b o e)).trans q⟩,u.bK,u.cE,u.dG⟩
 .intro b ob e;refine(J.aG b ob e).dF (fun c w' hc q=>(hs.2 c ?_).trans q) (fun _ q=>q) fun _ _ q=>q;rintro rfl;rcases hc with hc|hc
  .rw[<- hc,fr]at e;cases e
  .rw[fr]at hc;cases hc
 .obtain⟨h1,h2,h3,h4,h5,h6⟩:=hf b hb;exact⟨h4,h2,h5,h6⟩
end
def ql(X:Cx)(ifs:List Expr)(t:TT):Prop :=
 ∀(pins:List (Addr×Obj))(s:Shared)(σ:St)(H:Hp)(Q:Bool->Hp->Prop),Inv X pins σ H s->t σ H Q ->
  wpAny (model X.prog X.w) X.A (forIn ifs true fun c r=>if r=true then do let ok <- isTrue c X.env (eval c X.env);pure (ForInStep.yield ok)else pure (ForInStep.yield r)) (TP X pins σ Q) X.xe s
def Ko:TT:=fun _ H Q=>Q true H
def kQ:ql X [] Ko:=fun _ _ _ H _ I h=>wpAny_tests_nil ⟨H,I,h⟩
def uY(h:PT X c t):ql X [c] t:=fun pins s σ H Q I q=>wpAny_tests_one (h pins s σ H Q I q)
def Aq(nt:Nat)(bE:List (Str×Nat))(wi:TI)(g:TG)(tt:TT)(te:TE):TE:=fun σ H Q=>wi σ H fun J H1=>∀l,H1 l=none->∃W:Nat->Nat->St->Hp->Prop,(∃m,W 0 m (l_ nt bE σ) (upd H1 l (.lst []))) /\
 ∀i m τ H,W i m τ H->(J.stop i H/\Q (.ref l) H)\/(J.go i H/\∀x H',J.rJ i H x H'->g x τ H' fun aS H2=>tt aS H2 fun ok H3 =>
  if ok=true then te aS H3 fun y H4=>∃ys,H4 l=some (.lst ys)/\ys.length<sizeLine/\∃m',m'<m/\W (i+1) m' aS (upd H4 l (.lst (ys++[y])))else ∃m',m'<m/\W (i+1) m' aS H3)
open PySem PySem.Spec PyProof.Rows PySem.Builtin.Str
def uZ(z:Str)(lo hi:Option Int):Str:=⟨((z.cps.toList.drop (HT.aO z.cps.toList.length 0 lo)).take (HT.aO z.cps.toList.length z.cps.toList.length hi-HT.aO z.cps.toList.length 0 lo)).toArray⟩
def Ar(v:Int)(n d:Nat):max 0 (min (if v<0 then v+(n:Int)else v) (n:Int))=((HT.aO n d (some v):Nat):Int):=by
 rw[<- HT.fX v n d];split<;>lia
def RP(lo hi:Option Int)(n:Nat):strSliceIndices lo hi 1 n=(List.range (HT.aO n n hi-HT.aO n 0 lo)).map fun k=>HT.aO n 0 lo+k:=by
 have h1:∀(a b:Nat),sliceRange (a:Int) (b:Int) 1=(List.range (b-a)).map fun k=>a+k:=by
  intro a b;unfold sliceRange;simp only[show(1:Int)>0 by decide,if_true];have e:(if(a:Int)<(b:Int)then((b:Int)-(a:Int)+1-1) / 1 else 0).toNat=b-a:=by
   rw[Int.ediv_one];split<;>lia
  rw[e];refine IF fun k _=>?_;lia
 unfold strSliceIndices;simp only[show(1:Int)>0 by decide,if_true];cases lo with
 | none =>
  cases hi with
  | none=>exact h1 0 n
  | some v =>
   dsimp only;rw[Ar v n n];exact h1 0 _
 | some u =>
  cases hi with
  | none =>
   dsimp only;rw[Ar u n 0];exact h1 _ n
  | some v =>
   dsimp only;rw[Ar u n 0,Ar v n n];exact h1 _ _
def RQ(l:List Nat)(a k:Nat)(h:a+k<=l.length):((List.range k).map fun i=>a+i).filterMap (fun i=>l[i]?)=(l.drop a).take k:=by
 induction k generalizing a with
 | zero=>simp
 | succ k ih =>
  rw[List.range_succ_eq_map,Yr,List.filterMap_cons];have ha:a<l.length:=by lia
  simp only[Nat.add_zero];rw[Yg ha];dsimp only;rw[List.drop_eq_getElem_cons ha,List.take_succ_cons];congr 1;rw[jS,<- ih (a+1) (by lia)];congr 1;refine IF fun i _=>?_;show a+(i+1)=a+1+i;lia
def RR(x:Str)(lo hi:Option Int):Txt.slice x lo hi=uZ x lo hi:=by
 unfold Txt.slice uZ;have hn:x.length=x.cps.toList.length:=by show x.cps.size=_;simp
 have ha:=HT.iT x.cps.toList.length 0 (Y0 _) lo;have hb:=HT.iT x.cps.toList.length x.cps.toList.length (Yj _) hi;rw[hn,RP];generalize HT.aO x.cps.toList.length 0 lo=a at ha ⊢;generalize HT.aO x.cps.toList.length x.cps.toList.length hi=b at hb ⊢;have hp:=RQ x.cps.toList a (b-a);split
 .rename_i h;simp only[Yc,uF,Y8,beq_iff_eq]at h;have h2:b-a=x.cps.toList.length:=h.2;by_cases h0:x.cps.toList.length=0
  .have:x.cps=#[]:=by
    apply Array.eq_empty_of_size_eq_zero;simpa using h0
   cases x;simp_all
  .have ea:a=0:=by lia
   subst ea;rw[zT,nV (by lia)]
 .congr 1;by_cases sd:a<=b
  .rw[<- hp (by lia)];congr 1;simp only[nX]
  .have:b-a=0:=by lia
   rw[this];simp
section
def RS:V->Option Int->Option Int->Hp->VK->Prop:=fun x lo hi H Q=>∃z,x=.str z/\z.length<=sizeLine/\Q (.str (uZ z lo hi)) H
def RT:uU X RS:=by
 intro pins s σ H x v vl vu lo hi sl Q I rx hs pl pu h;obtain⟨z,rfl,hz,q⟩:=h;obtain⟨t,rfl⟩:=rx;rw[<- RR]at q;refine⟨"str",_,F.slot_str_getitem.lookup,typeIs_str _ _ _,?_⟩;obtain⟨o,ho,hc,hd⟩:=hs;have key:∀(l u:Option (Int×Tok)),vl=partValue l->vu=partValue u->lo=l.map (·.1)->hi=u.map (·.1)->wpAny (model X.prog X.w) X.A (getItem (.str z t) (.ref sl)) (EP X pins σ Q) X.xe s:=by
  intro l u e1 e2 e3 e4;subst e1 e2 e3 e4;exact wpAny_getItem_str_slice (l:=l) (u:=u) (st:=none) ⟨o,ho,hc,hd⟩ rfl (post_val_or_str ⟨YE (Txt.slice_le z _ _) hz,fun t' k=>⟨.str _,H,I.tok k,⟨_,rfl⟩,q⟩⟩)
 cases pl with
 | none =>
  cases pu with
  | none=>exact key none none rfl rfl rfl rfl
  | int j u=>exact key none (some (j,u)) rfl rfl rfl rfl
 | int i t =>
  cases pu with
  | none=>exact key (some (i,t)) none rfl rfl rfl rfl
  | int j u=>exact key (some (i,t)) (some (j,u)) rfl rfl rfl rfl
end
def Sq(K:au)(H:Hp)(a:Addr)(xs:List V):Prop:=aV K H a xs\/bf K H a xs
def u0(y x:Str):Bool:=!(occurrences y x 0 y.length 1).isEmpty
def DO:R2:=fun x y H Q=>match x,y with
 | .int i,.int j=>Q (.int (i-j)) H
 | _,_=>False
def DP:R2:=fun x y H Q=>match x,y with
 | .int i,.int j=>Dj i j/\Q (.int (i / j)) H
 | _,_=>False
def DS:R2:=fun x y H Q=>match x,y with
 | .int i,.int j=>0<j/\Q (.int (i % j)) H
 | _,_=>False
def DT:R2:=fun x y H Q=>match x,y with
 | .int i,.int j=>Dk i j/\Q (.int (i^j.toNat)) H
 | _,_=>False
def DV:R2:=fun x y H Q=>match x,y with
 | .int i,.int j=>Q (.bl (decide (i<j))) H
 | .str i,.str j=>Q (.bl (decide (i.cps.toList<j.cps.toList))) H
 | _,_=>False
def DW:R2:=fun x y H Q=>match x,y with
 | .int i,.int j=>Q (.bl (decide (j<i))) H
 | _,_=>False
def DX:R2:=fun x y H Q=>match x,y with
 | .int i,.int j=>Q (.bl (decide (i=j))) H
 | .str i,.str j=>Q (.bl (decide (i=j))) H
 | .bl i,.bl j=>Q (.bl (decide (i=j))) H
 | .ay,.ay=>Q (.bl true) H
 | .ay,.str _=>Q (.bl false) H
 | .str _,.ay=>Q (.bl false) H
 | _,_=>False
def DY:R2:=fun x y H Q=>match x,y with
 | .int i,.int j=>Q (.bl (!decide (i=j))) H
 | .str i,.str j=>Q (.bl (!decide (i=j))) H
 | .bl i,.bl j=>Q (.bl (!decide (i=j))) H
 | .ay,.ay=>Q (.bl false) H
 | .ay,.str _=>Q (.bl true) H
 | .str _,.ay=>Q (.bl true) H
 | _,_=>False
def u3(K:au):R2:=fun x y H Q=>match x,y with
 | .str i,.str j=>Q (.bl (u0 j i)) H
 | x,.ref p=>∃xs,Sq K H p xs/\fG x=true/\xs.all fG=true/\Q (.bl (ng x xs)) H
 | _,_=>False
def xa(K:au):R2:=fun x y H Q=>match x,y with
 | .str i,.str j=>Q (.bl (!u0 j i)) H
 | x,.ref p=>∃xs,Sq K H p xs/\fG x=true/\xs.all fG=true/\Q (.bl (!ng x xs)) H
 | _,_=>False
def As(K:au):R2:=fun x y H Q=>match x,y with
 | .str z,.int i=>z.length<=sizeLine/\∃c,cm z.cps.toList i=some c/\Q (.str ⟨#[c]⟩) H
 | .ref p,.int i=>∃xs v,Sq K H p xs/\cm xs i=some v/\Q v H
 | _,_=>False
def DZ(K:au):List V->Hp->VK->Prop:=fun xs H Q=>match xs with
 | [.str z]=>z.length<=sizeLine/\Q (.int z.length) H
 | [.ref p]=>∃ys,Sq K H p ys/\Q (.int ys.length) H
 | _=>False
def Kq:List V->Hp->VK->Prop:=fun xs H Q=>match xs with
 | [.int i,.int j]=>Q (.int (min i j)) H
 | _=>False
section
def a9.imp(h:a9 X f r)(hi:∀x y H Q,r' x y H Q->r x y H Q):a9 X f r':=fun pins s σ H x y v u Q I rx ry q=>h pins s σ H x y v u Q I rx ry (hi _ _ _ _ q)
def cf.imp(h:cf X f r)(hi:∀xs H Q,r' xs H Q->r xs H Q):cf X f r':=fun pins s σ H xs us Q I rx q=>h pins s σ H xs us Q I rx (hi _ _ _ q)
def Au:a9 X (binaryOp .Sub) DO:=Qw.imp fun x y H Q q=>by
 unfold DO at q
 split at q
 .exact⟨_,_,rfl,rfl,q⟩
 .exact q.elim
def nh:a9 X (binaryOp .FloorDiv) DP:=Qx.imp fun x y H Q q=>by
 unfold DP at q
 split at q
 .exact⟨_,_,rfl,rfl,q.1,q.2⟩
 .exact q.elim
def dI:a9 X (binaryOp .Mod) DS:=Qy.imp fun x y H Q q=>by
 unfold DS at q
 split at q
 .exact⟨_,_,rfl,rfl,q.1,q.2⟩
 .exact q.elim
def Av:a9 X (binaryOp .Pow) DT:=Qz.imp fun x y H Q q=>by
 unfold DT at q
 split at q
 .exact⟨_,_,rfl,rfl,q.1,q.2⟩
 .exact q.elim
def Kr:a9 X (compareOp .Lt) DV:=(QE.or QG).imp fun x y H Q q=>by
 unfold DV at q
 split at q
 .exact .inl ⟨_,_,rfl,rfl,q⟩
 .exact .inr ⟨_,_,rfl,rfl,q⟩
 .exact q.elim
def xh:a9 X (compareOp .Gt) DW:=QF.imp fun x y H Q q=>by
 unfold DW at q
 split at q
 .exact⟨_,_,rfl,rfl,q⟩
 .exact q.elim
def Ks:a9 X (compareOp .Eq) DX:=QC.imp fun x y H Q q=>by
 unfold DX at q
 split at q<;>first|exact q.elim|(refine⟨rfl,?_⟩;simpa using q)
def RV:a9 X (compareOp .NotEq) DY:=QD.imp fun x y H Q q=>by
 unfold DY at q
 split at q<;>first|exact q.elim|(refine⟨rfl,?_⟩;simpa using q)
def u5:a9 X (compareOp .In) (u3 X.K):=(QH.or Rq).imp fun x y H Q q=>by
 unfold u3 at q
 split at q
 .exact .inl ⟨_,_,rfl,rfl,q⟩
 .obtain⟨xs,h1,h2,h3,h4⟩:=q
  exact .inr ⟨_,xs,rfl,h1,h2,h3,h4⟩
 .exact q.elim
def Kt:a9 X (compareOp .NotIn) (xa X.K):=(Rt.or Rr).imp fun x y H Q q=>by
 unfold xa at q
 split at q
 .exact .inl ⟨_,_,rfl,rfl,q⟩
 .obtain⟨xs,h1,h2,h3,h4⟩:=q
  exact .inr ⟨_,xs,rfl,h1,h2,h3,h4⟩
 .exact q.elim
def aT:j0 X (As X.K):=by
 intro value slice pins s σ H x y v u Q I rx ry q hs;refine Rh value slice pins s σ H x y v u Q I rx ry ?_ hs;unfold As at q;split at q
 .obtain⟨h1,c,h2,h3⟩:=q;exact .inr (.inr ⟨_,_,c,rfl,rfl,h1,h2,h3⟩)
 .obtain⟨xs,v,h1|h1,h2,h3⟩:=q
  .exact .inl ⟨_,xs,_,v,rfl,rfl,h1,h2,h3⟩
  .exact .inr (.inl ⟨_,xs,_,v,rfl,rfl,h1,h2,h3⟩)
 .exact q.elim
def kR:cf X (.builtin "len") (DZ X.K):=(Rv.or Ru).imp fun xs H Q q=>by
 unfold DZ at q
 split at q
 .exact .inl ⟨_,rfl,q.1,q.2⟩
 .obtain⟨ys,h1,h2⟩:=q
  exact .inr ⟨_,ys,rfl,h1,h2⟩
 .exact q.elim
def RW(hc:X.calm=true):cf X (.builtin "min") Kq:=(QM hc).imp fun xs H Q q=>by
 unfold Kq at q
 split at q
 .rename_i i j
  refine⟨i,j,rfl,?_⟩
  have e:(if j<i then j else i)=min i j:=by split<;>lia
  rw[e];exact q
 .exact q.elim
def D0(hg:Gl X x)(hm:X.mg x=none)(hv:bootBuiltins x=some (.type T))(hn:x≠"__name__":=by decide)(hd:(x==("__debug__":Str))=false:=by decide):PE X (.Name x pos) (tC (.ty T)):=Qj hg hm hv rfl hn hd
end
def Aw:List V->Hp->(It->Hp->Prop)->Prop:=fun vs H R=>match vs with
 | [.int j]=>-(2^62)<=j/\j<2^62/\R (Ae 0 j.toNat) H
 | _=>False
def Ku(ta:TA):TI:=fun σ H R=>ta σ H fun vs H1=>Aw vs H1 R
def Kv(K:au):V->Hp->(It->Hp->Prop)->Prop:=fun x H R=>match x with
 | .ref a=>(∃xs,aV K H a xs)/\R (Ad K a) H
 | _=>False
def Kw(K:au):V->Hp->(It->Hp->Prop)->Prop:=fun x H R=>match x with
 | .ref a=>(∃xs,bf K H a xs)/\R (Dg K a) H
 | _=>False
def xi(u:V->Hp->(It->Hp->Prop)->Prop)(te:TE):TI:=fun σ H R=>te σ H fun x H1=>u x H1 R
section
def u6(hg:Gl X "range")(hm:X.mg "range"=none)(ha:PA X [a] ta)(hs:starEach [a] X.env=[(false,eval a X.env)]:=by rfl):PI X tg (.Call (.Name "range" p) [a] [] pos) (Ku ta):=by
 intro pins s σ H R I h;refine Call_ (og I hg hm boot_range (wg (aM (ha pos pins s σ H _ I h) fun us s1 ⟨vs,H1,I1,r1,q1⟩=>?_) hs rfl));unfold Aw at q1;dsimp only at q1;split at q1
 .obtain⟨q1,q2,q⟩:=q1;cases r1 with
  | cons r rr =>
   cases rr;obtain⟨t,rfl⟩:=r;exact call_range_1 (Qp I1 (by lia) (by lia) q1 q2 (by simpa using q))
 .exact q1.elim
end
def se:List Expr->Option (List Str)
 | []=>some []
 | .Constant (.str x) _ _::r=>(se r).map (x::·)
 | _=>none
def Ky(vs:List V):TA:=fun _ H L=>L vs H
def qm:∀ {es:List Expr} {xs:List Str},se es=some xs->PA X es (Ky (xs.map V.str))
 | [],xs,h=>by
  cases h
  exact fun pos pins s σ H Q I q=>Zg pos pins s σ H Q I q
 | e :: es, xs,h=>by
  cases e with
  | Constant c k p =>
   cases c with
   | str x =>
    cases h1:se es with
    | none=>simp[se,h1]at h
    | some ys =>
     have h2:x::ys=xs:=by simpa[se,h1]using h
     subst h2
     have ih:=qm (X:=X) h1
     exact fun pos pins s σ H Q I q=>(Za (te:=tC (.str x)) Zr ih) pos pins s σ H Q I q
   | _=>simp[se]at h
  | _=>simp[se]at h
def ba.aA(h:H l=none):ba H (upd H l o):=fun b u e=>by rw[Zs (Z7 e h)];exact e
def ba.sq{K:au}(e:ba H H')(h:bf K H a xs):bf K H' a xs:=by
 rcases h with(h|⟨o,h⟩)|h
 .exact .inl (.inl (e _ _ h))
 .exact .inl (.inr ⟨o,e _ _ h⟩)
 .exact .inr h
def Kz(h0:0<=i)(h:i<xs.length):∃v,cm xs i=some v/\xs[i.toNat]? = some v:=by
 have bD:i.toNat<xs.length:=by lia
 refine⟨xs[i.toNat],?_,Yg bD⟩;have e:(i.toNat:Int)=i:=by lia
 have h:=ZU (Yg bD);rw[e]at h;exact h
section
variable{K:au}
def iW.D1{st:Stmt}(F:iW K x qual st f fd)(hs:ZQ st=sc)(hb:kP st=body)(S:gW N ps (ZQ st))(len:∀ vs H Q E,sp vs H Q E->vs.length=ps.length)(cW:gW N ps sc->∀ (bg:Value) (A:Around) (outer:List Env) (s:Shared) (H:Hp) (vs:List V) (Q:VK) (E:XK),bV k (A.deeper (envOfC qual sc s.heap.objs.size f bg))->sp vs H Q E ->
   ∃t,dW (fo aQ P w K mg base N qual sc f bg A outer s H E).nc body t/\t { nx:=fun _ H'=>Q .ay H',rt:=Q } (L2.start N vs) H):cF P w K mg base aQ (k+1) f fd ps sp:=by
 subst hs hb;exact F.ok S len (cW S)
end
open PySem
def xj{cl:List (Str×Addr)}(h:(relabel scope env).names=names)(h2:(names.all fun p=>p.2 != .cell&&p.2 != .free)=true):
  ∀p∈(relabel scope env).names,p.2=.cell\/p.2=.free->(cl.lookup p.1).isSome=true:=by
 intro p hp hk;rw[h]at hp;have:=uH.mp h2 p hp;rcases hk with e|e
 .rw[e]at this;exact absurd this (by decide)
 .rw[e]at this;exact absurd this (by decide)
def D2{x:Str}:[x].Nodup:=by simp
section
variable{X:Cx}(K:au)(h:X.K=K)
include h
def RX:a9 X (compareOp .In) (u3 K):=h▸u5
def xk:j0 X (As K):=h▸aT
end
mutual
inductive Rep (K:au) (H:Hp):PyData->V->Prop
 | ay:Rep K H .none .ay
 | bl (b:Bool):Rep K H (.bool b) (.bl b)
 | int (i:Int):Rep K H (.int i) (.int i)
 | str (x:Str):Rep K H (.str x) (.str x)
 | tup {a:Addr} {xs:List V} {ds:List PyData}:bf K H a xs->gG K H ds xs->Rep K H (.tuple ds) (.ref a)
 | lst {a:Addr} {xs:List V} {ds:List PyData}:aV K H a xs->gG K H ds xs->Rep K H (.list ds) (.ref a)
inductive gG (K:au) (H:Hp):List PyData->List V->Prop
 | nil:gG K H [] []
 | cons {d:PyData} {v:V} {ds:List PyData} {vs:List V}:Rep K H d v->gG K H ds vs->gG K H (d::ds) (v::vs)
end
section
mutual
theorem Rep.reads (I:Inv X pins σ H s):∀ {d:PyData} {v:V} {u:Value},Rep X.K H d v->aZ v u->∃as,Reads s.heap u d as
 | _,_,_,.ay,r=>by cases r;exact⟨_,.none⟩
 | _,_,_,.bl b,r=>by cases r;exact⟨_,.bool b⟩
 | _,_,_,.int i,r=>by obtain⟨t,rfl⟩:=r;exact⟨_,.int i t⟩
 | _,_,_,.str x,r=>by obtain⟨t,rfl⟩:=r;exact⟨_,.str x t⟩
 | _, _,_,.tup h q,r=>by
  cases r
  obtain⟨its,rv,⟨o,e,c,n,d⟩,hz⟩:=I.tuple h
  obtain⟨as,ra⟩:=gG.reads I q rv
  exact⟨_,.tuple e c d (by simpa using ra)⟩
 | _, _,_,.lst h q,r=>by
  cases r
  obtain⟨its,rv,⟨o,n,e,c,_,d⟩,hz⟩:=I.list h
  obtain⟨as,ra⟩:=gG.reads I q rv
  exact⟨_,.list e c d (by simpa using ra)⟩
theorem gG.reads (I:Inv X pins σ H s):∀ {ds:List PyData} {vs:List V} {us:List Value},gG X.K H ds vs->Z3 vs us->∃as,ReadsAll s.heap us ds as
 | _,_,_,.nil,r=>by cases r;exact⟨_,.nil⟩
 | _, _,_,.cons h q,r=>by
  cases r with
  | cons r0 r1 =>
   obtain⟨as,ra⟩:=Rep.reads I h r0
   obtain⟨bs,rb⟩:=gG.reads I q r1
   exact⟨_,.cons ra rb⟩
end
def sf(K:au)(ne:Bool):R2:=fun x y H Q=>∃d e,Rep K H d x/\Rep K H e y/\d.canLay0=true/\e.canLay0=true/\d.depth<=190/\Q (.bl (if ne then !PyData.eqv d e else PyData.eqv d e)) H
def RY(hu:X.A.units+200<cLine):a9 X (compareOp .Eq) (sf X.K false):=by
 intro pins s σ H x y v u Q I rx ry h;obtain⟨d,e,h1,h2,c1,c2,dp,q⟩:=h;obtain⟨as,ra⟩:=Rep.reads I h1 rx;obtain⟨bs,rb⟩:=Rep.reads I h2 ry;refine SeqAt.compareEq_reads ra rb c1 c2 ?_ ⟨.bl _,H,I,rfl,q⟩;have:min d.depth e.depth<=d.depth:=CQ _ _;lia
def RZ(hu:X.A.units+200<cLine):a9 X (compareOp .NotEq) (sf X.K true):=by
 intro pins s σ H x y v u Q I rx ry h;obtain⟨d,e,h1,h2,c1,c2,dp,q⟩:=h;obtain⟨as,ra⟩:=Rep.reads I h1 rx;obtain⟨bs,rb⟩:=Rep.reads I h2 ry;refine SeqAt.compareNe_reads ra rb c1 c2 ?_ ⟨.bl _,H,I,rfl,q⟩;have:min d.depth e.depth<=d.depth:=CQ _ _;lia
def Ax(K:au):R2:=fun x y H Q=>match x,y with
 | .ref a,y=>sf K false (.ref a) y H Q
 | x,.ref b=>sf K false x (.ref b) H Q
 | x,y=>DX x y H Q
def D3(K:au):R2:=fun x y H Q=>match x,y with
 | .ref a,y=>sf K true (.ref a) y H Q
 | x,.ref b=>sf K true x (.ref b) H Q
 | x,y=>DY x y H Q
def cN(hr:bV k X.A):a9 X (compareOp .Eq) (Ax X.K):=((RY (by have:=hr.un;lia)).or Ks).imp fun x y H Q q=>by
 unfold Ax at q
 split at q
 .exact .inl q
 .exact .inl q
 .exact .inr q
def u7(hr:bV k X.A):a9 X (compareOp .NotEq) (D3 X.K):=((RZ (by have:=hr.un;lia)).or RV).imp fun x y H Q q=>by
 unfold D3 at q
 split at q
 .exact .inl q
 .exact .inl q
 .exact .inr q
def KA(K:au)(h:X.K=K)(hr:bV k X.A):a9 X (compareOp .Eq) (Ax K):=h▸cN hr
end
def D4(K:au):List V->Hp->VK->Prop:=fun xs H Q=>match xs with
 | [.ref p]=>∃ns:List Int,aV K H p (ns.map V.int)/\Q (.int ns.sum) H
 | _=>False
theorem KC(ns:List Int):∀n,n<=ns.length->preSum (fun i=>ns.getD i 0) n=(ns.take n).sum
 | 0,_=>by simp[preSum]
 | n+1,h=>by
  rw[preSum,KC ns n (by lia),List.take_add_one,Yg (by lia),List.sum_append]
  simp[YY,Yg (show n<ns.length by lia)]
def R0(hc:X.calm=true):cf X (.builtin "sum") (D4 X.K):=by
 intro pins s σ H xs us Q I r h;unfold D4 at h;split at h
 .rename_i p;obtain⟨ns,hl,q⟩:=h;obtain⟨u,rfl,ru⟩:=r.one;cases ru;obtain⟨its,rv,pl,hz⟩:=I.list hl;refine call_sum_walkAnyS (uG pl.isList ?_);have aR:p≠s.heap.objs.size:=Yn (by obtain⟨o,n,e,_⟩:=pl;exact Ym e);have hlen:its.toArray.size=ns.length:=by have:=rv.length;simp at this;simp;lia
  refine⟨s.heap.objs.size,_,_,_,_,_,_,fun i=>ns.getD i 0,rfl,(wz (show X.A.in1.handled=none from I.ok.hd hc) s.heap.objs.size p aR its.toArray).toS,⟨⟨_,Yl _ rfl,rfl,rfl⟩,pl.isList.at fun o e=>Ye _ e⟩,?_,?_,fun s' t' hm=>?_⟩
  .intro b hb;have hp:p<s.heap.objs.size:=by obtain⟨o,n,e,_⟩:=pl;exact Ym e
   rw[YL];rcases Yo.mp hb with rfl|hb
   .exact lG _
   .have:b=p:=by simpa using hb
    subst this;exact YV hp
  .intro i v hv;have jW:its[i]? = some v:=by simpa using hv
   cases e:(ns.map V.int)[i]? with
   | none =>
    have:=rv.none_of e;rw[this]at jW;cases jW
   | some y =>
    obtain⟨u,hu,ru⟩:=rv.get e;rw[jW]at hu;cases hu;rw[Yi]at e;cases eb:ns[i]? with
    | none=>rw[eb]at e;cases e
    | some b =>
     rw[eb]at e;cases e;obtain⟨t,rfl⟩:=ru;exact⟨t,by dsimp only;rw[YY,eb];rfl⟩
  .have e:preSum (fun i=>ns.getD i 0) its.toArray.size=ns.sum:=by
    rw[hlen,KC ns _ (Yj _),Y4]
   rw[e];have hI:Inv X pins σ H { s with heap:=s'.heap,toks:=s'.toks }:=I.kept (t':=s'.toks) fun b o e=>hm.heap b o (by simp;exact Yn (Ym e)) (Ye _ e);have es:({ s with heap:=s'.heap,toks:=s'.toks }:Shared)=s':=by
    have h1:=hm.gens;have h2:=hm.drawn;have h3:=hm.os;cases s';simp only at h1 h2 h3;subst h1 h2 h3;rfl
   rw[es]at hI;exact⟨.int _,H,hI,⟨_,rfl⟩,q⟩
 .exact h.elim
def D5:R2:=fun x y H Q=>match x,y with
 | .int i,.int j=>IntMulOk i j/\Q (.int (i*j)) H
 | .ref a,.int k=>Kf (.ref a) (.int k) H Q
 | _,_=>False
def R1:a9 X (binaryOp .Mult) (fun x y H Q=>∃i j,x=.int i/\y=.int j/\IntMulOk i j/\Q (.int (i*j)) H):=by
 intro pins s σ H x y v u Q I rx ry h;obtain⟨i,j,rfl,rfl,hm,q⟩:=h;obtain⟨t,rfl⟩:=rx;obtain⟨t',rfl⟩:=ry;exact PyProof.Rows.mul_int ⟨.int _,H,I.tok _,⟨_,rfl⟩,q⟩ hm
def Ay:a9 X (binaryOp .Mult) D5:=(R1.or RB).imp fun x y H Q q=>by
 unfold D5 at q
 split at q
 .exact .inl ⟨_,_,rfl,rfl,q.1,q.2⟩
 .exact .inr q
 .exact q.elim
def Az(h:Dl i j):IntMulOk i j:=h.ok
def ZD{α:Type}{P:α->Prop}{a:α}{l:List α}(h:P a)(t:∀p∈l,P p):∀p∈a::l,P p:=fun p hp=>by
 rcases Yo.mp hp with rfl|hp
 .exact h
 .exact t p hp
def ZN{α:Type}{P:α->Prop}:∀p∈([]:List α),P p:=fun _ z=>nomatch z
def j4{cl:List (Str×Addr)}(h:(relabel scope env).names=names)(h2:(names.all fun p=>(p.2 != .cell&&p.2 != .free)||(cl.lookup p.1).isSome)=true):
  ∀p∈(relabel scope env).names,p.2=.cell\/p.2=.free->(cl.lookup p.1).isSome=true:=by
 intro p hp hk;rw[h]at hp;have:=uH.mp h2 p hp;rcases hk with e|e
 .rw[e]at this;simpa using this
 .rw[e]at this;simpa using this
section
def R3(K:au):R2:=fun x y H Q=>∃l b xs zs,x=.ref l/\y=.ref b/\aV K H l xs/\aV K H b zs/\xs.length+zs.length<=sizeLine/\∀p,H p=none->Q (.ref p) (upd H p (.lst (xs++zs)))
def R4:a9 X (binaryOp .Add) (R3 X.K):=by
 intro pins s σ H x y v u Q I rx ry h;obtain⟨l,b,xs,zs,rfl,rfl,hH,hB,hz,q⟩:=h;cases rx;cases ry;obtain⟨its,r,pl,z1⟩:=I.list hH;obtain⟨cY,r2,R5,z2⟩:=I.list hB;have hl:=r.length;have cZ:=r2.length;obtain⟨⟨cls,dd,data,sl⟩,ho,hc,n,hd⟩:=id pl.isList;obtain⟨⟨Dy,kO,data2,Ag⟩,lO,wQ,n2,hd2⟩:=id R5.isList;simp only at hc hd wQ hd2;subst hc hd wQ hd2;have e:its.toArray++cY.toArray=(its++cY).toArray:=by simp
 refine zW ⟨_,ho,rfl⟩ ⟨_,lO,rfl⟩ noFill_list_add seq_list_add PySem.F.slot_list_add PySem.F.entry_list_add (PySem.F.args_list_add_2 _ _) (PyProof.Rows.list_addW l b its.toArray cY.toArray n n2 dd kO sl Ag (by rw[Yq,Yq];lia)) ⟨ho,lO,?_⟩;rw[e];exact⟨.ref _,_,I.wX (t':=s.toks) (r.append r2) (by rw[Yt];lia),rfl,q _ I.fresh⟩
end
def KD(hc:X.calm=true)(S:Z8 X scope cl ts frs')(hi:PI X tg iter wi)(hg:∀ pins s H fp,PG (X.comp scope cl (ts++frs'.map (·.1)) pins s H fp) tg g)(ht:∀ pins s H fp,ql (X.comp scope cl (ts++frs'.map (·.1)) pins s H fp) ifs tt)(he:∀ pins s H fp,PE (X.comp scope cl (ts++frs'.map (·.1)) pins s H fp) elt te)(hs:∀ x,foldedSetIterable iter X.env x=pure x)(I:Inv X pins σ H s)(h:Aq ts.length frs' wi g tt te σ H Q)(sg:∀ (C D:Addr) (H5:Hp) (s6:Shared) (m6:Str->Option Value),Inv X pins σ H5 s6->s6.heap.Ns C m6->gD X pins H5 C->(∀ h',Heap.SameBut C s6.heap h'->Inv X pins σ H5 { s6 with heap:=h' })->Q (.ref D) H5 ->
   compPost (model X.prog X.w) X.A X.xe use Qv (.ref D) C (.ok .next) s6):
  wpAny (model X.prog X.w) X.A (comprehension (.ListComp elt [⟨tg,iter,ifs,0⟩] scope pos) scope X.env D6 (newList []) false (eval iter X.env) use) Qv X.xe s:=by
 refine wpAny_comprehension_free (use:=use) (cl:=cl) rfl hs S.w_ S.kind S.names (aM (hi pins s σ H _ I h) fun v s1 h1=>aM h1 fun Ac s2 h2=>?_);obtain⟨it,fp,tn,J,H2,e,I2,T,gE,f2,q2⟩:=h2;subst e;have D7:H2 s2.heap.objs.size=none:=I2.aG.fresh (Yj _);obtain⟨W,⟨m0,w0⟩,turn⟩:=q2 _ D7;refine YR ?_;have md:∀b∈fp,b<s2.heap.objs.size:=fun b hb=>by
  obtain⟨o,e,_⟩:=T.obj _ _ gE b hb;exact Ym e
 have I3:Inv X pins σ (upd H2 s2.heap.objs.size (.lst [])) { s2 with heap:=s2.heap.push { cls:=.type "list",data:=.seq ([]:List Value).toArray } } :=
  I2.laid (t':=s2.toks) (fun b u e=>Ye _ e) (Yj _) ⟨Y0 _,[],0,.nil,Yl _ rfl⟩
 have f3:∀b∈fp,gD X pins (upd H2 s2.heap.objs.size (.lst [])) b:=fun b hb=>⟨by rw[Zs (Yn (md b hb))];exact(f2 b hb).1,(f2 b hb).2⟩;have sh:∀b o,s2.heap.get? b=some o->(s2.heap.push { cls:=.type "list",data:=.seq ([]:List Value).toArray }).get? b=some o:=fun b o e=>Ye _ e;have si:(s2.heap.push { cls:=.type "list",data:=.seq ([]:List Value).toArray }).objs.size=s2.heap.objs.size+1:=YL ..;refine wpAny_newFunctionEnv S.ma (by intro y hy;simp at hy) (fun bq bX cO=>?_) S.kind;dsimp only at bX cO ⊢;generalize xl:({ s2 with heap:=s2.heap.push { cls:=.type "list",data:=.seq ([]:List Value).toArray } }:Shared)=s3 at I3 bX cO ⊢;have j5:s3.heap=s2.heap.push { cls:=.type "list",data:=.seq ([]:List Value).toArray }:=by rw[<- xl]
 have xm:∀b o,s3.heap.get? b=some o->bq.get? b=some o:=fun b o e=>by
  have:=cO.2 b (by rw[<- j5];exact Yn (Ym e));rw[<- j5]at this;exact this.trans (Ye _ e)
 have mf:∀b∈fp,b<s3.heap.objs.size:=fun b hb=>by
  rw[j5,si];exact YV (md b hb)
 rw[<- j5]at bX;have I4:=S.inv I3 f3 mf (tk:=s2.toks+([]:List (Str×Value)).length) bX xm;have xn:tn 0 bq:=T.keep _ _ _ gE fun b hb o e=>xm b o (by rw[j5];exact sh b o e);have iY:({ s2 with heap:=bq,toks:=s2.toks+([]:List (Str×Value)).length }:Shared)={ s3 with heap:=bq,toks:=s2.toks+([]:List (Str×Value)).length }:=by rw[<- xl]
 rw[iY];have ef:∀ {H':Hp},(∀b∈fp,H' b=none)->∀b∈fp,gD (X.comp scope cl (ts++frs'.map (·.1)) pins s3 (upd H2 s2.heap.objs.size (.lst [])) fp) [] H' b:=fun hn b hb=>by
  obtain⟨h1,h2,h3,h4,h5,h6⟩:=f3 b hb;refine⟨hn b hb,Yn (mf b hb),fun z=>?_,.inl hb,fun x c e=>h5 x c (S.g_ e),fun p hp=>h6 p (by
   have:p∈(X.pn++pins)++[]:=hp;rwa [YW]at this)⟩
  rcases Yo.mp (I3.dk _ z)with e'|e'
  .exact h2 e'
  .exact h3 e'
 have loop : codeAny (model X.prog X.w) X.A (.compLoop (.ListComp elt [⟨tg,iter,ifs,0⟩] scope pos) 0 (.ref it) (.ref s2.heap.objs.size) (compEnvC scope cl s3.heap.objs.size X.env))
   (compPost (model X.prog X.w) X.A X.xe use Qv (.ref s2.heap.objs.size) s3.heap.objs.size) { s3 with heap:=bq,toks:=s2.toks+([]:List (Str×Value)).length }:=by
  refine RN (fun n s'=>∃i τ H',Inv (X.comp scope cl (ts++frs'.map (·.1)) pins s3 (upd H2 s2.heap.objs.size (.lst [])) fp) [] τ H' s'/\tn i s'.heap/\(∀b∈fp,H' b=none)/\W i n τ H') ?_ m0
   ⟨0,_,_,I4,xn,fun b hb=>(f3 b hb).1,w0⟩
  rintro n s5 ⟨i,τ,H5,I5,oq,rK,w5⟩;rcases turn i n τ H5 w5 with⟨stop,qn⟩|⟨go,step⟩
  .refine YH (T.done (X.comp scope cl (ts++frs'.map (·.1)) pins s3 (upd H2 s2.heap.objs.size (.lst [])) fp) rfl rfl rfl hc i [] s5 τ H5 (fun _ _=>False) I5 (ef rK) oq stop) (fun r s6 ⟨hr,I6⟩=>?_) fun _ _ z=>z;subst hr;obtain⟨m6,sj,_⟩:=id I6.loc;have hA:∀h',Heap.SameBut s3.heap.objs.size s6.heap h'->Inv X pins σ H5 { s6 with heap:=h' }:=fun h' hG=>Z8.after I3 f3 I6 hG;have D8:=I3.gU (b:=s3.heap.objs.size) (Yj _) (I3.aG.fresh (Yj _));exact sg _ _ H5 s6 m6 (hA s6.heap ⟨rfl,fun _ _=>rfl⟩) sj ⟨I6.free,D8.2⟩ hA qn
  .refine YH (T.item (X.comp scope cl (ts++frs'.map (·.1)) pins s3 (upd H2 s2.heap.objs.size (.lst [])) fp) rfl rfl rfl hc i [] s5 τ H5 (fun _ _=>False) I5 (ef rK) oq go) (fun r s6 ⟨u,hr,h6⟩=>?_) fun _ _ z=>z;subst hr;refine aM h6 fun _ s7 aL=>?_;obtain⟨x,H7,I7,r7,y7,sk,D9⟩:=aL;have D_:=I7.pinned (ef D9) (T.obj _ _ sk);refine aM (hg _ _ _ _ _ s7 τ H7 x u _ D_ r7 (step x H7 y7)) fun _ s8 aL=>?_;obtain⟨ju,H8,I8,q8⟩:=aL;refine aM (ht _ _ _ _ _ s8 ju H8 _ I8 q8) fun ok s9 aL=>?_;obtain⟨H9,I9,q9⟩:=aL;have again:∀ {m':Nat} {H':Hp} {s':Shared},Inv (X.comp scope cl (ts++frs'.map (·.1)) pins s3 (upd H2 s2.heap.objs.size (.lst [])) fp) ([]++uR fp s7.heap) ju H' s'->m'<n->W (i+1) m' ju H' ->
     ∃m,m<n/\∃i τ H',Inv (X.comp scope cl (ts++frs'.map (·.1)) pins s3 (upd H2 s2.heap.objs.size (.lst [])) fp) [] τ H' s'/\tn i s'.heap/\(∀b∈fp,H' b=none)/\W i m τ H':=fun {m' H' s'} I' hm w'=>by
    refine⟨m',hm,i+1,ju,H',I'.cp,T.keep _ _ _ sk fun b hb o e=>(I'.pin (b,o) (Yz _ (Yz _ (uS hb e)))).1,fun b hb=>?_,w'⟩;obtain⟨o,e,d⟩:=T.obj _ _ sk b hb;exact(I'.pin (b,o) (Yz _ (Yz _ (uS hb e)))).2.1
   cases ok with
   | false =>
    rw[if_neg Yv];rw[if_neg Yv]at q9;obtain⟨m',hm,w'⟩:=q9;exact again I9 hm w'
   | true =>
    rw[if_pos rfl];rw[if_pos rfl]at q9;refine aM (he _ _ _ _ _ s9 ju H9 _ I9 q9) fun yv Ea aL=>?_;obtain⟨y,Eb,Ec,Ed,ys,hl,hz,m',hm,w'⟩:=aL;refine aM (Z4 _ Ea ju Eb (.ref s2.heap.objs.size) [y] (.ref s2.heap.objs.size) [yv] (fun _ H'=>W (i+1) m' ju H') Ec rfl (.cons Ed .nil) ⟨_,ys,y,rfl,rfl,hl,hz,w'⟩) fun _ R6 aL=>?_;obtain⟨_,R7,AB,_,R8⟩:=aL;exact again AB hm R8
 have es:(s2.heap.push { cls:=.type "list",data:=.seq ([]:List Value).toArray }).objs.size=s3.heap.objs.size:=by rw[j5]
 rw[es];exact codeAny_compStart_list loop (T.self _ 0 _ _ _ xn loop)
def ni(hc:X.calm=true)(S:Z8 X scope cl ts frs')(hi:PI X tg iter wi)(hg:∀pins s H fp,PG (X.comp scope cl (ts++frs'.map (·.1)) pins s H fp) tg g)(ht:∀pins s H fp,ql (X.comp scope cl (ts++frs'.map (·.1)) pins s H fp) ifs tt)(he:∀pins s H fp,PE (X.comp scope cl (ts++frs'.map (·.1)) pins s H fp) elt te)(hs:∀x,foldedSetIterable iter X.env x=pure x:=by intro _;rfl):
  PE X (.ListComp elt [⟨tg,iter,ifs,0⟩] scope pos) (Aq ts.length frs' wi g tt te):=by
 intro pins s σ H Q I h;rw[eval_ListComp];exact KD hc S hi hg ht he hs (use:=none) (Qv:=EP X pins σ Q) I h fun C D H5 s6 m6 I6 hn R9 hA q=>⟨m6,hn,fun h' hG=>⟨.ref D,H5,hA h' hG,rfl,q⟩⟩
def Ee(hN:X.N.Nodup)(xo:X.N[i]? = some y)(hy:Loc X.env.scope y)(Ef:swapsWith (.ListComp elt [⟨tg,iter,ifs,0⟩] scope pos) (some (.Name y py)) sr.line X.env=pure true)(hc:X.calm=true)(S:Z8 X scope cl ts frs')(hi:PI X tg iter wi)(hg:∀pins s H fp,PG (X.comp scope cl (ts++frs'.map (·.1)) pins s H fp) tg g)(ht:∀pins s H fp,ql (X.comp scope cl (ts++frs'.map (·.1)) pins s H fp) ifs tt)(he:∀pins s H fp,PE (X.comp scope cl (ts++frs'.map (·.1)) pins s H fp) elt te)(hs:∀x,foldedSetIterable iter X.env x=pure x:=by intro _;rfl)(hf:X.fn y=true\/X.env.scope.names.lookup y=some .local:=by first|exact .inl rfl|exact .inr rfl|assumption):
  PS X (.Assign [.Name y py] (.ListComp elt [⟨tg,iter,ifs,0⟩] scope pos) sr) (wH (Aq ts.length frs' wi g tt te) (rH i)):=by
 intro pins s σ H D I h;rw[exec_Assign_Name_used _ _ _ _ Ef];refine Yb (nY (Yb ?_));show wpAny _ X.A (do let _ <- comprehension (.ListComp elt [⟨tg,iter,ifs,0⟩] scope pos) scope X.env _ (newList []) false (eval iter X.env) (some (assign (.Name y py) X.env))) _ _ s;refine Yb (YH (KD hc S hi hg ht he hs (Qv:=fun _ s'=>SP X pins D .next s') (use:=some (assign (.Name y py) X.env)) I h ?_) (fun _ s' hq=>Yd (Yd hq)) fun _ _ e=>e);intro C Da H5 s6 m6 I6 sj xp hA qn;show wpAny _ X.A (assign (.Name y py) X.env (.ref Da)) _ _ _;refine CK (C5 I6 hN xo hy (v:=.ref Da) rfl (fun s7 I7 ⟨a,sb,ha⟩=>?_) hf);have Eg:C≠a:=by
  obtain⟨_,h2,_,_,h5,_⟩:=xp;rcases ha with rfl|ha
  .exact h2
  .exact fun e=>h5 _ _ ha e.symm
 refine⟨m6,sj.sameBut sb Eg,fun h' hG=>?_⟩;obtain⟨f0,f1,f2,f3,f4,f5⟩:=xp;exact⟨_,H5,I7.turned (h':=h') (t':=s7.toks) (fun b o hb e=>(hG.2 b hb).trans e) f0 f1 f3 f4 f5,qn⟩
def Eh(K:au):List V->Hp->VK->Prop:=fun xs H Q=>match xs with
 | [.ref p]=>∃ys,Sq K H p ys/\∀l,H l=none->Q (.ref l) (upd H l (.lst ys))
 | _=>False
def R_:cf X (.type "list") (Eh X.K):=Rw.imp fun xs H Q q=>by
 unfold Eh at q
 split at q
 .obtain⟨ys,h1,h2⟩:=q
  exact⟨_,ys,rfl,h1,h2⟩
 .exact q.elim
def Sa(h:j<n):jr n (j:Int)=some j:=by
 unfold jr;rw[if_pos (by lia),if_pos (by lia)];simp
end L2
namespace MM
def sm(n:Nat)(f:Nat->Int):Int:=((List.range n).map f).sum
abbrev fq(l:List Int)(i:Nat):Int:=l.getD i 0
end MM
namespace MM
def mc:Nat->Nat->Nat
 | _,0=>1
 | 0,_+1=>0
 | m+1,j+1=>mc m (j+1)+mc (m+1) j
def ch:Nat->Nat->Nat
 | _,0=>1
 | 0,_+1=>0
 | n+1,k+1=>ch n k+ch n (k+1)
def sv(l:List Int):Int->Int:=fun z=>if 0<=z then fq l z.toNat else 0
def part(w:Nat->Int)(s:Nat)(bs:List Int)(m n:Nat):Int:=sm (m+1) fun j=>if j*s<=n then w j*fq bs (n-j*s)else 0
end MM
namespace L2
open PySem PySem.Spec PyProof.Rows
def gH{c A B:Prop}[Decidable c](hc:c)(h:A):if c then A else B:=by rw[if_pos hc];exact h
def jv{c A B:Prop}[Decidable c](hc:¬c)(h:B):if c then A else B:=by rw[if_neg hc];exact h
section
def Inv.f7{ch:List Addr}(I:Inv X pins σ H s)(e_:∀b∈ch,gD X pins H b)(k:∀b u,b∉ch->s.heap.get? b=some u->h'.get? b=some u)(hT:s.heap.objs.size<=T)(new:dC X.prog X.w (upd H T o) h' T o):Inv X pins σ (upd H T o) { s with heap:=h',toks:=t' }:=by
 have hn:H T=none:=I.aG.fresh hT;have nT:∀b u,s.heap.get? b=some u->b≠T:=fun b u e=>Yn (YJ (Ym e) hT);have gC:∀b u,H b=some u->b∉ch:=fun b u e z=>by rw[(e_ b z).1]at e;cases e
 refine I.step (g':=s.gens) (d':=s.drawn) (ch:=ch) (fun b hb=>?_) (fun b u _ _ hc e _=>k b u hc e) (fun b u _ _ hc e _=>⟨u.slots,k b u hc e⟩) (fun b u _ e n=>by rw[Zs (nT b u e)];exact n)
  (fun b u hc e=>⟨u,k b u hc e⟩) (fun b xs e=>by rw[Zs (Z7 e hn)];exact e) (fun b u v e=>by rw[Zs (Z7 e hn)];exact e) (fun b ps e=>⟨#[],by rw[Zs (Z7 e hn),e];simp⟩) (fun m hm=>?_) (fun b u e=>?_) I.bare
 .obtain⟨h0,h1,h2,h3,h4,h5⟩:=e_ b hb;exact⟨h3,h1,h4,h5⟩
 .obtain⟨ob,es,ep,ho,r⟩:=hm;exact⟨ob,es,ep,k _ ob (fun z=>(e_ _ z).2.1 rfl) ho,r⟩
 .by_cases hb:b=T
  .subst hb;rw[ZC]at e;cases e;exact new
  .rw[Zs hb]at e;refine(I.aG b u e).dF (fun c v hc q=>k c v ?_ q) (fun c q=>by rw[Zs (Z7 q hn)];exact q) fun c xs q=>by rw[Zs (Z7 q hn)];exact q
   rcases hc with z|z
   .rw[z];exact gC b u e
   .exact gC c _ z
def Inv.f9{ch:List Addr}(I:Inv X pins σ H s)(e_:∀b∈ch,gD X pins H b)(k:∀b u,b∉ch->s.heap.get? b=some u->h'.get? b=some u):Inv X pins σ H { s with heap:=h',toks:=t' }:=by
 have gC:∀b u,H b=some u->b∉ch:=fun b u e z=>by rw[(e_ b z).1]at e;cases e
 refine I.step (g':=s.gens) (d':=s.drawn) (ch:=ch) (fun b hb=>?_) (fun b u _ _ hc e _=>k b u hc e) (fun b u _ _ hc e _=>⟨u.slots,k b u hc e⟩) (fun _ _ _ _ n=>n)
  (fun b u hc e=>⟨u,k b u hc e⟩) (fun _ _ e=>e) (fun _ _ _ e=>e) (fun b ps e=>⟨#[],by rw[e];simp⟩) (fun m hm=>?_) (fun b u e=>?_) I.bare
 .obtain⟨h0,h1,h2,h3,h4,h5⟩:=e_ b hb;exact⟨h3,h1,h4,h5⟩
 .obtain⟨ob,es,ep,ho,r⟩:=hm;exact⟨ob,es,ep,k _ ob (fun z=>(e_ _ z).2.1 rfl) ho,r⟩
 .refine(I.aG b u e).dF (fun c v hc q=>k c v ?_ q) (fun _ q=>q) fun _ _ q=>q;rcases hc with z|z
  .rw[z];exact gC b u e
  .exact gC c _ z
end
def xq(K:au)(a:Addr):It :=
 ⟨fun i H=>∃xs x,aV K H a xs/\xs[i]? = some x,
  fun i H v H'=>∃T x,v=.ref T/\H T=none/\H'=upd H T (.tup [.int i,x])/\(∀xs,aV K H a xs->xs[i]? = some x),
  fun i H=>∃xs,aV K H a xs/\xs.length<=i⟩
def Sb{K:au}(aR:e≠it):om P w K (.Tuple elts k0 pos) (xq K l) [e,it] e
  (fun i h=>(∃old,IsEnum h e it i old)/\h.IsListIter it l i) where
 mem:=by simp
 obj := fun i h st b hb=>by
  obtain⟨⟨old,he⟩,h1⟩:=st
  simp only[Yo,YG,eZ]at hb
  rcases hb with rfl|rfl
  .exact⟨_,he,fun v q=>nomatch q⟩
  .obtain⟨o,e,c,d⟩:=h1
   exact⟨o,e,fun v q=>by rw[d]at q;cases q⟩
 keep:=fun i h h' st k=>by
  obtain⟨⟨old,he⟩,h1⟩:=st
  exact⟨⟨old,k e (by simp) _ he⟩,h1.at fun o q=>k it (by simp) o q⟩
 item := by
  intro X hP hw hK hc i pins s σ H E I hf st hg;subst hP hw hK;obtain⟨⟨old,he⟩,h1⟩:=st;obtain⟨xs,x,hx,xr⟩:=hg;obtain⟨its,rv,p,_⟩:=I.list hx;obtain⟨u,hu,ru⟩:=rv.get xr;refine wpAny_pyNext_enum_item he h1 p.isList (x:=u) (by simpa using hu) aR fun h' a1 a2 a3 a4 hk=>⟨_,rfl,Il a1 fun qo xt sb=>?_⟩;have nz:s.heap.objs.size≠e:=jR (Ym he);have xu:IsTup qo s.heap.objs.size [Value.int i s.toks,u].toArray:=⟨_,sb.extBut _ _ nz a3,rfl,_,rfl⟩;have I':Inv X pins σ (upd H s.heap.objs.size (.tup [.int i,x])) { s with heap:=qo,toks:=s.toks+1 }:=I.f7 (ch:=[e,it]) hf (fun b o hb q=>by
   simp only[Yo,YG,eZ,not_or]at hb;exact sb.extBut _ _ hb.1 (hk b o hb.1 hb.2 q)) (Yj _) ⟨by show 2<=sizeLine;decide,[Value.int i s.toks,u],.cons ⟨_,rfl⟩ (.cons ru .nil),xu⟩
  have hn:H s.heap.objs.size=none:=I.aG.fresh (Yj _);refine⟨.ref s.heap.objs.size,_,I',rfl,⟨_,x,rfl,hn,rfl,fun zs j6=>by rw[I.gT j6 hx];exact xr⟩,⟨⟨_,by push_cast;exact xt⟩,a2.extBut sb.extBut (Ne.symm aR)⟩,fun b hb=>?_⟩;have xv:=(hf b hb).1;have : b≠s.heap.objs.size:=by
   obtain⟨o,q⟩:∃o,s.heap.get? b=some o:=by
    simp only[Yo,YG,eZ]at hb;rcases hb with rfl|rfl
    .exact⟨_,he⟩
    .obtain⟨o,q,_⟩:=h1;exact⟨o,q⟩
   exact Yn (Ym q)
  rw[Zs this];exact xv
 done := by
  intro X hP hw hK hc i pins s σ H E I hf st hg;subst hP hw hK;obtain⟨⟨old,he⟩,h1⟩:=st;obtain⟨xs,hx,Ei⟩:=hg;obtain⟨its,rv,p,_⟩:=I.list hx;have hl:=rv.length;exact wpAny_pyNext_enum_end (I.ok.hd hc) he h1 p.isList (by simp;lia) fun h' hk=>⟨rfl,I.f9 (t':=s.toks) (ch:=[e,it]) hf (fun b o hb q=>by
   simp only[Yo,YG,eZ,not_or]at hb;exact hk b o hb.2 q)⟩
 self:=fun _ _ _ _ _ st h=>by
  obtain⟨⟨old,he⟩,h1⟩:=st;exact zO he h
def Ej(K:au):List V->Hp->(It->Hp->Prop)->Prop:=fun vs H R=>match vs with
 | [.ref a]=>(∃xs,aV K H a xs)/\R (xq K a) H
 | _=>False
def KG(u:List V->Hp->(It->Hp->Prop)->Prop)(ta:TA):TI:=fun σ H R=>ta σ H fun vs H1=>u vs H1 R
def Sd:bootBuiltins "enumerate"=some (.type "enumerate"):=by decide +kernel
def xw(K:au)(hK:X.K=K)(n:Nat)(hc:X.calm=true)(h:wG X es t)(hn:(assignEach es X.env).length=n)(jn:(assignEach es X.env).findIdx? (·.1)=none):PG X (.Tuple es k pos) (Ab K n t):=by
 subst hK;exact oj hc h hn jn
def g2{K:au}(h:bf K H T [x,y])(q:Q (some x::some y::fr) H):Ab K 2 (Aa (rH 0) (Aa (rH 1) De)) (.ref T) (k0::k1::fr) H Q :=
 ⟨T,_,rfl,h,rfl,_,_,rfl,_,_,rfl,rfl,q⟩
theorem Ek(ns:List Int):∀k i,i<=k->MM.fq ns (argBest (fun i j=>decide (MM.fq ns i<MM.fq ns j)) k)<=MM.fq ns i
 | 0, i,h=>by
  have:i=0:=by lia
  subst this
  exact Int.le_refl _
 | k+1, i,h=>by
  rw[argBest]
  have ih:=Ek ns k
  split
  .rename_i hb
   have hb:=lF hb
   by_cases e:i=k+1
   .rw[e];exact Int.le_refl _
   .have:=ih i (by lia)
    lia
  .rename_i hb
   have hb:¬(MM.fq ns (k+1)<MM.fq ns (argBest (fun i j=>decide (MM.fq ns i<MM.fq ns j)) k)):=fun z=>hb (YA z)
   by_cases e:i=k+1
   .rw[e];lia
   .exact ih i (by lia)
def KH(h:i<ns.length):MM.fq ns i∈ns:=by
 unfold MM.fq;rw[YY,Yg h];exact uI h
def Zip(h:x∈ns):∃i,i<ns.length/\MM.fq ns i=x:=by
 obtain⟨i,hi,e⟩:=pW.mp h;refine⟨i,hi,?_⟩;unfold MM.fq;rw[YY,Yg hi];exact e
def u9(rv:Z3 (ns.map V.int) its){v:Value}(h:its.toArray[i]? = some v):i<ns.length/\∃t,v=.int (MM.fq ns i) t:=by
 have jW:its[i]? = some v:=by simpa using h
 have hlen:=rv.length;have hi:i<ns.length:=by
  have:=(Yh.mp jW).1;rw[Yc]at hlen;lia
 refine⟨hi,?_⟩;have e:(ns.map V.int)[i]? = some (.int (MM.fq ns i)):=by
  rw[Yi,Yg hi];unfold MM.fq;rw[YY,Yg hi];rfl
 obtain⟨u,hu,ru⟩:=rv.get e;rw[jW]at hu;cases hu;exact ru
section
def El(K:au):List V->Hp->VK->Prop:=fun xs H Q=>match xs with
 | [.int i,.int j]=>Q (.int (min i j)) H
 | [.ref p]=>∃ns:List Int,aV K H p (ns.map V.int)/\1<=ns.length/\∀m,m∈ns->(∀x∈ns,m<=x)->Q (.int m) H
 | _=>False
def Se(hc:X.calm=true):cf X (.builtin "min") (fun xs H Q=>∃(p:Addr)(ns:List Int),xs=[.ref p]/\aV X.K H p (ns.map V.int)/\1<=ns.length/\∀m,m∈ns->(∀x∈ns,m<=x)->Q (.int m) H):=by
 intro pins s σ H xs us Q I r h;obtain⟨p,ns,rfl,hl,h1,q⟩:=h;obtain⟨u,rfl,ru⟩:=r.one;cases ru;obtain⟨its,rv,pl,hz⟩:=I.list hl;have hlen:its.toArray.size=ns.length:=by have:=rv.length;simp at this;simp;lia
 have hp:p<s.heap.objs.size:=by obtain⟨o,n,e,_⟩:=pl;exact Ym e
 refine call_min_walk (uG pl.isList ?_);refine⟨s.heap.objs.size,_,_,_,_,_,fun i j=>decide (MM.fq ns i<MM.fq ns j),rfl,wz (show X.A.in1.handled=none from I.ok.hd hc) s.heap.objs.size p (Yn hp) its.toArray,⟨⟨_,Yl _ rfl,rfl,rfl⟩,pl.isList.at fun o e=>Ye _ e⟩,?_,by rw[hlen];exact h1,?_,?_⟩
 .intro b hb;rw[YL];rcases Yo.mp hb with rfl|hb
  .exact lG _
  .have:b=p:=by simpa using hb
   subst this;exact YV hp
 .intro i j vi vj s' Q' E' hi hj hq;obtain⟨_,t,rfl⟩:=u9 rv hi;obtain⟨_,t',rfl⟩:=u9 rv hj;exact HT.gX _ _ _ _ _ _ _ _ _ _ hq
 .intro v h' tk hv hk;obtain⟨hi,t,rfl⟩:=u9 rv hv;rw[hlen]at hi ⊢;refine⟨.int _,H,I.kept (t':=tk) fun b o e=>hk b o (by simp;exact Yn (Ym e)) (Ye _ e),⟨_,rfl⟩,q _ (KH hi) fun x hx=>?_⟩;obtain⟨j,hj,rfl⟩:=Zip hx;exact Ek ns (ns.length-1) j (by lia)
def Sf(hc:X.calm=true):cf X (.builtin "min") (El X.K):=((RW hc).or (Se hc)).imp fun xs H Q q=>by
 unfold El at q
 split at q
 .exact .inl q
 .obtain⟨ns,h1,h2,h3⟩:=q
  exact .inr ⟨_,ns,rfl,h1,h2,h3⟩
 .exact q.elim
end
section
def Sg{ws:List Value}(ht:IsTup s.heap t #[])(hb:IsTup s.heap b ws.toArray)(h:Q (.ref b) s):wpAny (model prog w) A (binaryOp .Add (.ref t) (.ref b)) Q E s:=by
 obtain⟨⟨c1,d1,x1,l1⟩,g1,k1,n1,z1⟩:=id ht;obtain⟨⟨c2,d2,x2,l2⟩,g2,k2,n2,z2⟩:=id hb;simp only at k1 z1 k2 z2;subst k1 z1 k2 z2;exact zW ⟨_,g1,rfl⟩ ⟨_,g2,rfl⟩ PySem.noFill_tuple_add PySem.seq_tuple_add CC CB (CA _ _) (tuple_addW0 t b #[] ws.toArray n1 n2 d1 d2 l1 l2 rfl) ⟨g1,g2,h⟩
end
section
def Sh(K:au):R2:=fun x y H Q=>∃a b xs ys,x=.ref a/\y=.ref b/\bf K H a xs/\bf K H b ys/\xs.length+ys.length<=sizeLine/\∀p H',ba H H'->bf K H' p (xs++ys)->Q (.ref p) H'
def Si:a9 X (binaryOp .Add) (Sh X.K):=by
 intro pins s σ H x y v u Q I rx ry h;obtain⟨a,b,xs,ys,rfl,rfl,ha,hb,hz,q⟩:=h;by_cases hx:xs=[]
 .subst hx;cases rx;cases ry;obtain⟨its,r1,p1,_⟩:=I.tuple ha;obtain⟨cY,r2,p2,_⟩:=I.tuple hb;cases r1;exact Sg p1 p2 ⟨.ref b,H,I,rfl,q b H (ba.refl _) hb⟩
 .refine Ra pins s σ H (.ref a) (.ref b) v u Q I rx ry ⟨a,b,xs,ys,rfl,rfl,ha,hb,hx,hz,fun e=>?_,fun _ p hp=>q p _ (ba.aA hp) (bf.of ZC)⟩
  .subst e;exact q a H (ba.refl _) (by rw[YW];exact ha)
def Sj(K:au):V->Option Int->Option Int->Hp->VK->Prop:=fun x lo hi H Q=>∃a xs,x=.ref a/\bf K H a xs/\∀p H',ba H H'->bf K H' p (jZ xs lo hi)->Q (.ref p) H'
end
section
def Sk{lo hi:Option Int}(ht:IsTup s.heap t items)(hs:s.heap.IsSliceOf sl vl vu .none)(pl:IsPart vl lo)(pu:IsPart vu hi)(h1:HT.aO items.size 0 lo=0)(h2:HT.aO items.size items.size hi=items.size)(h:Q (.ref t) s):wpAny (model prog w) A (getItem (.ref t) (.ref sl)) Q E s:=by
 obtain⟨ob,g1,g2,g3⟩:=id hs;have hT:s.TypeIs (.ref sl) "slice":=⟨ob,g1,g2⟩;unfold getItem;try with_reducible refine YT ?_
 first|refine Yb (Yd ?_)|skip
 refine Yb (IU ht.typeIs (by decide) ?_);have key:wpAny (model prog w) A.in1 (Builtin.«tuple.__getitem__» ⟨[.ref t,.ref sl],[]⟩) (fun fin s'=>∃v,fin=.done (.ret v)/\Q v s') E s:=by
  show wpAny _ _ (Builtin.Tuple.tupleItemsOf (.ref t)>>=_) _ _ s;refine Yb (PyProof.Rows.tupleItemsOf_ ht (Yb (p_ hT ?_)));rw[if_pos (by decide)];refine Yb (HT.bP hs pl pu ?_);rw[h1,h2];show wpAny _ _ (if((((0:Nat):Int)==0&&(1:Int)==1&&(items.size-0)==items.size))=true then _ else _) _ _ s;rw[if_pos (by simp)];refine Yb (Yb (p_ ht.typeIs (Yd ?_)));rw[if_pos (by decide)];exact Yb (qc (Yd ⟨_,rfl,h⟩))
 exact Yb (Y5 (name:=Str.ofString "__getitem__") ht.typeIs uC (YZ uC ht.typeIs PyProof.Rows.entry_tuple_getitem (YH key (fun fin s' ⟨v,e,q⟩=>⟨v,e,Yd q⟩) fun _ _ z=>z) (PyProof.Rows.args_tuple_getitem _ _)))
end
section
def Sl{lo hi:Option Int}(h1:HT.aO xs.length 0 lo=0)(h2:HT.aO xs.length xs.length hi=xs.length):jZ xs lo hi=xs:=by
 unfold jZ;rw[h1,h2,zT,Nat.sub_zero,Y4]
def Sm:uU X (Sj X.K):=by
 intro pins s σ H x v vl vu lo hi sl Q I rx hs pl pu h;obtain⟨a,xs,rfl,hx,q⟩:=h;by_cases hw:HT.aO xs.length 0 lo=0/\HT.aO xs.length xs.length hi=xs.length
 .cases rx;obtain⟨its,r,ht,hz⟩:=I.tuple hx;have hlen:its.toArray.size=xs.length:=by rw[Yq];exact r.length.symm
  refine⟨"tuple",_,uC.lookup,ht.typeIs,Sk ht hs pl pu (by rw[hlen];exact hw.1) (by rw[hlen];exact hw.2) ⟨.ref a,H,I,rfl,q a H (ba.refl _) ?_⟩⟩;rw[Sl hw.1 hw.2];exact hx
 .exact Q9 pins s σ H (.ref a) v vl vu lo hi sl Q I rx hs pl pu ⟨a,xs,rfl,hx,hw,fun p hp=>q p _ (ba.aA hp) (bf.of ZC)⟩
def AD(K:au):R2:=fun x y H Q=>match x,y with
 | .int i,.int j=>Q (.int (i+j)) H
 | .str i,.str j=>i.length+j.length<=sizeLine/\Q (.str (i++j)) H
 | .ref a,.ref b=>(∃xs zs,aV K H a xs/\aV K H b zs/\xs.length+zs.length<=sizeLine/\∀p,H p=none->Q (.ref p) (upd H p (.lst (xs++zs)))) \/
   (∃xs zs,bf K H a xs/\bf K H b zs/\xs.length+zs.length<=sizeLine/\∀p H',ba H H'->bf K H' p (xs++zs)->Q (.ref p) H')
 | _,_=>False
def f_:a9 X (binaryOp .Add) (AD X.K):=((Qu.or QK).or (R4.or Si)).imp fun x y H Q q=>by
 unfold AD at q
 split at q
 .exact .inl (.inl ⟨_,_,rfl,rfl,q⟩)
 .exact .inl (.inr ⟨_,_,rfl,rfl,q.1,q.2⟩)
 .rcases q with⟨xs,zs,h1,h2,h3,h4⟩|⟨xs,zs,h1,h2,h3,h4⟩
  .exact .inr (.inl ⟨_,_,xs,zs,rfl,rfl,h1,h2,h3,h4⟩)
  .exact .inr (.inr ⟨_,_,xs,zs,rfl,rfl,h1,h2,h3,h4⟩)
 .exact q.elim
def Sn(K:au)(h:X.K=K):a9 X (binaryOp .Add) (AD K):=h▸f_
def Em(K:au):V->Option Int->Option Int->Hp->VK->Prop:=fun x lo hi H Q=>match x with
 | .str z=>z.length<=sizeLine/\Q (.str (uZ z lo hi)) H
 | .ref a=>(∃xs,aV K H a xs/\∀p,H p=none->Q (.ref p) (upd H p (.lst (jZ xs lo hi))))\/(∃xs,bf K H a xs/\∀p H',ba H H'->bf K H' p (jZ xs lo hi)->Q (.ref p) H')
 | _=>False
def qp:uU X (Em X.K):=by
 intro pins s σ H x v vl vu lo hi sl Q I rx hs pl pu q;unfold Em at q;split at q
 .exact RT pins s σ H _ v vl vu lo hi sl Q I rx hs pl pu ⟨_,rfl,q.1,q.2⟩
 .rcases q with⟨xs,h1,h2⟩|⟨xs,h1,h2⟩
  .exact Ro pins s σ H _ v vl vu lo hi sl Q I rx hs pl pu ⟨_,xs,rfl,h1,h2⟩
  .exact Sm pins s σ H _ v vl vu lo hi sl Q I rx hs pl pu ⟨_,xs,rfl,h1,h2⟩
 .exact q.elim
end
section
open PySem.AutoSeq1 (wpAny_loadPart')
def So(t:Addr)(items:Array Value)(n:Nat)(dd:Option Addr)(sl:Array (Option Value)):
  Meets (Builtin.«enumerate.__new__» ⟨[.type "enumerate",.ref t],[]⟩) (fun _ R s=>s.heap.get? t=some { cls:=.type "tuple",dict:=dd,data:=.seq items n,slots:=sl } /\
   R (.ok (.ret (.ref (s.heap.push { cls:=.type "tuple_iterator",data:=.fields #[.ref t,.int 0 0] }).objs.size)))
    { s with heap:=(s.heap.push { cls:=.type "tuple_iterator",data:=.fields #[.ref t,.int 0 0] }).push { cls:=.type "enumerate",data:=.fields #[.none,.bool false,.ref s.heap.objs.size,rawInt 0,.none,.none] } }) :=
 .of_wp fun prog w A R s aF=>by
  obtain⟨g1,g2⟩:=aF
  obtain⟨hp,ge,dr,tk,os⟩:=s
  have es:=sub_enumerate
  have hL:Heap.IsTuple (Shared.heap ⟨hp,ge,dr,tk,os⟩) t items:=⟨_,g1,rfl,n,rfl⟩
  wp_walk using wj g1
  refine wpAny_stack_any fun st=>Yd ?_
  split
  .rename_i cc _ _ _ _ _
   cases(cc==Value.type "enumerate")<;>(wp_walk using wj g1,CJ hL;exact⟨_,rfl,g2⟩)
  .wp_walk using wj g1,CJ hL
   exact⟨_,rfl,g2⟩
end
section
def Sr(ht:s.heap.IsTuple t items)(h:∀h',IsEnum h' (s.heap.objs.size+1) s.heap.objs.size 0 .none->h'.IsTupleIter s.heap.objs.size t 0->(∀b o,s.heap.get? b=some o->h'.get? b=some o)->Q (.ref (s.heap.objs.size+1)) { s with heap:=h' }):
  wpAny (model prog w) A (call (.type "enumerate") [.ref t]) Q E s:=by
 obtain⟨⟨c,dd,dt,sl⟩,g1,k1,n,k2⟩:=ht;simp only at k1 k2;subst k1 k2;have e1:(s.heap.push { cls:=.type "tuple_iterator",data:=.fields #[.ref t,.int 0 0] }).objs.size=s.heap.objs.size+1:=YL ..;have e2:IsEnum ((s.heap.push { cls:=.type "tuple_iterator",data:=.fields #[.ref t,.int 0 0] }).push { cls:=.type "enumerate",data:=.fields #[.none,.bool false,.ref s.heap.objs.size,rawInt 0,.none,.none] }) (s.heap.objs.size+1) s.heap.objs.size 0 .none:=by
  rw[<- e1];exact Yl _ rfl
 refine callType_new F.called_enumerate (by decide) (F.typeCall_enumerate_1 _) (F.newCall_enumerate_1 _) (fun ob=>F.args_object_init_2 ob _) F.entry_enumerate_new (So t items n dd sl) ⟨g1,?_⟩;show _/\_;rw[e1];exact⟨⟨_,e2,rfl⟩,h _ e2 ⟨_,Ye _ (Yl _ rfl),rfl,rfl⟩ fun b o z=>Ye _ (Ye _ z)⟩
def Ss(st:s.heap.IsTupleIter it t i)(ht:s.heap.IsTuple t items)(hx:items[i]? = some x)(hQ:∀h',h'.IsTupleIter it t (i+1)->Heap.SameBut it s.heap h'->Q x { s with heap:=h' }):wpAny (model prog w) A (Builtin.SmallTypes.nextOf (.ref it)) Q E s:=by
 obtain⟨ob,g1,g2,g3⟩:=id st;obtain⟨ol,k1,k2,n,k3⟩:=ht;have no:¬((Value.ref t==Value.none)=true):=Yv;unfold Builtin.SmallTypes.nextOf;refine Yb (Y5 (name:=Str.ofString "__next__") st.typeIs zE (YZ zE st.typeIs Ij (show wpAny _ _ (field (.ref it) 0>>=_) _ _ s from Yb (Y9 g1 g3 (x:=.ref t) rfl (show wpAny _ _ (if(Value.ref t==Value.none)=true then _ else _) _ _ s from ?_))) (Ii _)));rw[if_neg no];refine(show wpAny _ _ (field (.ref it) 1>>=_) _ _ s from Yb (Y9 g1 g3 (x:=.int i 0) rfl (show wpAny _ _ (seqItems? (.ref t)>>=_) _ _ s from Yb (rB k1 k3 ?_))));simp only[hx,Int.toNat_natCast];refine Yb (wpAny_setField g1 g3 (by simp) (Yd ⟨x,rfl,Yd (hQ _ ⟨_,YB _ g1 (Obj.isFreed_of_fields (YX g3 _)),(Obj.cls_mapFields ..).trans g2,?_⟩ (lD ..))⟩));rw[YX g3];simp[rawInt]
def Su{i:Nat}{T1:Heap->Prop}(he:IsEnum s.heap e it i old)(aR:e≠it)(hk:∀ h h',T1 h->(∀ o,h.get? it=some o->h'.get? it=some o)->T1 h')(hn:∀ (A':Around) (E':Value->Shared->Prop) (Q':Value->Shared->Prop),(∀ h',T1 h'->Heap.SameBut it s.heap h'->Q' x { s with heap:=h' })->wpAny (model prog w) A' (Builtin.SmallTypes.nextOf (.ref it)) Q' E' s)(hQ : ∀ h',IsEnumOut h' e it ((i:Int) + 1) x s.heap.objs.size->T1 h'->h'.get? s.heap.objs.size=some { cls:=.type "tuple",data:=.seq #[.int i s.toks,x] } ->
   (∀b o,b≠e->b≠it->s.heap.get? b=some o->h'.get? b=some o)->Q (some (.ref s.heap.objs.size)) { s with heap:=h',toks:=s.toks+1 }):
  wpAny (model prog w) A (pyNext (.ref e)) Q E s:=by
 have hT:s.TypeIs (.ref e) "enumerate":=⟨_,he,rfl⟩;have lt:e<s.heap.objs.size:=Ym he;have core:wpAny (model prog w) A.in1 (Builtin.«enumerate.__next__» ⟨[.ref e],[]⟩) (fun fin s'=>∃v,fin=.done (.ret v)/\wpAny (model prog w) A (pure (some v)) Q E s') (fun _ _=>False) s:=by
  obtain⟨hp,ge,dr,tk,os⟩:=s;refine(show wpAny _ _ (field (.ref e) 2>>=_) _ _ _ from Yb (Y9 he rfl (x:=.ref it) rfl (Yb (hn _ _ _ fun h1 t1 b1=>?_))));have b1:Heap.SameBut it hp h1:=b1;have g1:IsEnum h1 e it i old:=(b1.2 e aR).trans he;refine(show wpAny _ _ (field (.ref e) 3>>=_) _ _ ⟨h1,ge,dr,tk,os⟩from Yb (Y9 g1 rfl (x:=rawInt i) rfl (show wpAny _ _ (field (.ref e) 4>>=_) _ _ ⟨h1,ge,dr,tk,os⟩from Yb (Y9 g1 rfl (x:=.none) rfl (show wpAny _ _ (mkInt i>>=_) _ _ ⟨h1,ge,dr,tk,os⟩from Yb (wpAny_mkInt (show wpAny _ _ (setField (.ref e) 3 (rawInt ((i:Int)+1))>>=_) _ _ ⟨h1,ge,dr,tk+1,os⟩from Yb (wo g1 (by simp) fun h2 g2 b2=>?_))))))));have b2:Heap.SameBut e h1 h2:=b2;have g2:IsEnum h2 e it ((i:Int)+1) old:=g2;refine(show wpAny _ _ (setField (.ref e) 4 .none>>=_) _ _ ⟨h2,ge,dr,tk+1,os⟩from Yb (wo g2 (by simp) fun h3 g3 b3=>?_));have b3:Heap.SameBut e h2 h3:=b3;have g3:IsEnum h3 e it ((i:Int)+1) old:=g3;have z3:h3.objs.size=hp.objs.size:=by rw[b3.1,b2.1,b1.1]
  refine(show wpAny _ _ (newTuple [.int i tk,x]>>=_) _ _ ⟨h3,ge,dr,tk+1,os⟩from Yb (wpAny_newTuple ?_));have g4:IsEnum (h3.push { cls:=.type "tuple",data:=.seq #[.int i tk,x] }) e it ((i:Int)+1) old:=Ye _ g3;have u4:(h3.push { cls:=.type "tuple",data:=.seq #[.int i tk,x] }).get? hp.objs.size=some { cls:=.type "tuple",data:=.seq #[.int i tk,x] }:=by
   rw[<- z3];exact Yl _ rfl
  have v4:∀b o,b≠e->b≠it->hp.get? b=some o->(h3.push { cls:=.type "tuple",data:=.seq #[.int i tk,x] }).get? b=some o:=fun b o q1 q2 q3=>Ye _ (b3.extBut b o q1 (b2.extBut b o q1 (b1.extBut b o q2 q3)));have w4:T1 (h3.push { cls:=.type "tuple",data:=.seq #[.int i tk,x] }):=hk h1 _ t1 fun o q=>Ye _ (b3.extBut it o (Ne.symm aR) (b2.extBut it o (Ne.symm aR) q));generalize h3.push { cls:=.type "tuple",data:=.seq #[.int i tk,x] }=h4 at g4 u4 v4 w4 ⊢;rw[z3];refine(show wpAny _ _ (Builtin.SmallTypes.ownedTupleIsFree (.ref e)>>=_) _ _ ⟨h4,ge,dr,tk+1,os⟩from Yb ?_);unfold Builtin.SmallTypes.ownedTupleIsFree;refine Yb (Y9 g4 rfl (x:=.none) rfl (Yd ?_));simp only[if_true];refine Yb (qc (Yb (Y9 g4 rfl (x:=old) rfl (Yb (wo g4 (by simp) fun h5 g5 b5=>?_)))));have b5:Heap.SameBut e h4 h5:=b5;have g5:IsEnum h5 e it ((i:Int)+1) x:=g5;refine(show wpAny _ _ (Builtin.SmallTypes.ownedTupleHandOut (.ref e) (.ref hp.objs.size)>>=_) _ _ ⟨h5,ge,dr,tk+1,os⟩from Yb ?_);unfold Builtin.SmallTypes.ownedTupleHandOut;refine Yb (wo g5 (by simp) fun h6 g6 b6=>?_);have b6:Heap.SameBut e h5 h6:=b6;have g6:IsEnumOut h6 e it ((i:Int)+1) x hp.objs.size:=g6;refine wo g6 (by simp) fun h7 g7 b7=>?_;have b7:Heap.SameBut e h6 h7:=b7;have g7:IsEnumOut h7 e it ((i:Int)+1) x hp.objs.size:=g7;have on:∀b o,b≠e->h4.get? b=some o->h7.get? b=some o:=fun b o q1 q2=>b7.extBut b o q1 (b6.extBut b o q1 (b5.extBut b o q1 q2));exact Yb (qb (Yd ⟨_,rfl,Yd (hQ h7 g7 (hk h4 h7 w4 fun o q=>on it o (Ne.symm aR) q) (on _ _ (jR lt) u4) fun b o q1 q2 q3=>on b o q1 (v4 b o q1 q2 q3))⟩))
 unfold pyNext;exact Yb (p9 (Y5 (name:=Str.ofString "__next__") hT zI (YZ zI hT Iy (YH core (fun fin s' ⟨v,q1,q2⟩=>⟨v,q1,q2⟩) fun _ _ z=>z.elim) (Iu _))))
end
section
def Sv(hh:A.handled=none)(st:s.heap.IsTupleIter it t i)(ht:s.heap.IsTuple t items)(hx:items[i]? = none)(hE:∀h' e,Heap.ExtBut it s.heap h'->(∃o,h'.get? e=some o/\o.cls=.type "StopIteration")->E (.ref e) { s with heap:=h' }):wpAny (model prog w) A (Builtin.SmallTypes.nextOf (.ref it)) Q E s:=by
 obtain⟨ob,g1,g2,g3⟩:=id st;obtain⟨ol,k1,k2,n,k3⟩:=ht;have no:¬((Value.ref t==Value.none)=true):=Yv;unfold Builtin.SmallTypes.nextOf;refine Yb (Y5 (name:=Str.ofString "__next__") st.typeIs zE (YZ zE st.typeIs Ij (show wpAny _ _ (field (.ref it) 0>>=_) _ _ s from Yb (Y9 g1 g3 (x:=.ref t) rfl (show wpAny _ _ (if(Value.ref t==Value.none)=true then _ else _) _ _ s from ?_))) (Ii _)));rw[if_neg no];refine(show wpAny _ _ (field (.ref it) 1>>=_) _ _ s from Yb (Y9 g1 g3 (x:=.int i 0) rfl (show wpAny _ _ (seqItems? (.ref t)>>=_) _ _ s from Yb (rB k1 k3 ?_))));simp only[hx,Int.toNat_natCast];refine Yb (qc (Yb (wpAny_setField g1 g3 (by simp) (show wpAny _ _ (newExc (.type "StopIteration") []>>=_) _ _ _ from Yb ?_))));simp only[newTuple,newExc];refine Yb (YR (Yb (m:=firstArgMember _ _) (wy (a:=Value.none) (by first|rfl|(simp only[firstArgMember];rfl)) (YR ?_ (by size_fits)))) (by size_fits));simp only[raiseNew];refine Yb (wpAny_handled ?_);first|rw[hh]|rw[show A.in1.handled=none from hh]
 exact Yb (Yd (wpAny_throw (hE _ _ (((lD ..).extBut.push _).push _) ⟨_,Yl _ rfl,rfl⟩)))
def Sw(he:IsEnum s.heap e it i old)(hn:∀(E':Value->Shared->Prop)(Q':Value->Shared->Prop),(∀h' x,Heap.ExtBut it s.heap h'->(∃o,h'.get? x=some o/\o.cls=.type "StopIteration")->E' (.ref x) { s with heap:=h' })->wpAny (model prog w) A.in1 (Builtin.SmallTypes.nextOf (.ref it)) Q' E' s)(hQ:∀h',Heap.ExtBut it s.heap h'->Q none { s with heap:=h' }):wpAny (model prog w) A (pyNext (.ref e)) Q E s:=by
 have hT:s.TypeIs (.ref e) "enumerate":=⟨_,he,rfl⟩;unfold pyNext;refine Yb (p9 (Y5 (name:=Str.ofString "__next__") hT zI (YZ zI hT Iy (show wpAny _ _ (field (.ref e) 2>>=_) _ _ _ from Yb (Y9 he rfl (x:=.ref it) rfl (Yb (hn _ _ fun h' x q1 q2=>?_)))) (Iu _))));obtain⟨o,ho,hc⟩:=q2;exact Yb (rn (T:="StopIteration") (b:=true) ⟨o,ho,hc⟩ isSubtype_stop (Yd (hQ _ q1)))
end
def xx(K:au)(a:Addr):It :=
 ⟨fun i H=>∃xs x,bf K H a xs/\xs[i]? = some x,
  fun i H v H'=>∃T x,v=.ref T/\H T=none/\H'=upd H T (.tup [.int i,x])/\(∀xs,bf K H a xs->xs[i]? = some x),
  fun i H=>∃xs,bf K H a xs/\xs.length<=i⟩
def Sx{K:au}(aR:e≠it):om P w K (.Tuple elts k0 pos) (xx K l) [e,it] e
  (fun i h=>(∃old,IsEnum h e it i old)/\h.IsTupleIter it l i) where
 mem:=by simp
 obj := fun i h st b hb=>by
  obtain⟨⟨old,he⟩,h1⟩:=st
  simp only[Yo,YG,eZ]at hb
  rcases hb with rfl|rfl
  .exact⟨_,he,fun v q=>nomatch q⟩
  .obtain⟨o,e,c,d⟩:=h1
   exact⟨o,e,fun v q=>by rw[d]at q;cases q⟩
 keep:=fun i h h' st k=>by
  obtain⟨⟨old,he⟩,h1⟩:=st
  exact⟨⟨old,k e (by simp) _ he⟩,h1.at fun o q=>k it (by simp) o q⟩
 item := by
  intro X hP hw hK hc i pins s σ H E I hf st hg;subst hP hw hK;obtain⟨⟨old,he⟩,h1⟩:=st;obtain⟨xs,x,hx,xr⟩:=hg;obtain⟨its,rv,p,_⟩:=I.tuple hx;obtain⟨u,hu,ru⟩:=rv.get xr;refine Su (x:=u) (T1:=fun h=>h.IsTupleIter it l (i+1)) he aR (fun h h' a b=>a.at b) (fun A' E' Q' q=>Ss h1 p (by simpa using hu) q) fun h' a1 a2 a3 hk=>⟨_,rfl,Il a1 fun qo xt sb=>?_⟩;have nz:s.heap.objs.size≠e:=jR (Ym he);have xu:IsTup qo s.heap.objs.size [Value.int i s.toks,u].toArray:=⟨_,sb.extBut _ _ nz a3,rfl,_,rfl⟩;have I':Inv X pins σ (upd H s.heap.objs.size (.tup [.int i,x])) { s with heap:=qo,toks:=s.toks+1 }:=I.f7 (ch:=[e,it]) hf (fun b o hb q=>by
   simp only[Yo,YG,eZ,not_or]at hb;exact sb.extBut _ _ hb.1 (hk b o hb.1 hb.2 q)) (Yj _) ⟨by show 2<=sizeLine;decide,[Value.int i s.toks,u],.cons ⟨_,rfl⟩ (.cons ru .nil),xu⟩
  have hn:H s.heap.objs.size=none:=I.aG.fresh (Yj _);refine⟨.ref s.heap.objs.size,_,I',rfl,⟨_,x,rfl,hn,rfl,fun zs j6=>by rw[I.fF j6 hx];exact xr⟩,⟨⟨_,by push_cast;exact xt⟩,a2.at fun o q=>sb.extBut it o (Ne.symm aR) q⟩,fun b hb=>?_⟩;have xv:=(hf b hb).1;have : b≠s.heap.objs.size:=by
   obtain⟨o,q⟩:∃o,s.heap.get? b=some o:=by
    simp only[Yo,YG,eZ]at hb;rcases hb with rfl|rfl
    .exact⟨_,he⟩
    .obtain⟨o,q,_⟩:=h1;exact⟨o,q⟩
   exact Yn (Ym q)
  rw[Zs this];exact xv
 done := by
  intro X hP hw hK hc i pins s σ H E I hf st hg;subst hP hw hK;obtain⟨⟨old,he⟩,h1⟩:=st;obtain⟨xs,hx,Ei⟩:=hg;obtain⟨its,rv,p,_⟩:=I.tuple hx;have hl:=rv.length;exact Sw he (fun E' Q' q=>Sv (show X.A.in1.handled=none from I.ok.hd hc) h1 p (by simp;lia) q) fun h' hk=>⟨rfl,I.f9 (t':=s.toks) (ch:=[e,it]) hf (fun b o hb q=>by
   simp only[Yo,YG,eZ,not_or]at hb;exact hk b o hb.2 q)⟩
 self:=fun _ _ _ _ _ st h=>by
  obtain⟨⟨old,he⟩,h1⟩:=st;exact zO he h
def En(K:au):List V->Hp->(It->Hp->Prop)->Prop:=fun vs H R=>match vs with
 | [.ref a]=>(∃xs,bf K H a xs)/\R (xx K a) H
 | _=>False
def Sy:typeLookup (.type "list_reverseiterator") "__len__"=pure none:=by rw[typeLookup_type,zH];kernel_rfl
def Sz:typeLookup (.type "list_reverseiterator") "__length_hint__"=pure (some (.builtin "list_reverseiterator.__length_hint__")):=by rw[typeLookup_type,zH];kernel_rfl
def SA{items acc:Array Value}(h:ItemsOf (fun i v=>items[items.size-1-i]? = some v) acc items.size):acc.toList=items.toList.reverse:=by
 obtain⟨h1,h2⟩:=h;apply CN;intro j;by_cases hj:j<items.size
 .have e:=h2 j (acc[j]'(by lia)) (q_ (by lia));rw[List.getElem?_reverse (by simpa using hj),nX,nX,Array.length_toList,e];exact q_ (by lia)
 .rw[Y1 (by rw[Array.length_toList];lia),Y1 (by rw[IG,Array.length_toList];lia)]
def SD:bootBuiltins "reversed"=some (.type "reversed"):=by decide +kernel
def KI(m:Moved wr (fun a b=>b=a) s s'):s'={ s with heap:=s'.heap,toks:=s'.toks }:=by
 have h1:=m.gens;have h2:=m.drawn;have h3:=m.os;cases s';simp only at h1 h2 h3;subst h1 h2 h3;rfl
section
def SE(hc:X.calm=true)(Eo:Gl X "reversed")(hm2:X.mg "reversed"=none)(he:PE X e te)(rN:starEach [e] X.env=[(false,eval e X.env)]){R:Addr->List V->Hp->Prop}(I:Inv X pins σ H s)(h:te σ H fun x H1=>∃a xs,x=.ref a/\aV X.K H1 a xs/\R a xs H1)(k:∀a xs H1 s1 its,Inv X pins σ H1 s1->aV X.K H1 a xs->Z3 xs its->s1.heap.IsList a its.toArray->xs.length<=sizeLine->R a xs H1->Q (.ref s1.heap.objs.size) { s1 with heap:=s1.heap.push (revObj a ((its.toArray.size:Int)-1)) }):
  wpAny (model X.prog X.w) X.A (eval (.Call (.Name "reversed" p2) [e] [] oM) X.env) Q X.xe s:=by
 refine kG (og I Eo hm2 SD (wg (T:="reversed") ?_ rN rfl) (by decide) (by decide));rw[rN];refine(show wpAny _ _ (spliced ((false,eval e X.env)::[])) _ _ s from CH (aM (he pins s σ H _ I h) fun v s1 ⟨x,H1,I1,r1,a,xs,e1,hx,q⟩=>CM ?_));subst e1;cases r1;obtain⟨its,rv,pl,hz⟩:=I1.list hx;exact call_reversed_list pl.isList (k a xs H1 s1 its I1 hx rv pl.isList hz q)
end
inductive Wr where
 | nothing
 | bead (c:Str)
 | side (b:Bool) (f:Wr)
 | pair (f g:Wr)
 | many (k:Nat) (ps:List Wr)
def cA:Nat->Str
 | 0=>"row"
 | 1=>"bag"
 | 2=>"choice"
 | _=>"ring"
def Ep:Bool->Str
 | true=>"right"
 | false=>"left"
def Wr.name:Wr->Str
 | .nothing=>"nothing"
 | .bead _=>"bead"
 | .side b _=>Ep b
 | .pair _ _=>"pair"
 | .many k _=>cA k
mutual
def Wr.bK:Wr->Nat
 | .nothing=>1
 | .bead _=>1
 | .side _ f=>1+f.bK
 | .pair f g=>1+(f.bK+(g.bK+0))
 | .many _ ps=>1+KJ ps
def KJ:List Wr->Nat
 | []=>0
 | w::ws=>w.bK+KJ ws
end
def oN(K:au)(H H':Hp):Prop:=∀a xs,bf K H a xs->bf K H' a xs
def oN.trans{K:au}(h:oN K H H1)(k:oN K H1 H2):oN K H H2:=fun a xs q=>k a xs (h a xs q)
def ba.bK{K:au}(e:ba H H'):oN K H H':=fun _ _ h=>e.sq h
def oN.lst{K:au}(h:H l=some (.lst ys)):oN K H (upd H l (.lst zs)):=fun a xs q=>by
 rcases q with(q|⟨o,q⟩)|q
 .refine .inl (.inl ?_)
  rw[Zs (kK q h (by intro z;cases z))];exact q
 .refine .inl (.inr ⟨o,?_⟩)
  rw[Zs (kK q h (by intro z;cases z))];exact q
 .exact .inr q
def tn(ps:List Wr)(i:Nat):Int:=((ps.map Wr.bK).getD i 0:Nat)
def KL(j:Int):∃c:Str,cm [V.str "red",V.str "ash",V.str "blue",V.str "redder"] (j % 4)=some (.str c)/\PyData.strOk c=true:=by
 have h:j % 4=0\/j % 4=1\/j % 4=2\/j % 4=3:=by lia
 rcases h with h|h|h|h<;>rw[h]
 .exact⟨"red",ZU (j:=0) rfl,by decide +kernel⟩
 .exact⟨"ash",ZU (j:=1) rfl,by decide +kernel⟩
 .exact⟨"blue",ZU (j:=2) rfl,by decide +kernel⟩
 .exact⟨"redder",ZU (j:=3) rfl,by decide +kernel⟩
section
open PySem.AutoSeq1 (wpAny_loadPart')
def SG(l:Addr)(items:Array Value)(n:Nat)(t:Addr)(more:Array Value)(m:Nat)(dd:Option Addr)(sl:Array (Option Value))(h1:¬(!items.isEmpty&&Builtin.List.listTooLong (items.size+more.size))=true)(h2:items.size<=sizeLine)(h3:(items++more).size<=sizeLine+1):
  Meets (Builtin.«list.extend» ⟨[.ref l,.ref t],[]⟩) (fun _ R s=>s.heap.get? l=some { cls:=.type "list",data:=.seq items n } /\
   s.heap.get? t=some { cls:=.type "tuple",dict:=dd,data:=.seq more m,slots:=sl }/\R (.ok (.ret .none)) { s with heap:=s.heap.update l (Obj.mapSeq fun x=>x++more) }) :=
 .of_wp fun prog w A R s aF=>by
  obtain⟨g1,g2,q⟩:=aF
  obtain⟨hp,ge,dr,tk,os⟩:=s
  have a1:=PySem.AutoSeq1.idx_int
  have a2:=PySem.AutoSeq1.sub_tuple_tuple
  have a3:=PySem.AutoSeq1.sub_list_list
  have a4:=PySem.AutoSeq1.sub_tuple_list
  have a5:=PySem.AutoSeq1.sub_list_tuple
  wp_walk using(m7 g1 rfl (hz:=h2) (_hz':=h3)),wj g1,wj g2
  exact⟨_,rfl,q⟩
end
section
def Er(K:au):V->List V->Hp->VK->Prop:=fun x vs H Q=>∃l b xs zs,x=.ref l/\vs=[.ref b]/\H l=some (.lst xs)/\bf K H b zs/\xs.length+zs.length<=sizeLine/\Q .ay (upd H l (.lst (xs++zs)))
def SH:wW X "list.extend" (Er X.K):=by
 intro pins s σ H x vs v us Q I rx rv h;obtain⟨l,b,xs,zs,rfl,rfl,hH,hB,hz,q⟩:=h;cases rx;obtain⟨u,rfl,ru⟩:=rv.one;cases ru;obtain⟨z,its,n,r,hl,e⟩:=I.ei hH;obtain⟨cY,r2,⟨⟨c,dd,dt,sl⟩,e2,k1,m,k2⟩,z2⟩:=I.tuple hB;simp only at k1 k2;subst k1 k2;have cZ:=r2.length;have hsz:its.toArray.size+cY.toArray.size<=sizeLine:=by simp only[Yq];lia
 refine rC IP ⟨_,e,rfl⟩ IE (IC _ _) (SG l its.toArray n b cY.toArray m dd sl (by rw[DC hsz,CT];decide) (by lia) (by rw[Array.size_append];lia)) ⟨e,e2,?_⟩;refine⟨.ay,_,I.oH (its':=its++cY) (t':=s.toks) hH e (by simp) (r.append r2) ?_,rfl,q⟩;simp only[Yt];lia
end
open PySem PySem.Spec PyProof.Rows PySem.MeetsSeq
open PySem.AutoSeq1 (wpAny_loadPart')
section
def u_(z:Str):Value->Bool
 | .str s _=>s.cps.toList==z.cps.toList
 | _=>false
def Es{ss:List Str}(r:Z3 (ss.map V.str) its){i:Nat}(hu:its[i]? = some u):∃s t,ss[i]? = some s/\u=.str s t:=by
 have hl:=r.length;rw[Yc]at hl;have hi:i<its.length:=(Yh.mp hu).1;obtain⟨v,hv,rv⟩:=r.get (i:=i) (x:=V.str (ss[i]'(by lia))) (by rw[Yi,Yg (by lia)];rfl);rw[hu]at hv;cases hv;obtain⟨t,rfl⟩:=rv;exact⟨_,t,Yg (by lia),rfl⟩
def SJ{ss:List Str}(r:Z3 (ss.map V.str) its)(hj:ss[j]? = some z)(iU:∀m,m<j->ss[m]?≠some z):
  (∀y,y∈its.toArray->EqGives y (.str z t) (u_ z y))/\∃h:j<its.toArray.size,u_ z (its.toArray[j])=true/\∀m (hm:m<its.toArray.size),m<j->u_ z (its.toArray[m])=false:=by
 have hl:=r.length;rw[Yc]at hl;refine⟨fun y hy=>?_,?_⟩
 .obtain⟨i,hi⟩:=IA.mp (show y∈its by simpa using hy);obtain⟨s,u,_,rfl⟩:=Es r hi;exact SeqRoads2.EqGives.str s z u t
 .have h0:j<ss.length:=(Yh.mp hj).1;refine⟨by rw[Yq];lia,?_,fun m hm h=>?_⟩
  .obtain⟨s,u,h1,h2⟩:=Es r (i:=j) (u:=its[j]'(by lia)) (Yg (by lia));rw[hj]at h1;cases h1;show u_ z (its[j]'(by lia))=true;rw[h2];show(z.cps.toList==z.cps.toList)=true;simp
  .rw[Yq]at hm;obtain⟨s,u,h1,h2⟩:=Es r (i:=m) (u:=its[m]) (Yg hm);show u_ z its[m]=false;rw[h2];show(s.cps.toList==z.cps.toList)=false;refine Yw.mpr fun e=>iU m h ?_;have:s=z:=by
    cases s;cases z;simp only at e;rw[zQ.mp e]
   rw[h1,this]
def KN(T:V->List Str->Hp->Prop):V->List V->Hp->VK->Prop:=fun x vs H Q=>∃(ss:List Str)(z:Str)(j:Nat),T x ss H/\vs=[.str z]/\ss[j]? = some z/\(∀m,m<j->ss[m]?≠some z)/\Q (.int j) H
def SK:Ah X "list.index" (KN fun x ss H=>∃a,x=.ref a/\H a=some (.lst (ss.map V.str))):=by
 intro pins s σ H x vs v us Q I rx rv h;obtain⟨ss,z,j,⟨a,rfl,hH⟩,rfl,hj,iU,q⟩:=h;cases rx;obtain⟨u,rfl,ru⟩:=rv.one;obtain⟨t,rfl⟩:=ru;obtain⟨zz,its,n,r,hl,e⟩:=I.ei hH;obtain⟨h1,h2,h3,h4⟩:=SJ (t:=t) r hj iU;have nj:j<sizeLine:=by rw[Yq,<- hl]at h2;lia
 have big:(sizeLine:Int)<2^63-1:=by decide
 exact rC F.slot_list_index ⟨_,e,rfl⟩ F.entry_list_index (F.args_list_index_2 _ _) (MeetsSeq.list_index a its.toArray n (.str z t) (u_ z) h1 j h2 (by lia) h3 h4) ⟨e,.int j,H,I.tok _,⟨_,rfl⟩,q⟩
end
inductive U where
 | ay|bl (b:Bool)|int (i:Int)|str (x:Str)|ty (n:String)|tup (xs:List U)|bI (xs:List U)|ref (a:Addr)
def sx(K:au)(H:Hp)(a:Addr)(xs:List V):Prop:=(∃o,H a=some (.gP o (.lst xs))) \/
  ∃(o:Obj)(its:Array Value)(n:Nat),K.lookup a=some o/\o.cls=.type "list"/\o.dict=none/\o.data=.seq its n/\its.size<=sizeLine/\Z3 xs its.toList
def sx.sq{K:au}(h:sx K H a xs):aV K H a xs:=by
 rcases h with h|h
 .exact .inl (.inr h)
 .exact .inr h
structure Kp (K:au) (H H':Hp):Prop where
 t : oN K H H'
 r : ∀a xs,sx K H a xs->sx K H' a xs
 f : ∀a o u,H a=some (.gP o u)->H' a=some (.gP o u)
def Kp.refl{K:au}(H:Hp):Kp K H H:=⟨fun _ _ h=>h,fun _ _ h=>h,fun _ _ _ h=>h⟩
def Kp.trans{K:au}(h:Kp K H H1)(k:Kp K H1 H2):Kp K H H2:=⟨h.t.trans k.t,fun a xs q=>k.r a xs (h.r a xs q),fun a o u q=>k.f a o u (h.f a o u q)⟩
def ba.kp{K:au}(e:ba H H'):Kp K H H':=⟨e.bK,fun a xs q=>by
 rcases q with⟨o,q⟩|q
 .exact .inl ⟨o,e _ _ q⟩
 .exact .inr q,fun a o u q=>e _ _ q⟩
def Kp.lst{K:au}(h:H l=some (.lst ys)):Kp K H (upd H l (.lst zs)):=⟨oN.lst h,fun a xs q=>by
 rcases q with⟨o,q⟩|q
 .exact .inl ⟨o,by rw[Zs (kK q h (by intro z;cases z))];exact q⟩
 .exact .inr q,fun a o u q=>by rw[Zs (kK q h (by intro z;cases z))];exact q⟩
def Kp.ins{K:au}(h:H l=some (.ins C dx fs)):Kp K H (upd H l o'):=⟨fun a xs q=>by
 rcases q with(q|⟨o,q⟩)|q
 .exact .inl (.inl (by rw[Zs (kK q h (by intro z;cases z))];exact q))
 .exact .inl (.inr ⟨o,by rw[Zs (kK q h (by intro z;cases z))];exact q⟩)
 .exact .inr q,fun a xs q=>by
 rcases q with⟨o,q⟩|q
 .exact .inl ⟨o,by rw[Zs (kK q h (by intro z;cases z))];exact q⟩
 .exact .inr q,fun a o u q=>by rw[Zs (kK q h (by intro z;cases z))];exact q⟩
mutual
inductive RU (K:au) (H:Hp):U->V->Prop
 | ay:RU K H .ay .ay
 | bl (b:Bool):RU K H (.bl b) (.bl b)
 | int (i:Int):RU K H (.int i) (.int i)
 | str (x:Str):RU K H (.str x) (.str x)
 | ty (n:String):RU K H (.ty n) (.ty n)
 | ref (a:Addr):RU K H (.ref a) (.ref a)
 | tup {a:Addr} {vs:List V} {us:List U}:bf K H a vs->aK K H us vs->RU K H (.tup us) (.ref a)
 | bI {a:Addr} {vs:List V} {us:List U}:sx K H a vs->aK K H us vs->RU K H (.bI us) (.ref a)
inductive aK (K:au) (H:Hp):List U->List V->Prop
 | nil:aK K H [] []
 | cons {u:U} {v:V} {us:List U} {vs:List V}:RU K H u v->aK K H us vs->aK K H (u::us) (v::vs)
end
section
variable{K:au}
mutual
theorem RU.same (e:Kp K H H'):∀ {u:U} {v:V},RU K H u v->RU K H' u v
 | _,_,.ay=>.ay
 | _,_,.bl b=>.bl b
 | _,_,.int i=>.int i
 | _,_,.str x=>.str x
 | _,_,.ty n=>.ty n
 | _,_,.ref a=>.ref a
 | _,_,.tup h r=>.tup (e.t _ _ h) (aK.same e r)
 | _,_,.bI h r=>.bI (e.r _ _ h) (aK.same e r)
theorem aK.same (e:Kp K H H'):∀ {us:List U} {vs:List V},aK K H us vs->aK K H' us vs
 | _,_,.nil=>.nil
 | _,_,.cons h r=>.cons (RU.same e h) (aK.same e r)
end
def aK.length:∀ {us:List U} {vs:List V},aK K H us vs->us.length=vs.length
 | _,_,.nil=>rfl
 | _,_,.cons _ r=>by rw[List.length_cons,List.length_cons,r.length]
def aK.app:∀ {us ws:List U} {vs xs:List V},aK K H us vs->aK K H ws xs->aK K H (us++ws) (vs++xs)
 | _,_,_,_,.nil,s=>s
 | _,_,_,_,.cons h r,s=>.cons h (aK.app r s)
def aK.one(h:RU K H u v):aK K H [u] [v]:=.cons h .nil
def aK.get':∀ {us:List U} {vs:List V} {i:Nat} {u:U},aK K H us vs->us[i]? = some u->∃v,vs[i]? = some v/\RU K H u v
 | _,_,_,_,.nil,e=>by simp at e
 | _,_,0,_,.cons h _,e=>by simp at e;subst e;exact⟨_,rfl,h⟩
 | _,_,i+1,_,.cons _ r,e=>by simp at e;simpa using aK.get' r e
def aK.take:∀ {us:List U} {vs:List V} (n:Nat),aK K H us vs->aK K H (us.take n) (vs.take n)
 | _,_,0,_=>.nil
 | _,_,_+1,.nil=>.nil
 | _,_,n+1,.cons r t=>.cons r (aK.take n t)
def aK.drop:∀ {us:List U} {vs:List V} (n:Nat),aK K H us vs->aK K H (us.drop n) (vs.drop n)
 | _,_,0,r=>r
 | _,_,_+1,.nil=>.nil
 | _,_,n+1,.cons _ t=>aK.drop n t
def aK.rev(h:aK K H us vs):aK K H us.reverse vs.reverse:=by
 induction us generalizing vs with
 | nil=>cases h;exact .nil
 | cons w ws ih =>
  cases h with
  | cons h r=>rw[zN,zN];exact(ih r).app (.one h)
def aK.dropLast(h:aK K H us vs):aK K H us.dropLast vs.dropLast:=by
 rw[IB,IB,h.length];exact h.take _
theorem aK.set(h:RU K H u v):∀ {us:List U} {vs:List V} (i:Nat),aK K H us vs->aK K H (us.set i u) (vs.set i v)
 | _,_,_,.nil=>.nil
 | _,_,0,.cons _ t=>.cons h t
 | _,_,i+1,.cons q t=>.cons q (aK.set h i t)
def aK.ints:∀ {ns:List Int} {vs:List V},aK K H (ns.map U.int) vs->vs=ns.map V.int
 | [],_,.nil=>rfl
 | n::ns,_,.cons h r=>by cases h;rw[Yr,aK.ints r]
def aK.KO:∀ {ns:List Bool} {vs:List V},aK K H (ns.map U.bl) vs->vs=ns.map V.bl
 | [],_,.nil=>rfl
 | n::ns,_,.cons h r=>by cases h;rw[Yr,aK.KO r]
def aK.strs:∀ {ns:List Str} {vs:List V},aK K H (ns.map U.str) vs->vs=ns.map V.str
 | [],_,.nil=>rfl
 | n::ns,_,.cons h r=>by cases h;rw[Yr,aK.strs r]
def aK.c5:∀ {ns:List Str},aK K H (ns.map U.str) (ns.map V.str)
 | []=>.nil
 | n::ns=>.cons (.str n) aK.c5
def aK.jw:∀ {ns:List Int},aK K H (ns.map U.int) (ns.map V.int)
 | []=>.nil
 | n::ns=>.cons (.int n) aK.jw
end
inductive AO where
 | lst (us:List U)|ins (C dx:Addr) (fs:List (Str×U))|cJ (φ:au->Hp->Addr->Prop)
abbrev az:=Addr->Option AO
def af(A:az)(a:Addr)(o:AO):az:=fun b=>if b=a then some o else A b
def Zd:af A a o a=some o:=by unfold af;rw[if_pos rfl]
def Zn(h:b≠a):af A a o b=A b:=by unfold af;rw[if_neg h]
def ZP:af (af A a o) a u=af A a u:=by funext b;unfold af;split<;>rfl
def cj(K:au)(H:Hp)(fs:List (Str×U))(gs:List (Str×V)):Prop:=fs.map (·.1)=gs.map (·.1)/\aK K H (fs.map (·.2)) (gs.map (·.2))
def RO(K:au)(H:Hp)(a:Addr):AO->Prop
 | .lst us=>∃vs,H a=some (.lst vs)/\aK K H us vs
 | .ins C dx fs=>∃gs,H a=some (.ins C dx gs)/\cj K H fs gs
 | .cJ φ=>(∃o,H a=some o)/\φ K H a/\∀H1 H2,φ K H1 a->Kp K H1 H2->H2 a=H1 a->φ K H2 a
def HR(K:au)(H:Hp)(A:az):Prop:=∀a o,A a=some o->RO K H a o
section
variable{K:au}
def RO.keep(t:Kp K H H')(e:H' b=H b)(h:RO K H b o):RO K H' b o:=by
 cases o with
 | lst us=>obtain⟨vs,h1,h2⟩:=h;exact⟨vs,by rw[e];exact h1,h2.same t⟩
 | ins C dx fs=>obtain⟨gs,h1,h2,h3⟩:=h;exact⟨gs,by rw[e];exact h1,h2,h3.same t⟩
 | cJ φ=>obtain⟨h0,h1,h2⟩:=h;exact⟨by rw[e];exact h0,h2 _ _ h1 t e,h2⟩
def HR.grow(t:ba H H')(h:HR K H A):HR K H' A:=fun a o e=>by
 have q:=h a o e
 cases o with
 | lst us=>obtain⟨vs,h1,h2⟩:=q;exact⟨vs,t _ _ h1,h2.same t.kp⟩
 | ins C dx fs=>obtain⟨gs,h1,h2,h3⟩:=q;exact⟨gs,t _ _ h1,h2,h3.same t.kp⟩
 | cJ φ=>obtain⟨⟨o,h0⟩,h1,h2⟩:=q;exact⟨⟨o,t _ _ h0⟩,h2 _ _ h1 t.kp (by rw[h0];exact t _ _ h0),h2⟩
def HR.none(h:HR K H A)(e:H a=none):A a=none:=by
 cases q:A a with
 | none=>rfl
 | some o =>
  have:=h a o q;cases o with
  | lst us=>obtain⟨vs,h1,_⟩:=this;rw[e]at h1;cases h1
  | ins C dx fs=>obtain⟨vs,h1,_⟩:=this;rw[e]at h1;cases h1
  | cJ φ=>obtain⟨⟨_,h1⟩,_⟩:=this;rw[e]at h1;cases h1
def HR.en(h:HR K H A)(e:H a=Option.none)(r:aK K H us vs):HR K (upd H a (.lst vs)) (af A a (.lst us)):=fun b o q=>by
 have s:=ba.aA (o:=.lst vs) e
 by_cases hb:b=a
 .subst hb
  rw[Zd]at q
  cases q
  exact⟨vs,ZC,r.same s.kp⟩
 .rw[Zn hb]at q
  exact(h b o q).keep s.kp (Zs hb)
def HR.j7(h:HR K H A)(e:H a=some (.lst xs))(r:aK K H us vs):HR K (upd H a (.lst vs)) (af A a (.lst us)):=fun b o q=>by
 have s:Kp K H (upd H a (.lst vs)):=Kp.lst e
 by_cases hb:b=a
 .subst hb
  rw[Zd]at q
  cases q
  exact⟨vs,ZC,r.same s⟩
 .rw[Zn hb]at q
  exact(h b o q).keep s (Zs hb)
def HR.list(h:HR K H A)(e:A a=some (.lst us)):∃vs,H a=some (.lst vs)/\aK K H us vs:=h a _ e
end
abbrev a8:=List (Option U)
inductive aX (K:au) (H:Hp):a8->St->Prop
 | nil:aX K H [] []
 | skip {x:Option V} {ρ:a8} {σ:St}:aX K H ρ σ->aX K H (none::ρ) (x::σ)
 | cons {u:U} {v:V} {ρ:a8} {σ:St}:RU K H u v->aX K H ρ σ->aX K H (some u::ρ) (some v::σ)
section
variable{K:au}
theorem aX.same(e:Kp K H H'):∀ {ρ:a8} {σ:St},aX K H ρ σ->aX K H' ρ σ
 | _,_,.nil=>.nil
 | _,_,.skip r=>.skip (aX.same e r)
 | _,_,.cons h r=>.cons (h.same e) (aX.same e r)
def KP:Nat->a8->(U->Prop)->Prop
 | 0, ρ,k=>match ρ with
  | some u::_=>k u
  | _=>False
 | i+1,ρ,k=>match ρ with
  | _::ρ=>KP i ρ k
  | []=>False
def xy(ρ:a8)(i:Nat)(k:U->Prop):Prop:=KP i ρ k
def aX.get:∀ {ρ:a8} {σ:St} {i:Nat} {k:U->Prop},aX K H ρ σ->xy ρ i k->∃u v,σ[i]? = some (some v)/\RU K H u v/\k u
 | _,_,0,_,.nil,h=>h.elim
 | _,_,_+1,_,.nil,h=>h.elim
 | _,_,0,_,.skip _,h=>h.elim
 | _,_,i+1,_,.skip r,h=>by simpa using aX.get r h
 | _,_,0,_,.cons q _,h=>⟨_,_,rfl,q,h⟩
 | _,_,i+1,_,.cons _ r,h=>by simpa using aX.get r h
theorem aX.set(q:RU K H u v):∀ {ρ:a8} {σ:St} (i:Nat),aX K H ρ σ->aX K H (ρ.set i (some u)) (σ.set i (some v))
 | _,_,_,.nil=>.nil
 | _,_,0,.skip r=>.cons q r
 | _,_,i+1,.skip r=>.skip (aX.set q i r)
 | _,_,0,.cons _ r=>.cons q r
 | _,_,i+1,.cons h r=>.cons h (aX.set q i r)
end
abbrev bH:=U->az->Prop
abbrev AE:=a8->az->bH->Prop
abbrev AT:=a8->az->(Bool->az->Prop)->Prop
abbrev AA:=a8->az->(List U->az->Prop)->Prop
abbrev xA:=a8->az->(Option Int->az->Prop)->Prop
structure oO where
 nx:a8->az->Prop
 rt:bH
 bk:a8->az->Prop:=fun _ _=>False
 ct:a8->az->Prop:=fun _ _=>False
abbrev AS:=oO->a8->az->Prop
abbrev kS(K:au)(H:Hp)(Q':bH)(Q:VK):Prop:=∀u A' v H',Kp K H H'->HR K H' A'->RU K H' u v->Q' u A'->Q v H'
def aY(K:au)(te:TE)(ae:AE):Prop:=∀ρ A σ H Q' Q,aX K H ρ σ->HR K H A->ae ρ A Q'->kS K H Q' Q->te σ H Q
def hU(K:au)(te:TT)(ae:AT):Prop:=∀ρ A σ H (Q':Bool->az->Prop) (Q:Bool->Hp->Prop),aX K H ρ σ->HR K H A->ae ρ A Q'->(∀b A' H',Kp K H H'->HR K H' A'->Q' b A'->Q b H')->te σ H Q
def fH(K:au)(te:TA)(ae:AA):Prop:=∀ρ A σ H (Q':List U->az->Prop) (Q:List V->Hp->Prop),aX K H ρ σ->HR K H A->ae ρ A Q'->(∀us A' vs H',Kp K H H'->HR K H' A'->aK K H' us vs->Q' us A'->Q vs H')->te σ H Q
def AF(K:au)(te:TO)(ae:xA):Prop:=∀ρ A σ H (Q':Option Int->az->Prop) (Q:Option Int->Hp->Prop),aX K H ρ σ->HR K H A->ae ρ A Q'->(∀b A' H',Kp K H H'->HR K H' A'->Q' b A'->Q b H')->te σ H Q
structure oP (K:au) (H:Hp) (D':oO) (D:kM):Prop where
 nx:∀ρ A σ H',Kp K H H'->HR K H' A->aX K H' ρ σ->D'.nx ρ A->D.nx σ H'
 rt:kS K H D'.rt D.rt
 bk:∀ρ A σ H',Kp K H H'->HR K H' A->aX K H' ρ σ->D'.bk ρ A->D.bk σ H'
 ct:∀ρ A σ H',Kp K H H'->HR K H' A->aX K H' ρ σ->D'.ct ρ A->D.ct σ H'
def oP.same{K:au}(h:oP K H D' D)(k:Kp K H H1):oP K H1 D' D :=
 ⟨fun ρ A σ H' q=>h.nx ρ A σ H' (k.trans q),fun u A v H' q=>h.rt u A v H' (k.trans q),fun ρ A σ H' q=>h.bk ρ A σ H' (k.trans q),fun ρ A σ H' q=>h.ct ρ A σ H' (k.trans q)⟩
def c6(K:au)(ts:TS)(as:AS):Prop:=∀ρ A σ H D' D,aX K H ρ σ->HR K H A->as D' ρ A->oP K H D' D->ts D σ H
section
variable{K:au}
def mh(i:Nat):AE:=fun ρ A Q=>xy ρ i fun u=>Q u A
def Zb:aY K (m_ i) (mh i):=fun ρ A σ H Q' Q hr hh h k=>by
 obtain⟨u,v,e,r,q⟩:=hr.get h
 exact⟨v,e,k u A v H (.refl H) hh r q⟩
def aC(u:U):AE:=fun _ A Q=>Q u A
def va(h:∀H,RU K H u v):aY K (tC v) (aC u):=fun ρ A σ H Q' Q hr hh q k=>k u A v H (.refl H) hh (h H) q
def Zm:aY K (tC (.int i)) (aC (.int i)):=va fun _=>.int i
def Zy:aY K (tC (.str i)) (aC (.str i)):=va fun _=>.str i
def qq:aY K (tC (.bl i)) (aC (.bl i)):=va fun _=>.bl i
def oQ:aY K (tC .ay) (aC .ay):=va fun _=>.ay
def Et:aY K (tC (.ty n)) (aC (.ty n)):=va fun _=>.ty n
def hX:aY K (tC (.ref a)) (aC (.ref a)):=va fun _=>.ref a
abbrev fJ:=U->U->az->bH->Prop
def et(K:au)(r:R2)(ar:fJ):Prop:=∀x y u w A H Q' Q,RU K H u x->RU K H w y->HR K H A->ar u w A Q'->kS K H Q' Q->r x y H Q
def xB(ar:fJ)(a b:AE):AE:=fun ρ A Q=>a ρ A fun x A1=>b ρ A1 fun y A2=>ar x y A2 Q
def Zj(hr:et K r ar)(ha:aY K ta aa)(hb:aY K tb ab):aY K (wK r ta tb) (xB ar aa ab):=fun ρ A σ H Q' Q hs hh h k =>
 ha ρ A σ H _ _ hs hh h fun x A1 v H1 k1 h1 r1 q1=>hb ρ A1 σ H1 _ _ (hs.same k1) h1 q1 fun y A2 v2 H2 k2 h2 r2 q2=>hr _ _ _ _ _ _ _ _ (r1.same k2) r2 h2 q2 fun z A3 v3 H3 k3 h3 r3 q3=>k _ _ _ _ (k1.trans (k2.trans k3)) h3 r3 q3
def aB(a:AE):AT:=fun ρ A Q=>a ρ A fun x A1=>∃c,x=.bl c/\Q c A1
def iN(ha:aY K ta aa):hU K (tB ta) (aB aa):=fun ρ A σ H Q' Q hs hh h k =>
 ha ρ A σ H _ _ hs hh h fun x A1 v H1 k1 h1 r1 aF=>by obtain⟨c,e,q1⟩:=aF;subst e;cases r1;exact⟨c,rfl,k c A1 H1 k1 h1 q1⟩
def Zp(ha:aY K ta aa):hU K (JB ta) (aB aa):=iN ha
def KQ(t u:AT):AT:=fun ρ A Q=>t ρ A fun c A1=>if c=true then u ρ A1 Q else Q false A1
def KR(t u:AT):AT:=fun ρ A Q=>t ρ A fun c A1=>if c=true then Q true A1 else u ρ A1 Q
def KS(t:AT):AT:=fun ρ A Q=>t ρ A fun c A1=>Q (!c) A1
def oR(ha:hU K t a)(hb:hU K u b):hU K (Jg t u) (KQ a b):=fun ρ A σ H Q' Q hs hh h k =>
 ha ρ A σ H _ _ hs hh h fun c A1 H1 k1 h1 q1=>by
  cases c
  .exact jv (by decide) (k _ _ _ k1 h1 (by simpa using q1))
  .exact gH rfl (hb ρ A1 σ H1 _ _ (hs.same k1) h1 (by simpa using q1) fun c A2 H2 k2 h2 q2=>k _ _ _ (k1.trans k2) h2 q2)
def vb(ha:hU K t a)(hb:hU K u b):hU K (Jh t u) (KR a b):=fun ρ A σ H Q' Q hs hh h k =>
 ha ρ A σ H _ _ hs hh h fun c A1 H1 k1 h1 q1=>by
  cases c
  .exact jv (by decide) (hb ρ A1 σ H1 _ _ (hs.same k1) h1 (by simpa using q1) fun c A2 H2 k2 h2 q2=>k _ _ _ (k1.trans k2) h2 q2)
  .exact gH rfl (k _ _ _ k1 h1 (by simpa using q1))
def Eu(ha:hU K t a):hU K (Ji t) (KS a):=fun ρ A σ H Q' Q hs hh h k=>ha ρ A σ H _ _ hs hh h fun c A1 H1 k1 h1 q1=>k _ _ _ k1 h1 q1
def KU(a b:AE):AE:=fun ρ A Q=>a ρ A fun x A1=>∃c,x=.bl c/\if c=true then b ρ A1 Q else Q (.bl false) A1
def KW(a b:AE):AE:=fun ρ A Q=>a ρ A fun x A1=>∃c,x=.bl c/\if c=true then Q (.bl true) A1 else b ρ A1 Q
def Ew(ha:aY K t a)(hb:aY K u b):aY K (Jj t u) (KU a b):=fun ρ A σ H Q' Q hs hh h k =>
 ha ρ A σ H _ _ hs hh h fun x A1 v H1 k1 h1 r1 aF=>by
  obtain⟨c,e,q1⟩:=aF
  subst e;cases r1
  refine⟨c,rfl,?_⟩
  cases c
  .exact jv (by decide) (k _ _ _ _ k1 h1 (.bl _) (by simpa using q1))
  .exact gH rfl (hb ρ A1 σ H1 _ _ (hs.same k1) h1 (by simpa using q1) fun z A2 v2 H2 k2 h2 r2 q2=>k _ _ _ _ (k1.trans k2) h2 r2 q2)
def SM(ha:aY K t a)(hb:aY K u b):aY K (Jk t u) (KW a b):=fun ρ A σ H Q' Q hs hh h k =>
 ha ρ A σ H _ _ hs hh h fun x A1 v H1 k1 h1 r1 aF=>by
  obtain⟨c,e,q1⟩:=aF
  subst e;cases r1
  refine⟨c,rfl,?_⟩
  cases c
  .exact jv (by decide) (hb ρ A1 σ H1 _ _ (hs.same k1) h1 (by simpa using q1) fun z A2 v2 H2 k2 h2 r2 q2=>k _ _ _ _ (k1.trans k2) h2 r2 q2)
  .exact gH rfl (k _ _ _ _ k1 h1 (.bl _) (by simpa using q1))
def sy:AT:=fun _ A Q=>Q true A
def kT:hU K Ko sy:=fun ρ A σ H Q' Q hs hh h k=>k _ _ _ (.refl H) hh h
def vc:AA:=fun _ A Q=>Q [] A
def Ze:fH K oy vc:=fun ρ A σ H Q' Q hs hh h k=>k _ _ _ _ (.refl H) hh .nil h
def qt(a:AE)(l:AA):AA:=fun ρ A Q=>a ρ A fun x A1=>l ρ A1 fun xs A2=>Q (x::xs) A2
def Zc(ha:aY K ta a)(hl:fH K tl l):fH K (oz ta tl) (qt a l):=fun ρ A σ H Q' Q hs hh h k =>
 ha ρ A σ H _ _ hs hh h fun x A1 v H1 k1 g1 r1 q1=>hl ρ A1 σ H1 _ _ (hs.same k1) g1 q1 fun xs A2 vs H2 k2 g2 r2 q2=>k _ _ _ _ (k1.trans k2) g2 (.cons (r1.same k2) r2) q2
def Ex(us:List U):AA:=fun _ A L=>L us A
def sA{xs:List Str}:fH K (Ky (xs.map V.str)) (Ex (xs.map U.str)):=fun ρ A σ H Q' Q hs hh h k=>k _ _ _ _ (.refl H) hh aK.c5 h
def AH(l:AA):AE:=fun ρ A Q=>l ρ A fun xs A1=>xs.length<=sizeLine/\Q (.tup xs) A1
def ZI(hl:fH K tl l):aY K (JM tl) (AH l):=fun ρ A σ H Q' Q hs hh h k =>
 hl ρ A σ H _ _ hs hh h fun xs A1 vs H1 k1 g1 r1 ⟨hz,q1⟩=>⟨by rw[<- r1.length];exact hz,fun p hp=>by
  have s:=ba.aA (o:=.tup vs) hp
  exact k _ _ _ _ (k1.trans s.kp) (g1.grow s) (.tup (bf.of ZC) (r1.same s.kp)) q1⟩
def Ey(l:AA):AE:=fun ρ A Q=>l ρ A fun xs A1=>xs.length<=sizeLine/\∀p,A1 p=none->Q (.ref p) (af A1 p (.lst xs))
def ZV(hl:fH K tl l):aY K (JN tl) (Ey l):=fun ρ A σ H Q' Q hs hh h k =>
 hl ρ A σ H _ _ hs hh h fun xs A1 vs H1 k1 g1 r1 ⟨hz,q1⟩=>⟨by rw[<- r1.length];exact hz,fun p hp=>k _ _ _ _ (k1.trans (ba.aA hp).kp) (g1.en hp r1) (.ref p) (q1 p (g1.none hp))⟩
def hZ(K:au)(r:List V->Hp->VK->Prop)(ar:List U->az->bH->Prop):Prop:=∀xs us A H Q' Q,aK K H us xs->HR K H A->ar us A Q'->kS K H Q' Q->r xs H Q
def KY(ar:List U->az->bH->Prop)(l:AA):AE:=fun ρ A Q=>l ρ A fun us A1=>ar us A1 Q
def Z6(hr:hZ K r ar)(hl:fH K tl l):aY K (rS r tl) (KY ar l):=fun ρ A σ H Q' Q hs hh h k =>
 hl ρ A σ H _ _ hs hh h fun xs A1 vs H1 k1 g1 r1 q1=>hr _ _ _ _ _ _ r1 g1 q1 fun z A3 v3 H3 k3 h3 r3 q3=>k _ _ _ _ (k1.trans k3) h3 r3 q3
abbrev bQ:=List U->az->bH->Prop
def a6(K:au)(bj:bQ):Sp:=fun vs H Q _=>∃us A Q',aK K H us vs/\HR K H A/\bj us A Q'/\kS K H Q' Q
def Ez(bj:bQ)(l:AA):AE:=fun ρ A Q=>l ρ A fun us A1=>bj us A1 Q
def Zt(hl:fH K tl l):aY K (Dv (a6 K bj) [] E tl) (Ez bj l):=fun ρ A σ H Q' Q hs hh h k =>
 hl ρ A σ H _ _ hs hh h fun us A1 vs H1 k1 g1 r1 q1=>⟨us,A1,Q',by rw[YW];exact r1,g1,q1,fun z A3 v3 H3 k3 h3 r3 q3=>k _ _ _ _ (k1.trans k3) h3 r3 q3⟩
def KZ:xA:=fun _ A Q=>Q none A
def sC:AF K JY KZ:=fun ρ A σ H Q' Q hs hh h k=>k _ _ _ (.refl H) hh h
def K0(a:AE):xA:=fun ρ A Q=>a ρ A fun x A1=>∃i,x=.int i/\Q (some i) A1
def oS(ha:aY K t a):AF K (JZ t) (K0 a):=fun ρ A σ H Q' Q hs hh h k =>
 ha ρ A σ H _ _ hs hh h fun x A1 v H1 k1 h1 r1 aF=>by obtain⟨i,e,q1⟩:=aF;subst e;cases r1;exact⟨i,rfl,k _ _ _ k1 h1 q1⟩
def K1(K:au)(r:V->Option Int->Option Int->Hp->VK->Prop)(ar:U->Option Int->Option Int->az->bH->Prop):Prop:=∀x u lo hi A H Q' Q,RU K H u x->HR K H A->ar u lo hi A Q'->kS K H Q' Q->r x lo hi H Q
def K2(ar:U->Option Int->Option Int->az->bH->Prop)(a:AE)(l h:xA):AE:=fun ρ A Q=>a ρ A fun x A1=>l ρ A1 fun i A2=>h ρ A2 fun j A3=>ar x i j A3 Q
def qu(hr:K1 K r ar)(ha:aY K t a)(hl:AF K tl l)(hh:AF K th h):aY K (J0 r t tl th) (K2 ar a l h):=fun ρ A σ H Q' Q hs g w k =>
 ha ρ A σ H _ _ hs g w fun x A1 v H1 k1 g1 r1 q1=>hl ρ A1 σ H1 _ _ (hs.same k1) g1 q1 fun i A2 H2 k2 g2 q2=>hh ρ A2 σ H2 _ _ (hs.same (k1.trans k2)) g2 q2 fun j A3 H3 k3 g3 q3 =>
  hr _ _ _ _ _ _ _ _ (r1.same (k2.trans k3)) g3 q3 fun z A4 v4 H4 k4 g4 r4 q4=>k _ _ _ _ (k1.trans (k2.trans (k3.trans k4))) g4 r4 q4
def AK(K:au)(T:String)(y:U->az->Prop):Prop:=∀x u A H,RU K H u x->HR K H A->y u A->Aj K T x H
def K3(y:U->az->Prop)(ar:U->List U->az->bH->Prop)(a:AE):AE:=fun ρ A Q=>a ρ A fun x A1=>y x A1/\ar x [] A1 Q
def EA(y:U->az->Prop)(ar:U->List U->az->bH->Prop)(a:AE)(l:AA):AE:=fun ρ A Q=>a ρ A fun x A1=>y x A1/\l ρ A1 fun us A2=>ar x us A2 Q
def oV(K:au)(r:V->List V->Hp->VK->Prop)(ar:U->List U->az->bH->Prop):Prop:=∀x u xs us A H Q' Q,RU K H u x->aK K H us xs->HR K H A->ar u us A Q'->kS K H Q' Q->r x xs H Q
def vd(hy:AK K T y)(hr:oV K r ar)(ha:aY K t a):aY K (J' K T r t) (K3 y ar a):=fun ρ A σ H Q' Q hs g w k =>
 ha ρ A σ H _ _ hs g w fun x A1 v H1 k1 g1 r1 ⟨q0,q1⟩=>⟨hy _ _ _ _ r1 g1 q0,hr _ _ _ _ _ _ _ _ r1 .nil g1 q1 fun z A4 v4 H4 k4 g4 r4 q4=>k _ _ _ _ (k1.trans k4) g4 r4 q4⟩
def gI(hy:AK K T y)(hr:oV K r ar)(ha:aY K t a)(hl:fH K tl l):aY K (Ka K T r t tl) (EA y ar a l):=fun ρ A σ H Q' Q hs g w k =>
 ha ρ A σ H _ _ hs g w fun x A1 v H1 k1 g1 r1 ⟨q0,q1⟩=>⟨hy _ _ _ _ r1 g1 q0,hl ρ A1 σ H1 _ _ (hs.same k1) g1 q1 fun us A2 vs H2 k2 g2 r2 q2=>hr _ _ _ _ _ _ _ _ (r1.same k2) r2 g2 q2 fun z A4 v4 H4 k4 g4 r4 q4=>k _ _ _ _ (k1.trans (k2.trans k4)) g4 r4 q4⟩
def K4:AS:=fun D ρ A=>D.nx ρ A
def ZA:c6 K Jl K4:=fun ρ A σ H D' D hs g w k=>k.nx _ _ _ _ (.refl H) g hs w
def K5(t u:AS):AS:=fun D ρ A=>t { D with nx:=u D } ρ A
def Zk(ha:c6 K t a)(hb:c6 K u b):c6 K (z9 t u) (K5 a b):=fun ρ A σ H D' D hs g w k =>
 ha ρ A σ H _ _ hs g w ⟨fun nk A1 jm H1 k1 g1 r1 q1=>hb nk A1 jm H1 _ _ r1 g1 q1 (k.same k1),k.rt,k.bk,k.ct⟩
def EB(a:AE):AS:=fun D ρ A=>a ρ A fun _ A1=>D.nx ρ A1
def Z5(ha:aY K t a):c6 K (z_ t) (EB a):=fun ρ A σ H D' D hs g w k=>ha ρ A σ H _ _ hs g w fun x A1 v H1 k1 g1 r1 q1=>k.nx _ _ _ _ k1 g1 (hs.same k1) q1
def K6(a:AE):AS:=fun D ρ A=>a ρ A D.rt
def Zv(ha:aY K t a):c6 K (Jm t) (K6 a):=fun ρ A σ H D' D hs g w k=>ha ρ A σ H _ _ hs g w k.rt
def EC(c:AT)(t u:AS):AS:=fun D ρ A=>c ρ A fun b A1=>if b=true then t D ρ A1 else u D ρ A1
def dY(hc:hU K c ac)(ha:c6 K t a)(hb:c6 K u b):c6 K (Dc c t u) (EC ac a b):=fun ρ A σ H D' D hs g w k =>
 hc ρ A σ H _ _ hs g w fun c A1 H1 k1 g1 q1=>by
  cases c
  .exact jv (by decide) (hb ρ A1 σ H1 _ _ (hs.same k1) g1 (by simpa using q1) (k.same k1))
  .exact gH rfl (ha ρ A1 σ H1 _ _ (hs.same k1) g1 (by simpa using q1) (k.same k1))
abbrev AG:=U->a8->az->(a8->az->Prop)->Prop
abbrev xC:=List U->a8->az->(a8->az->Prop)->Prop
abbrev K7(K:au)(H:Hp)(Q':a8->az->Prop)(Q:St->Hp->Prop):Prop:=∀ρ A σ H',Kp K H H'->HR K H' A->aX K H' ρ σ->Q' ρ A->Q σ H'
def oW(K:au)(t:TG)(a:AG):Prop:=∀u v ρ A σ H Q' Q,RU K H u v->aX K H ρ σ->HR K H A->a u ρ A Q'->K7 K H Q' Q->t v σ H Q
def AL(K:au)(t:uO)(a:xC):Prop:=∀u v ρ A σ H Q' Q,aK K H u v->aX K H ρ σ->HR K H A->a u ρ A Q'->K7 K H Q' Q->t v σ H Q
def nq(i:Nat):AG:=fun u ρ A Q=>Q (ρ.set i (some u)) A
def Zi:oW K (rH i) (nq i):=fun u v ρ A σ H Q' Q r hs g w k=>k _ _ _ _ (.refl H) g (hs.set r i) w
def ED:xC:=fun us ρ A Q=>us=[]/\Q ρ A
def j8:AL K De ED:=fun u v ρ A σ H Q' Q r hs g aF k=>by obtain⟨e,w⟩:=aF;subst e;cases r;exact⟨rfl,k _ _ _ _ (.refl H) g hs w⟩
def AM(t:AG)(u:xC):xC:=fun us ρ A Q=>∃v r,us=v::r/\t v ρ A fun dh A'=>u r dh A' Q
def ZM(ha:oW K t a)(hb:AL K u b):AL K (Aa t u) (AM a b):=fun us vs ρ A σ H Q' Q r hs g aF k=>by
 obtain⟨x,xs,e,w⟩:=aF
 subst e
 cases r with
 | cons r rr=>exact⟨_,_,rfl,ha _ _ _ _ _ _ _ _ r hs g w fun nk A1 jm H1 k1 g1 s1 q1=>hb _ _ _ _ _ _ _ _ (rr.same k1) s1 g1 q1 fun dJ A2 oo H2 k2 g2 s2 q2=>k _ _ _ _ (k1.trans k2) g2 s2 q2⟩
def EE(n:Nat)(t:xC):AG:=fun u ρ A Q=>∃us,u=.tup us/\us.length=n/\t us ρ A Q
def j9(ha:AL K t a):oW K (Ab K n t) (EE n a):=fun u v ρ A σ H Q' Q r hs g aF k=>by
 obtain⟨us,e,hn,w⟩:=aF
 subst e
 cases r with
 | tup h rr=>exact⟨_,_,rfl,h,by rw[<- rr.length];exact hn,ha _ _ _ _ _ _ _ _ rr hs g w k⟩
def K8(a:AE)(b:AG):AS:=fun D ρ A=>a ρ A fun x A1=>b x ρ A1 D.nx
def Zq(ha:aY K t a)(hb:oW K tg b):c6 K (wH t tg) (K8 a b):=fun ρ A σ H D' D hs g w k =>
 ha ρ A σ H _ _ hs g w fun x A1 v H1 k1 g1 r1 q1=>hb _ _ _ _ _ _ _ _ r1 (hs.same k1) g1 q1 fun dJ A2 oo H2 k2 g2 s2 q2=>k.nx _ _ _ _ (k1.trans k2) g2 s2 q2
def SN(c:AT)(b:AS):AS:=fun D ρ A=>∃W:Nat->a8->az->Prop,(∃m,W m ρ A)/\∀m ρ A,W m ρ A ->
 c ρ A fun k A1=>if k=true then ∃N:a8->az->Prop,(∀dh A',N dh A'->∃m',m'<m/\W m' dh A')/\b { D with nx:=N,ct:=N,bk:=D.nx } ρ A1 else D.nx ρ A1
def xD(hc:hU K c ac)(ha:c6 K t a):c6 K (Jo c t) (SN ac a):=fun ρ A σ H D' D hs g aF k=>by
 obtain⟨W,⟨m0,w0⟩,turn⟩:=aF
 refine⟨fun m jm H1=>∃nk A1,Kp K H H1/\HR K H1 A1/\aX K H1 nk jm/\W m nk A1,⟨m0,ρ,A,.refl H,g,hs,w0⟩,?_⟩
 rintro m jm H1 ⟨nk,A1,k1,g1,s1,w1⟩
 refine hc nk A1 jm H1 _ _ s1 g1 (turn m nk A1 w1) fun b A2 H2 k2 g2 q2=>?_
 cases b
 .exact jv (by decide) (k.nx _ _ _ _ (k1.trans k2) g2 (s1.same k2) (by simpa using q2))
 .refine gH rfl ?_
  obtain⟨N,hN,q2⟩:=(by simpa using q2:∃N:a8->az->Prop,(∀dh A',N dh A'->∃m',m'<m/\W m' dh A')/\a { D' with nx:=N,ct:=N,bk:=D'.nx } nk A2)
  refine⟨fun aU H'=>∃dh A',Kp K H H'/\HR K H' A'/\aX K H' dh aU/\N dh A',?_,?_⟩
  .rintro aU H' ⟨dh,A',k',g',s',n'⟩
   obtain⟨m',hm,w'⟩:=hN dh A' n'
   exact⟨m',hm,dh,A',k',g',s',w'⟩
  .have nu:=k1.trans k2
   exact ha nk A2 jm H2 _ _ (s1.same k2) g2 q2 ⟨fun ρ A σ H' k3 g3 s3 n3=>⟨ρ,A,nu.trans k3,g3,s3,n3⟩,(k.same nu).rt,fun ρ A σ H' k3 g3 s3 n3=>k.nx _ _ _ _ (nu.trans k3) g3 s3 n3,fun ρ A σ H' k3 g3 s3 n3=>⟨ρ,A,nu.trans k3,g3,s3,n3⟩⟩
end
abbrev fu:=Nat->az->Option U->Prop
def sD(K:au)(H0:Hp)(J:It)(aj:fu):Prop:=∀i A H r,Kp K H0 H->HR K H A->aj i A r->match r with
 | none=>J.stop i H
 | some u=>J.go i H/\∀x H',J.rJ i H x H'->Kp K H H'/\HR K H' A/\RU K H' u x
abbrev AI:=a8->az->(fu->az->Prop)->Prop
def ve(K:au)(wi:TI)(ai:AI):Prop:=∀ρ A σ H R' R,aX K H ρ σ->HR K H A->ai ρ A R'->(∀aj A' J H',Kp K H H'->HR K H' A'->sD K H' J aj->R' aj A'->R J H')->wi σ H R
def sE(J:fu)(g:AG)(b:AS)(D:oO)(ρ:a8)(A:az):Prop:=∃W:Nat->Nat->a8->az->Prop,(∃m,W 0 m ρ A)/\∀i m ρ A,W i m ρ A ->
 (J i A none/\D.nx ρ A)\/∃u,J i A (some u)/\∃N:a8->az->Prop,(∀dh A',N dh A'->∃m',m'<m/\W (i+1) m' dh A')/\g u ρ A fun dJ A2=>b { D with nx:=N,ct:=N,bk:=D.nx } dJ A2
def K9(wi:AI)(g:AG)(b:AS):AS:=fun D ρ A=>wi ρ A fun J A1=>sE J g b D ρ A1
section
variable{K:au}
def eu(hi:ve K wi ai)(hg:oW K g ag)(ha:c6 K t a):c6 K (Jq wi g t) (K9 ai ag a):=fun ρ A σ H D' D hs g0 w k=>by
 refine hi ρ A σ H _ _ hs g0 w fun aj A1 J H1 k1 g1 hj q=>?_
 obtain⟨W,⟨m0,w0⟩,turn⟩:=q
 refine⟨fun i m oo H2=>∃dJ A2,Kp K H1 H2/\HR K H2 A2/\aX K H2 dJ oo/\W i m dJ A2,⟨m0,ρ,A1,.refl H1,g1,hs.same k1,w0⟩,?_⟩
 rintro i m oo H2 ⟨dJ,A2,k2,g2,s2,w2⟩
 have nu:=k1.trans k2
 rcases turn i m dJ A2 w2 with⟨h_,q⟩|⟨u,xE,N,hN,q⟩
 .exact .inl ⟨hj i A2 H2 _ k2 g2 h_,k.nx _ _ _ _ nu g2 s2 q⟩
 .obtain⟨j1,j2⟩:=hj i A2 H2 _ k2 g2 xE
  refine .inr ⟨j1,fun aU H'=>∃dh A',Kp K H1 H'/\HR K H' A'/\aX K H' dh aU/\N dh A',?_,fun x H3 hy=>?_⟩
  .rintro aU H' ⟨dh,A',k',g',s',n'⟩
   obtain⟨m',hm,w'⟩:=hN dh A' n'
   exact⟨m',hm,dh,A',k',g',s',w'⟩
  .obtain⟨k3,g3,r3⟩:=j2 x H3 hy
   refine hg _ _ _ _ _ _ _ _ r3 (s2.same k3) g3 q fun nv A4 qv H4 k4 g4 s4 q4=>?_
   have AN:=k2.trans (k3.trans k4)
   exact ha nv A4 qv H4 _ _ s4 g4 q4 ⟨fun AQ A5 K_ H5 k5 g5 s5 n5=>⟨AQ,A5,AN.trans k5,g5,s5,n5⟩,(k.same (k1.trans AN)).rt,fun AQ A5 K_ H5 k5 g5 s5 n5=>k.nx _ _ _ _ ((k1.trans AN).trans k5) g5 s5 n5,fun AQ A5 K_ H5 k5 g5 s5 n5=>⟨AQ,A5,AN.trans k5,g5,s5,n5⟩⟩
def eC(us:List U):fu:=fun i _ r=>r=us[i]?
def sF(a:Addr):fu:=fun i A r=>∃us,A a=some (.lst us)/\r=us[i]?
def La(y:U->az->(fu->az->Prop)->Prop)(a:AE):AI:=fun ρ A R=>a ρ A fun x A1=>y x A1 R
def sG(K:au)(u:V->Hp->(It->Hp->Prop)->Prop)(y:U->az->(fu->az->Prop)->Prop):Prop:=∀x v A H R' R,RU K H x v->HR K H A->y x A R'->(∀aj A' J H',Kp K H H'->HR K H' A'->sD K H' J aj->R' aj A'->R J H')->u v H R
def ZZ(hy:sG K u y)(ha:aY K t a):ve K (xi u t) (La y a):=fun ρ A σ H R' R hs g w k =>
 ha ρ A σ H _ _ hs g w fun x A1 v H1 k1 g1 r1 q1=>hy _ _ _ _ _ _ r1 g1 q1 fun aj A2 J H2 k2 g2 hj q2=>k _ _ _ _ (k1.trans k2) g2 hj q2
def SO(h:sx K H a vs)(r:aK K H us vs):sD K H (Ad K a) (eC us):=fun i A H1 x k g e=>by
 have e:x=us[i]?:=e
 have h1:=(k.r _ _ h).sq
 have r1:=r.same k
 subst e
 cases hu:us[i]? with
 | none=>exact⟨vs,h1,by rw[<- r1.length];exact YI.mp hu⟩
 | some u =>
  obtain⟨v,hv,rv⟩:=r1.get' hu
  refine⟨⟨vs,v,h1,hv⟩,?_⟩
  rintro x H' ⟨rfl,hx⟩
  have:=hx vs h1
  rw[hv]at this;cases this
  exact⟨.refl _,g,rv⟩
def SQ:sD K H (Ad K a) (sF a):=fun i A H1 x k g aF=>by
 obtain⟨us,hA,e⟩:=aF
 subst e
 obtain⟨vs,h1,r1⟩:=g.list hA
 have h1:aV K H1 a vs:=aV.of h1
 cases hu:us[i]? with
 | none=>exact⟨vs,h1,by rw[<- r1.length];exact YI.mp hu⟩
 | some u =>
  obtain⟨v,hv,rv⟩:=r1.get' hu
  refine⟨⟨vs,v,h1,hv⟩,?_⟩
  rintro x H' ⟨rfl,hx⟩
  have:=hx vs h1
  rw[hv]at this;cases this
  exact⟨.refl _,g,rv⟩
def SR(h:bf K H a vs)(r:aK K H us vs):sD K H (Dg K a) (eC us):=fun i A H1 x k g e=>by
 have e:x=us[i]?:=e
 have h1:=k.t _ _ h
 have r1:=r.same k
 subst e
 cases hu:us[i]? with
 | none=>exact⟨vs,h1,by rw[<- r1.length];exact YI.mp hu⟩
 | some u =>
  obtain⟨v,hv,rv⟩:=r1.get' hu
  refine⟨⟨vs,v,h1,hv⟩,?_⟩
  rintro x H' ⟨rfl,hx⟩
  have:=hx vs h1
  rw[hv]at this;cases this
  exact⟨.refl _,g,rv⟩
def EF:U->az->(fu->az->Prop)->Prop:=fun u A R=>match u with
 | .ref a=>(∃us,A a=some (.lst us))/\R (sF a) A
 | .bI us=>R (eC us) A
 | _=>False
def Lb:sG K (Kv K) EF:=fun x v A H R' R r g w k=>by
 cases r with
 | ref a =>
  obtain⟨⟨us,hA⟩,w⟩:=w
  obtain⟨vs,h1,r1⟩:=g.list hA
  exact⟨⟨vs,aV.of h1⟩,k _ _ _ _ (.refl H) g SQ w⟩
 | bI h1 r1=>exact⟨⟨_,h1.sq⟩,k _ _ _ _ (.refl H) g (SO h1 r1) w⟩
 | _=>exact w.elim
def Lc:U->az->(fu->az->Prop)->Prop:=fun u A R=>match u with
 | .tup us=>R (eC us) A
 | _=>False
def SS:sG K (Kw K) Lc:=fun x v A H R' R r g w k=>by
 cases r with
 | tup h1 r1=>exact⟨⟨_,h1⟩,k _ _ _ _ (.refl H) g (SR h1 r1) w⟩
 | _=>exact w.elim
def mi(lo:Int)(n:Nat):List U:=(List.range n).map fun(i:Nat)=>.int (lo+(i:Int))
def EG(lo:Int)(n i:Nat):(mi lo n)[i]? = if i<n then some (.int (lo+(i:Int)))else none:=by
 unfold mi;rw[Yi];by_cases h:i<n
 .rw[if_pos h,IH h];rfl
 .rw[if_neg h,Y1 (by rw[uF];lia)];rfl
def eD(lo:Int)(n:Nat):(mi lo n).length=n:=by simp[mi]
def SU{lo:Int}:sD K H (Ae lo n) (eC (mi lo n)):=fun i A H1 x k g e=>by
 have e:x=(mi lo n)[i]?:=e
 rw[EG]at e
 subst e
 by_cases h:i<n
 .rw[if_pos h]
  refine⟨h,?_⟩
  rintro x H' ⟨rfl,rfl⟩
  exact⟨.refl _,g,.int _⟩
 .rw[if_neg h]
  exact IY h
def AR:List U->az->(fu->az->Prop)->Prop:=fun us A R=>match us with
 | [.int j]=>-(2^62)<=j/\j<2^62/\R (eC (mi 0 j.toNat)) A
 | _=>False
def xF(K:au)(u:List V->Hp->(It->Hp->Prop)->Prop)(y:List U->az->(fu->az->Prop)->Prop):Prop:=∀x v A H R' R,aK K H x v->HR K H A->y x A R'->(∀aj A' J H',Kp K H H'->HR K H' A'->sD K H' J aj->R' aj A'->R J H')->u v H R
def EH(y:List U->az->(fu->az->Prop)->Prop)(l:AA):AI:=fun ρ A R=>l ρ A fun us A1=>y us A1 R
def Ld(hy:xF K u y)(hl:fH K t l):ve K (KG u t) (EH y l):=fun ρ A σ H R' R hs g w k =>
 hl ρ A σ H _ _ hs g w fun x A1 v H1 k1 g1 r1 q1=>hy _ _ _ _ _ _ r1 g1 q1 fun aj A2 J H2 k2 g2 hj q2=>k _ _ _ _ (k1.trans k2) g2 hj q2
def SV:xF K Aw AR:=fun x v A H R' R r g w k=>by
 unfold AR at w
 split at w
 .cases r with
  | cons r rr =>
   cases rr;cases r
   exact⟨w.1,w.2.1,k _ _ _ _ (.refl H) g SU w.2.2⟩
 .exact w.elim
def vf(hl:fH K t l):ve K (Ku t) (EH AR l):=Ld (u:=Aw) SV hl
def gJ(us:List U):List U:=us.zipIdx.map fun p=>.tup [.int (p.2:Nat),p.1]
def EI(us:List U)(i:Nat):(gJ us)[i]? = (us[i]?).map fun u=>.tup [.int (i:Nat),u]:=by
 unfold gJ;rw[Yi,List.getElem?_zipIdx];cases us[i]?<;>simp
def SW(us:List U):(gJ us).length=us.length:=by simp[gJ]
def AU(a:Addr):fu:=fun i A r=>∃us,A a=some (.lst us)/\r=(gJ us)[i]?
def AV:List U->az->(fu->az->Prop)->Prop:=fun us A R=>match us with
 | [.ref a]=>(∃us,A a=some (.lst us))/\R (AU a) A
 | [.bI us]=>R (eC (gJ us)) A
 | _=>False
def Lf(h1:aV K H a vs)(r1:aK K H us vs)(g:HR K H A):match (gJ us)[i]? with
  | none=>(xq K a).stop i H
  | some u=>(xq K a).go i H/\∀x H',(xq K a).rJ i H x H'->Kp K H H'/\HR K H' A/\RU K H' u x:=by
 rw[EI];cases hu:us[i]? with
 | none=>exact⟨vs,h1,by rw[<- r1.length];exact YI.mp hu⟩
 | some u =>
  obtain⟨v,hv,rv⟩:=r1.get' hu;refine⟨⟨vs,v,h1,hv⟩,?_⟩;rintro x H' ⟨T,x0,rfl,hT,rfl,hx⟩;have:=hx vs h1;rw[hv]at this;cases this;have s:=ba.aA (o:=.tup [.int i,v]) hT;exact⟨s.kp,g.grow s,.tup (bf.of ZC) (.cons (.int _) (.one (rv.same s.kp)))⟩
def SX(h1:bf K H a vs)(r1:aK K H us vs)(g:HR K H A):match (gJ us)[i]? with
  | none=>(xx K a).stop i H
  | some u=>(xx K a).go i H/\∀x H',(xx K a).rJ i H x H'->Kp K H H'/\HR K H' A/\RU K H' u x:=by
 rw[EI];cases hu:us[i]? with
 | none=>exact⟨vs,h1,by rw[<- r1.length];exact YI.mp hu⟩
 | some u =>
  obtain⟨v,hv,rv⟩:=r1.get' hu;refine⟨⟨vs,v,h1,hv⟩,?_⟩;rintro x H' ⟨T,x0,rfl,hT,rfl,hx⟩;have:=hx vs h1;rw[hv]at this;cases this;have s:=ba.aA (o:=.tup [.int i,v]) hT;exact⟨s.kp,g.grow s,.tup (bf.of ZC) (.cons (.int _) (.one (rv.same s.kp)))⟩
def Lg:xF K (Ej K) AV:=fun x v A H R' R r g w k=>by
 unfold AV at w
 split at w
 .cases r with
  | cons r rr =>
   cases rr;cases r
   obtain⟨⟨us,hA⟩,w⟩:=w
   obtain⟨vs,h1,r1⟩:=g.list hA
   refine⟨⟨vs,aV.of h1⟩,k _ _ _ _ (.refl H) g (fun i A1 H1 r k1 g1 ⟨us,hA,e⟩=>?_) w⟩
   subst e
   obtain⟨vs,h1,r1⟩:=g1.list hA
   exact Lf (aV.of h1) r1 g1
 .cases r with
  | cons r rr =>
   cases rr
   cases r with
   | bI h1 r1 =>
    refine⟨⟨_,h1.sq⟩,k _ _ _ _ (.refl H) g (fun i A1 H1 r k1 g1 e=>?_) w⟩
    have e:r=(gJ _)[i]?:=e
    subst e
    exact Lf (k1.r _ _ h1).sq (r1.same k1) g1
 .exact w.elim
def EJ:List U->az->(fu->az->Prop)->Prop:=fun us A R=>match us with
 | [.tup us]=>R (eC (gJ us)) A
 | _=>False
def SY:xF K (En K) EJ:=fun x v A H R' R r g w k=>by
 unfold EJ at w
 split at w
 .cases r with
  | cons r rr =>
   cases rr
   cases r with
   | tup h1 r1 =>
    refine⟨⟨_,h1⟩,k _ _ _ _ (.refl H) g (fun i A1 H1 r k1 g1 e=>?_) w⟩
    have e:r=(gJ _)[i]?:=e
    subst e
    exact SX (k1.t _ _ h1) (r1.same k1) g1
 .exact w.elim
def aCompStart(nt:Nat)(bE:List (Str×Nat))(ρ:a8):a8:=List.replicate nt none++bE.map fun p=>(ρ[p.2]?).join
def aX.join:∀ {ρ:a8} {σ:St} (i:Nat) {dJ:a8} {oo:St},aX K H ρ σ->aX K H dJ oo->aX K H ((ρ[i]?).join::dJ) ((σ[i]?).join::oo)
 | _,_,_,_,_,.nil,q=>by simpa using .skip q
 | _,_,0,_,_,.skip _,q=>by simpa using .skip q
 | _,_,i+1,_,_,.skip r,q=>by simpa using aX.join i r q
 | _,_,0,_,_,.cons h _,q=>by simpa using .cons h q
 | _,_,i+1,_,_,.cons _ r,q=>by simpa using aX.join i r q
def aX.comp(h:aX K H ρ σ)(nt:Nat)(bE:List (Str×Nat)):aX K H (aCompStart nt bE ρ) (l_ nt bE σ):=by
 unfold aCompStart l_;induction nt with
 | zero =>
  simp only[List.replicate_zero,List.nil_append];induction bE with
  | nil=>exact .nil
  | cons p bE ih=>simp only[Yr];exact h.join p.2 ih
 | succ n ih=>simp only[List.replicate_succ,List.cons_append];exact .skip ih
def ny(J:fu)(g:AG)(tt:AT)(te:AE)(l:Addr)(Q:bH)(τ:a8)(A:az):Prop:=∃W:Nat->Nat->a8->az->Prop,(∃m,W 0 m τ A) /\
 ∀i m τ A,W i m τ A->(J i A none/\Q (.ref l) A)\/∃u,J i A (some u)/\g u τ A fun aS A2=>tt aS A2 fun ok A3 =>
  if ok=true then te aS A3 fun y A4=>∃ys,A4 l=some (.lst ys)/\ys.length<sizeLine/\∃m',m'<m/\W (i+1) m' aS (af A4 l (.lst (ys++[y])))else ∃m',m'<m/\W (i+1) m' aS A3
def Lh(nt:Nat)(bE:List (Str×Nat))(wi:AI)(g:AG)(tt:AT)(te:AE):AE:=fun ρ A Q=>wi ρ A fun J A1=>∀l,A1 l=none->ny J g tt te l Q (aCompStart nt bE ρ) (af A1 l (.lst []))
def j_{bE:List (Str×Nat)}(hi:ve K wi ai)(hg:oW K g ag)(ht:hU K tt at')(he:aY K te ae):aY K (Aq nt bE wi g tt te) (Lh nt bE ai ag at' ae):=fun ρ A σ H Q' Q hs g0 w k=>by
 refine hi ρ A σ H _ _ hs g0 w fun aj A1 J H1 k1 g1 hj q=>?_
 intro l hl
 obtain⟨W,⟨m0,w0⟩,turn⟩:=q l (g1.none hl)
 have kl:Kp K H1 (upd H1 l (.lst [])):=(ba.aA hl).kp
 refine⟨fun i m τ H2=>∃oY A2,Kp K H1 H2/\HR K H2 A2/\aX K H2 oY τ/\W i m oY A2,⟨m0,_,_,kl,g1.en hl .nil,(hs.same (k1.trans kl)).comp nt bE,w0⟩,?_⟩
 rintro i m τ H2 ⟨oY,A2,k2,g2,s2,w2⟩
 have nu:=k1.trans k2
 rcases turn i m oY A2 w2 with⟨h_,q⟩|⟨u,xE,q⟩
 .exact .inl ⟨hj i A2 H2 _ k2 g2 h_,k _ _ _ _ nu g2 (.ref l) q⟩
 .obtain⟨j1,j2⟩:=hj i A2 H2 _ k2 g2 xE
  refine .inr ⟨j1,fun x H3 hy=>?_⟩
  obtain⟨k3,g3,r3⟩:=j2 x H3 hy
  refine hg _ _ _ _ _ _ _ _ r3 (s2.same k3) g3 q fun nv A4 qv H4 k4 g4 s4 q4=>ht nv A4 qv H4 _ _ s4 g4 q4 fun b A5 H5 k5 g5 q5=>?_
  have xG:=k2.trans (k3.trans (k4.trans k5))
  cases b
  .refine jv (by decide) ?_
   obtain⟨m',hm,w'⟩:=(by simpa using q5:∃m',m'<m/\W (i+1) m' nv A5)
   exact⟨m',hm,_,_,xG,g5,s4.same k5,w'⟩
  .refine gH rfl (he nv A5 qv H5 _ _ (s4.same k5) g5 (by simpa using q5) fun y A6 v6 H6 k6 g6 r6 q6=>?_)
   obtain⟨ys,hA,hz,m',hm,w'⟩:=q6
   obtain⟨vs,h6,r7⟩:=g6.list hA
   exact⟨vs,h6,by rw[<- r7.length];exact hz,m',hm,_,_,xG.trans (k6.trans (Kp.lst h6)),g6.j7 h6 (r7.app (.one r6)),(s4.same (k5.trans (k6.trans (Kp.lst h6)))),w'⟩
end
section
variable{K:au}
def vg:fJ:=fun u w A Q=>match u,w with
 | .int i,.int j=>Q (.int (i+j)) A
 | .str i,.str j=>i.length+j.length<=sizeLine/\Q (.str (i++j)) A
 | .tup xs,.tup ys=>xs.length+ys.length<=sizeLine/\Q (.tup (xs++ys)) A
 | .ref a,.ref b=>∃xs ys,A a=some (.lst xs)/\A b=some (.lst ys)/\xs.length+ys.length<=sizeLine/\∀p,A p=none->Q (.ref p) (af A p (.lst (xs++ys)))
 | _,_=>False
def gb:et K (AD K) vg:=fun x y u w A H Q' Q hu hw g h k=>by
 unfold vg at h
 split at h
 .cases hu;cases hw;exact k _ _ _ _ (.refl H) g (.int _) h
 .cases hu;cases hw;exact⟨h.1,k _ _ _ _ (.refl H) g (.str _) h.2⟩
 .cases hu with
  | tup h1 r1 =>
   cases hw with
   | tup h2 r2 =>
    refine .inr ⟨_,_,h1,h2,by rw[<- r1.length,<- r2.length];exact h.1,fun p H' s hp=>k _ _ _ _ s.kp (g.grow s) (.tup hp ((r1.app r2).same s.kp)) h.2⟩
 .cases hu;cases hw
  obtain⟨xs,ys,e1,e2,hz,q⟩:=h
  obtain⟨vs,h1,r1⟩:=g.list e1
  obtain⟨zs,h2,r2⟩:=g.list e2
  exact .inl ⟨vs,zs,aV.of h1,aV.of h2,by rw[<- r1.length,<- r2.length];exact hz,fun p hp=>k _ _ _ _ (ba.aA hp).kp (g.en hp (r1.app r2)) (.ref p) (q p (g.none hp))⟩
 .exact h.elim
def sH(C:Int->Int->Prop)(f:Int->Int->U):fJ:=fun u w A Q=>match u,w with
 | .int i,.int j=>C i j/\Q (f i j) A
 | _,_=>False
def xI(f:Int->Int->U):fJ:=fun u w A Q=>match u,w with
 | .int i,.int j=>Q (f i j) A
 | _,_=>False
def AW:et K DO (xI fun i j=>.int (i-j)):=fun x y u w A H Q' Q hu hw g h k=>by
 unfold xI at h
 split at h
 .cases hu;cases hw;exact k _ _ _ _ (.refl H) g (.int _) h
 .exact h.elim
def AY:fJ:=fun u w A Q=>match u,w with
 | .int i,.int j=>IntMulOk i j/\Q (.int (i*j)) A
 | .ref a,.int m=>∃xs,A a=some (.lst xs)/\-(2^63)<=m/\m<2^63/\xs.length*m.toNat<=sizeLine/\∀p,A p=none->Q (.ref p) (af A p (.lst (List.replicate m.toNat xs).flatten))
 | _,_=>False
def aK.flat(r:aK K H us vs):∀n,aK K H (List.replicate n us).flatten (List.replicate n vs).flatten
 | 0=>.nil
 | n+1=>by rw[List.replicate_succ,List.replicate_succ,List.flatten_cons,List.flatten_cons];exact r.app (r.flat n)
def AZ:et K D5 AY:=fun x y u w A H Q' Q hu hw g h k=>by
 unfold AY at h
 split at h
 .cases hu;cases hw;exact⟨h.1,k _ _ _ _ (.refl H) g (.int _) h.2⟩
 .cases hu;cases hw
  obtain⟨xs,e1,b1,b2,hz,q⟩:=h
  obtain⟨vs,h1,r1⟩:=g.list e1
  exact⟨_,_,vs,rfl,rfl,h1,b1,b2,by rw[<- r1.length];exact hz,fun p hp=>k _ _ _ _ (ba.aA hp).kp (g.en hp (r1.flat _)) (.ref p) (q p (g.none hp))⟩
 .exact h.elim
def nA:et K DP (sH Dj fun i j=>.int (i / j)):=fun x y u w A H Q' Q hu hw g h k=>by
 unfold sH at h
 split at h
 .cases hu;cases hw;exact⟨h.1,k _ _ _ _ (.refl H) g (.int _) h.2⟩
 .exact h.elim
def dM:et K DS (sH (fun _ j=>0<j) fun i j=>.int (i % j)):=fun x y u w A H Q' Q hu hw g h k=>by
 unfold sH at h
 split at h
 .cases hu;cases hw;exact⟨h.1,k _ _ _ _ (.refl H) g (.int _) h.2⟩
 .exact h.elim
def A9:et K DT (sH Dk fun i j=>.int (i^j.toNat)):=fun x y u w A H Q' Q hu hw g h k=>by
 unfold sH at h
 split at h
 .cases hu;cases hw;exact⟨h.1,k _ _ _ _ (.refl H) g (.int _) h.2⟩
 .exact h.elim
def A_:fJ:=fun u w A Q=>match u,w with
 | .int i,.int j=>Q (.bl (decide (i<j))) A
 | .str i,.str j=>Q (.bl (decide (i.cps.toList<j.cps.toList))) A
 | _,_=>False
def Li:et K DV A_:=fun x y u w A H Q' Q hu hw g h k=>by
 unfold A_ at h
 split at h
 .cases hu;cases hw;exact k _ _ _ _ (.refl H) g (.bl _) h
 .cases hu;cases hw;exact k _ _ _ _ (.refl H) g (.bl _) h
 .exact h.elim
def xH:et K DW (xI fun i j=>.bl (decide (j<i))):=fun x y u w A H Q' Q hu hw g h k=>by
 unfold xI at h
 split at h
 .cases hu;cases hw;exact k _ _ _ _ (.refl H) g (.bl _) h
 .exact h.elim
mutual
inductive DU (A:az):U->PyData->Prop
 | ay:DU A .ay .none
 | bl (b:Bool):DU A (.bl b) (.bool b)
 | int (i:Int):DU A (.int i) (.int i)
 | str (x:Str):DU A (.str x) (.str x)
 | tup {us:List U} {ds:List PyData}:ic A us ds->DU A (.tup us) (.tuple ds)
 | bI {us:List U} {ds:List PyData}:ic A us ds->DU A (.bI us) (.list ds)
 | lst {a:Addr} {us:List U} {ds:List PyData}:A a=some (.lst us)->ic A us ds->DU A (.ref a) (.list ds)
inductive ic (A:az):List U->List PyData->Prop
 | nil:ic A [] []
 | cons {u:U} {d:PyData} {us:List U} {ds:List PyData}:DU A u d->ic A us ds->ic A (u::us) (d::ds)
end
mutual
theorem DU.rep {A:az} {H:Hp} (g:HR K H A):∀ {u:U} {v:V} {d:PyData},DU A u d->RU K H u v->Rep K H d v:=by
 intro u v d h r
 cases h with
 | ay=>cases r;exact .ay
 | bl b=>cases r;exact .bl b
 | int b=>cases r;exact .int b
 | str b=>cases r;exact .str b
 | tup q=>cases r with|tup h r=>exact .tup h (ic.mj g q r)
 | bI q=>cases r with|bI h r=>exact .lst h.sq (ic.mj g q r)
 | lst e q =>
  cases r
  obtain⟨vs,h,r⟩:=g.list e
  exact .lst (aV.of h) (ic.mj g q r)
theorem ic.mj {A:az} {H:Hp} (g:HR K H A):∀ {us:List U} {vs:List V} {ds:List PyData},ic A us ds->aK K H us vs->gG K H ds vs
 | _,_,_,.nil,.nil=>.nil
 | _,_,_,.cons h r,.cons q s=>.cons (DU.rep g h q) (ic.mj g r s)
end
def eE(ne:Bool)(u w:U)(A:az)(Q:bH):Prop:=∃d e,DU A u d/\DU A w e/\d.canLay0=true/\e.canLay0=true/\d.depth<=190/\Q (.bl (if ne then !PyData.eqv d e else PyData.eqv d e)) A
def kU:fJ:=fun u w A Q=>match u,w with
 | .int i,.int j=>Q (.bl (decide (i=j))) A
 | .str i,.str j=>Q (.bl (decide (i=j))) A
 | .bl i,.bl j=>Q (.bl (decide (i=j))) A
 | .tup us,.tup ws=>eE false (.tup us) (.tup ws) A Q
 | .ref a,.ref b=>eE false (.ref a) (.ref b) A Q
 | .bI a,.ref b=>eE false (.bI a) (.ref b) A Q
 | .tup us,.ay=>eE false (.tup us) .ay A Q
 | .ay,.tup us=>eE false .ay (.tup us) A Q
 | .ay,.ay=>Q (.bl true) A
 | .ay,.str _=>Q (.bl false) A
 | .str _,.ay=>Q (.bl false) A
 | _,_=>False
def nB(hu:RU K H u x)(hw:RU K H w y)(g:HR K H A)(h:eE ne u w A Q')(k:kS K H Q' Q):sf K ne x y H Q:=by
 obtain⟨d,e,h1,h2,c1,c2,dp,q⟩:=h;exact⟨d,e,h1.rep g hu,h2.rep g hw,c1,c2,dp,k _ _ _ _ (.refl H) g (.bl _) q⟩
def cK:et K (Ax K) kU:=fun x y u w A H Q' Q hu hw g h k=>by
 unfold kU at h
 split at h
 .cases hu;cases hw;exact k _ _ _ _ (.refl H) g (.bl _) h
 .cases hu;cases hw;exact k _ _ _ _ (.refl H) g (.bl _) h
 .cases hu;cases hw;exact k _ _ _ _ (.refl H) g (.bl _) h
 .have:=nB hu hw g h k;cases hu;exact this
 .have:=nB hu hw g h k;cases hu;exact this
 .have:=nB hu hw g h k;cases hu;exact this
 .have:=nB hu hw g h k;cases hu;exact this
 .have:=nB hu hw g h k;cases hu;cases hw;exact this
 .cases hu;cases hw;exact k _ _ _ _ (.refl H) g (.bl _) h
 .cases hu;cases hw;exact k _ _ _ _ (.refl H) g (.bl _) h
 .cases hu;cases hw;exact k _ _ _ _ (.refl H) g (.bl _) h
 .exact h.elim
def kW:fJ:=fun u w A Q=>match u,w with
 | .int i,.int j=>Q (.bl (!decide (i=j))) A
 | .str i,.str j=>Q (.bl (!decide (i=j))) A
 | .bl i,.bl j=>Q (.bl (!decide (i=j))) A
 | .tup us,.tup ws=>eE true (.tup us) (.tup ws) A Q
 | .ref a,.ref b=>eE true (.ref a) (.ref b) A Q
 | .bI a,.ref b=>eE true (.bI a) (.ref b) A Q
 | .tup us,.ay=>eE true (.tup us) .ay A Q
 | .ay,.tup us=>eE true .ay (.tup us) A Q
 | .ay,.ay=>Q (.bl false) A
 | .ay,.str _=>Q (.bl true) A
 | .str _,.ay=>Q (.bl true) A
 | _,_=>False
def vh:et K (D3 K) kW:=fun x y u w A H Q' Q hu hw g h k=>by
 unfold kW at h
 split at h
 .cases hu;cases hw;exact k _ _ _ _ (.refl H) g (.bl _) h
 .cases hu;cases hw;exact k _ _ _ _ (.refl H) g (.bl _) h
 .cases hu;cases hw;exact k _ _ _ _ (.refl H) g (.bl _) h
 .have:=nB hu hw g h k;cases hu;exact this
 .have:=nB hu hw g h k;cases hu;exact this
 .have:=nB hu hw g h k;cases hu;exact this
 .have:=nB hu hw g h k;cases hu;exact this
 .have:=nB hu hw g h k;cases hu;cases hw;exact this
 .cases hu;cases hw;exact k _ _ _ _ (.refl H) g (.bl _) h
 .cases hu;cases hw;exact k _ _ _ _ (.refl H) g (.bl _) h
 .cases hu;cases hw;exact k _ _ _ _ (.refl H) g (.bl _) h
 .exact h.elim
def U.c7:U->Bool
 | .ay=>true
 | _=>false
def Lj:fJ:=fun u w A Q=>w=.ay/\Q (.bl u.c7) A
def EK:fJ:=fun u w A Q=>w=.ay/\Q (.bl (!u.c7)) A
def Lk:et K (fun x y H Q=>y=.ay/\Q (.bl (decide (x=.ay))) H) Lj:=fun x y u w A H Q' Q hu hw g aF k=>by
 obtain⟨e,h⟩:=aF
 subst e;cases hw
 refine⟨rfl,?_⟩
 have:decide (x=V.ay)=u.c7:=by cases hu<;>simp[U.c7]
 rw[this]
 exact k _ _ _ _ (.refl H) g (.bl _) h
def EL:et K (fun x y H Q=>y=.ay/\Q (.bl (!decide (x=.ay))) H) EK:=fun x y u w A H Q' Q hu hw g aF k=>by
 obtain⟨e,h⟩:=aF
 subst e;cases hw
 refine⟨rfl,?_⟩
 have:decide (x=V.ay)=u.c7:=by cases hu<;>simp[U.c7]
 rw[this]
 exact k _ _ _ _ (.refl H) g (.bl _) h
def U.flat:U->Bool
 | .ay=>true
 | .bl _=>true
 | .int _=>true
 | .str _=>true
 | _=>false
def U.toV:U->V
 | .bl b=>.bl b
 | .int i=>.int i
 | .str x=>.str x
 | _=>.ay
def RU.flat(h:RU K H u v)(f:u.flat=true):v=u.toV/\fG v=true:=by
 cases h<;>first|exact⟨rfl,rfl⟩|cases f
def aK.ml:∀ {us:List U} {vs:List V},aK K H us vs->us.all U.flat=true->vs=us.map U.toV/\vs.all fG=true
 | _,_,.nil,_=>⟨rfl,rfl⟩
 | _, _,.cons h r,f=>by
  rw[List.all_cons,Y8]at f
  obtain⟨e1,f1⟩:=h.flat f.1
  obtain⟨e2,f2⟩:=aK.ml r f.2
  exact⟨by rw[Yr,e1,e2],by rw[List.all_cons,f1,f2];rfl⟩
def dD(u:U)(us:List U):Bool:=ng u.toV (us.map U.toV)
def nD(neg:Bool):fJ:=fun u w A Q=>match w with
 | .str j=>∃i,u=.str i/\Q (.bl (if neg then !u0 j i else u0 j i)) A
 | .tup us=>u.flat=true/\us.all U.flat=true/\Q (.bl (if neg then !dD u us else dD u us)) A
 | .bI us=>u.flat=true/\us.all U.flat=true/\Q (.bl (if neg then !dD u us else dD u us)) A
 | .ref a=>∃us,A a=some (.lst us)/\u.flat=true/\us.all U.flat=true/\Q (.bl (if neg then !dD u us else dD u us)) A
 | _=>False
abbrev Ll:=nD false
abbrev Lm:=nD true
def S0{xs:List V}(fx:fG x=true)(h:∃xs,Sq K H p xs/\fG x=true/\xs.all fG=true/\Q (.bl (ng x xs)) H):u3 K x (.ref p) H Q:=by
 cases x<;>exact h
def S1{xs:List V}(fx:fG x=true)(h:∃xs,Sq K H p xs/\fG x=true/\xs.all fG=true/\Q (.bl (!ng x xs)) H):xa K x (.ref p) H Q:=by
 cases x<;>exact h
def EM(hu:RU K H u x)(hs:Sq K H p vs)(r:aK K H us vs)(g:HR K H A)(f:u.flat=true)(fs:us.all U.flat=true)(h:Q' (.bl (dD u us)) A)(k:kS K H Q' Q):u3 K x (.ref p) H Q:=by
 obtain⟨e1,f1⟩:=hu.flat f;obtain⟨e2,f2⟩:=r.ml fs;refine S0 (xs:=vs) f1 ⟨vs,hs,f1,f2,k _ _ _ _ (.refl H) g (.bl _) ?_⟩;rw[e1,e2];exact h
def EN(hu:RU K H u x)(hs:Sq K H p vs)(r:aK K H us vs)(g:HR K H A)(f:u.flat=true)(fs:us.all U.flat=true)(h:Q' (.bl (!dD u us)) A)(k:kS K H Q' Q):xa K x (.ref p) H Q:=by
 obtain⟨e1,f1⟩:=hu.flat f;obtain⟨e2,f2⟩:=r.ml fs;refine S1 (xs:=vs) f1 ⟨vs,hs,f1,f2,k _ _ _ _ (.refl H) g (.bl _) ?_⟩;rw[e1,e2];exact h
def vk:et K (u3 K) Ll:=fun x y u w A H Q' Q hu hw g h k=>by
 unfold Ll nD at h
 split at h
 .obtain⟨i,rfl,h⟩:=h
  cases hw;cases hu;exact k _ _ _ _ (.refl H) g (.bl _) h
 .cases hw with
  | tup h1 r1=>exact EM hu (.inr h1) r1 g h.1 h.2.1 h.2.2 k
 .cases hw with
  | bI h1 r1=>exact EM hu (.inl h1.sq) r1 g h.1 h.2.1 h.2.2 k
 .cases hw
  obtain⟨us,e,h⟩:=h
  obtain⟨vs,h1,r1⟩:=g.list e
  exact EM hu (.inl (aV.of h1)) r1 g h.1 h.2.1 h.2.2 k
 .exact h.elim
def Ln:et K (xa K) Lm:=fun x y u w A H Q' Q hu hw g h k=>by
 unfold Lm nD at h
 split at h
 .obtain⟨i,rfl,h⟩:=h
  cases hw;cases hu;exact k _ _ _ _ (.refl H) g (.bl _) h
 .cases hw with
  | tup h1 r1=>exact EN hu (.inr h1) r1 g h.1 h.2.1 h.2.2 k
 .cases hw with
  | bI h1 r1=>exact EN hu (.inl h1.sq) r1 g h.1 h.2.1 h.2.2 k
 .cases hw
  obtain⟨us,e,h⟩:=h
  obtain⟨vs,h1,r1⟩:=g.list e
  exact EN hu (.inl (aV.of h1)) r1 g h.1 h.2.1 h.2.2 k
 .exact h.elim
def aK.at(r:aK K H us vs)(h:cm us i=some u):∃v,cm vs i=some v/\RU K H u v:=by
 unfold cm at h ⊢;rw[<- r.length];cases e:jr us.length i with
 | none=>rw[e]at h;cases h
 | some j=>rw[e]at h;exact r.get' h
def nE:fJ:=fun u w A Q=>match u,w with
 | .str z,.int i=>z.length<=sizeLine/\∃c,cm z.cps.toList i=some c/\Q (.str ⟨#[c]⟩) A
 | .tup us,.int i=>∃x,cm us i=some x/\Q x A
 | .bI us,.int i=>∃x,cm us i=some x/\Q x A
 | .ref a,.int i=>∃us x,A a=some (.lst us)/\cm us i=some x/\Q x A
 | _,_=>False
def ZK:et K (As K) nE:=fun x y u w A H Q' Q hu hw g h k=>by
 unfold nE at h
 split at h
 .cases hu;cases hw
  obtain⟨hz,c,e,h⟩:=h
  exact⟨hz,c,e,k _ _ _ _ (.refl H) g (.str _) h⟩
 .cases hw
  obtain⟨x,e,h⟩:=h
  cases hu with
  | tup h1 r1 =>
   obtain⟨v,e2,rv⟩:=r1.at e
   exact⟨_,v,.inr h1,e2,k _ _ _ _ (.refl H) g rv h⟩
 .cases hw
  obtain⟨x,e,h⟩:=h
  cases hu with
  | bI h1 r1 =>
   obtain⟨v,e2,rv⟩:=r1.at e
   exact⟨_,v,.inl h1.sq,e2,k _ _ _ _ (.refl H) g rv h⟩
 .cases hw;cases hu
  obtain⟨us,x,e0,e,h⟩:=h
  obtain⟨vs,h1,r1⟩:=g.list e0
  obtain⟨v,e2,rv⟩:=r1.at e
  exact⟨_,v,.inl (aV.of h1),e2,k _ _ _ _ (.refl H) g rv h⟩
 .exact h.elim
def j'(xs:List U)(lo hi:Option Int):List U:=(xs.drop (HT.aO xs.length 0 lo)).take (HT.aO xs.length xs.length hi-HT.aO xs.length 0 lo)
def aK.cut(r:aK K H us vs)(lo hi:Option Int):aK K H (j' us lo hi) (jZ vs lo hi):=by
 unfold j' jZ;rw[r.length];exact(r.drop _).take _
def sI:U->Option Int->Option Int->az->bH->Prop:=fun u lo hi A Q=>match u with
 | .str z=>z.length<=sizeLine/\Q (.str (uZ z lo hi)) A
 | .tup us=>Q (.tup (j' us lo hi)) A
 | .bI us=>∀p,A p=none->Q (.ref p) (af A p (.lst (j' us lo hi)))
 | .ref a=>∃us,A a=some (.lst us)/\∀p,A p=none->Q (.ref p) (af A p (.lst (j' us lo hi)))
 | _=>False
def qw:K1 K (Em K) sI:=fun x u lo hi A H Q' Q hu g h k=>by
 unfold sI at h
 split at h
 .cases hu;exact⟨h.1,k _ _ _ _ (.refl H) g (.str _) h.2⟩
 .cases hu with
  | tup h1 r1=>exact .inr ⟨_,h1,fun p H' s hp=>k _ _ _ _ s.kp (g.grow s) (.tup hp ((r1.cut lo hi).same s.kp)) h⟩
 .cases hu with
  | bI h1 r1=>exact .inl ⟨_,h1.sq,fun p hp=>k _ _ _ _ (ba.aA hp).kp (g.en hp (r1.cut lo hi)) (.ref p) (h p (g.none hp))⟩
 .cases hu
  obtain⟨us,e,h⟩:=h
  obtain⟨vs,h1,r1⟩:=g.list e
  exact .inl ⟨_,aV.of h1,fun p hp=>k _ _ _ _ (ba.aA hp).kp (g.en hp (r1.cut lo hi)) (.ref p) (h p (g.none hp))⟩
 .exact h.elim
def vm:List U->az->bH->Prop:=fun us A Q=>match us with
 | [.str z]=>z.length<=sizeLine/\Q (.int z.length) A
 | [.tup us]=>Q (.int us.length) A
 | [.bI us]=>Q (.int us.length) A
 | [.ref a]=>∃us,A a=some (.lst us)/\Q (.int us.length) A
 | _=>False
def aK.inv1(h:aK K H [u] vs):∃v,vs=[v]/\RU K H u v:=by
 cases h with
 | cons h r=>cases r;exact⟨_,rfl,h⟩
def aK.inv2(h:aK K H [u,w] vs):∃v x,vs=[v,x]/\RU K H u v/\RU K H w x:=by
 cases h with
 | cons h r=>obtain⟨x,rfl,r'⟩:=r.inv1;exact⟨_,x,rfl,h,r'⟩
def kX:hZ K (DZ K) vm:=fun xs us A H Q' Q r g h k=>by
 unfold vm at h
 split at h
 .obtain⟨v,rfl,r'⟩:=r.inv1;cases r';exact⟨h.1,k _ _ _ _ (.refl H) g (.int _) h.2⟩
 .obtain⟨v,rfl,r'⟩:=r.inv1
  cases r' with
  | tup h1 r1=>exact⟨_,.inr h1,k _ _ _ _ (.refl H) g (.int _) (by rw[<- r1.length];exact h)⟩
 .obtain⟨v,rfl,r'⟩:=r.inv1
  cases r' with
  | bI h1 r1=>exact⟨_,.inl h1.sq,k _ _ _ _ (.refl H) g (.int _) (by rw[<- r1.length];exact h)⟩
 .obtain⟨v,rfl,r'⟩:=r.inv1
  cases r'
  obtain⟨us,e,h⟩:=h
  obtain⟨vs,h1,r1⟩:=g.list e
  exact⟨_,.inl (aV.of h1),k _ _ _ _ (.refl H) g (.int _) (by rw[<- r1.length];exact h)⟩
 .exact h.elim
def xJ:List U->az->bH->Prop:=fun us A Q=>match us with
 | [.int i,.int j]=>Q (.int (min i j)) A
 | [.ref a]=>∃ns:List Int,A a=some (.lst (ns.map U.int))/\1<=ns.length/\∀m,m∈ns->(∀x∈ns,m<=x)->Q (.int m) A
 | _=>False
def S2:hZ K (El K) xJ:=fun xs us A H Q' Q r g h k=>by
 unfold xJ at h
 split at h
 .obtain⟨v,x,rfl,r1,r2⟩:=r.inv2;cases r1;cases r2;exact k _ _ _ _ (.refl H) g (.int _) h
 .obtain⟨v,rfl,r'⟩:=r.inv1;cases r'
  obtain⟨ns,e,hn,h⟩:=h
  obtain⟨vs,h1,r1⟩:=g.list e
  exact⟨ns,aV.of (by rw[h1,r1.ints]),hn,fun m hm hx=>k _ _ _ _ (.refl H) g (.int _) (h m hm hx)⟩
 .exact h.elim
def EO:List U->az->bH->Prop:=fun us A Q=>match us with
 | [.ref a]=>∃ns:List Int,A a=some (.lst (ns.map U.int))/\Q (.int ns.sum) A
 | _=>False
def S3:hZ K (D4 K) EO:=fun xs us A H Q' Q r g h k=>by
 unfold EO at h
 split at h
 .obtain⟨v,rfl,r'⟩:=r.inv1;cases r'
  obtain⟨ns,e,h⟩:=h
  obtain⟨vs,h1,r1⟩:=g.list e
  exact⟨ns,aV.of (by rw[h1,r1.ints]),k _ _ _ _ (.refl H) g (.int _) h⟩
 .exact h.elim
def Ba:U->az->Prop:=fun u A=>match u with
 | .ref a=>∃us,A a=some (.lst us)
 | _=>False
def ZR:AK K "list" Ba:=fun x u A H r g h=>by
 unfold Ba at h
 split at h
 .cases r
  obtain⟨us,e⟩:=h
  obtain⟨vs,h1,r1⟩:=g.list e
  exact .inl ⟨rfl,vs,aV.of h1⟩
 .exact h.elim
def Bb:U->List U->az->bH->Prop:=fun u us A Q=>match u,us with
 | .ref a,[w]=>∃xs,A a=some (.lst xs)/\xs.length<sizeLine/\Q .ay (af A a (.lst (xs++[w])))
 | _,_=>False
def jx:oV K Kc Bb:=fun x u xs us A H Q' Q r rs g h k=>by
 unfold Bb at h
 split at h
 .cases r
  obtain⟨v,rfl,rv⟩:=rs.inv1
  obtain⟨zs,e,hz,h⟩:=h
  obtain⟨vs,h1,r1⟩:=g.list e
  exact⟨_,vs,_,rfl,rfl,h1,by rw[<- r1.length];exact hz,k _ _ _ _ (Kp.lst h1) (g.j7 h1 (r1.app (.one rv))) .ay h⟩
 .exact h.elim
def ER:U->List U->az->bH->Prop:=fun u us A Q=>match u,us with
 | .ref a,[]=>∃xs y,A a=some (.lst (xs++[y]))/\Q y (af A a (.lst xs))
 | _,_=>False
def vn:oV K Ke ER:=fun x u xs us A H Q' Q r rs g h k=>by
 unfold ER at h
 split at h
 .cases r;cases rs
  obtain⟨zs,y,e,h⟩:=h
  obtain⟨vs,h1,r1⟩:=g.list e
  have hl:=r1.length
  rw[Yt,List.length_singleton]at hl
  obtain⟨v,hv,rv⟩:=r1.get' (i:=zs.length) (u:=y) (by simp)
  refine⟨_,vs,v,rfl,rfl,h1,by rw[<- hl];exact hv,k _ _ _ _ (Kp.lst h1) (g.j7 h1 ?_) (rv.same (Kp.lst h1)) h⟩
  have:=r1.dropLast
  rw[List.dropLast_concat]at this
  exact this
 .exact h.elim
def ES:U->List U->az->bH->Prop:=fun u us A Q=>match u,us with
 | .ref a,[.tup ws]=>∃xs,A a=some (.lst xs)/\xs.length+ws.length<=sizeLine/\Q .ay (af A a (.lst (xs++ws)))
 | _,_=>False
def S4:oV K (Er K) ES:=fun x u xs us A H Q' Q r rs g h k=>by
 unfold ES at h
 split at h
 .cases r
  obtain⟨v,rfl,rv⟩:=rs.inv1
  obtain⟨zs,e,hz,h⟩:=h
  obtain⟨vs,h1,r1⟩:=g.list e
  cases rv with
  | tup h2 r2=>exact⟨_,_,vs,_,rfl,rfl,h1,h2,by rw[<- r1.length,<- r2.length];exact hz,k _ _ _ _ (Kp.lst h1) (g.j7 h1 (r1.app r2)) .ay h⟩
 .exact h.elim
def ET:U->List U->az->bH->Prop:=fun u us A Q=>match u,us with
 | .ref a,[.ref b]=>∃xs ws,A a=some (.lst xs)/\A b=some (.lst ws)/\xs.length+ws.length<=sizeLine/\Q .ay (af A a (.lst (xs++ws)))
 | _,_=>False
def S5:oV K DD ET:=fun x u xs us A H Q' Q r rs g h k=>by
 unfold ET at h
 split at h
 .cases r
  obtain⟨v,rfl,rv⟩:=rs.inv1
  cases rv
  obtain⟨zs,ws,e,e2,hz,h⟩:=h
  obtain⟨vs,h1,r1⟩:=g.list e
  obtain⟨ys,h2,r2⟩:=g.list e2
  exact⟨_,_,vs,_,rfl,rfl,h1,h2,by rw[<- r1.length,<- r2.length];exact hz,k _ _ _ _ (Kp.lst h1) (g.j7 h1 (r1.app r2)) .ay h⟩
 .exact h.elim
def Lo(o i:AE):AG:=fun u ρ A Q=>o ρ A fun x A1=>i ρ A1 fun y A2=>∃a us m j,x=.ref a/\y=.int m/\A2 a=some (.lst us)/\jr us.length m=some j/\Q ρ (af A2 a (.lst (us.set j u)))
def S6(ho:aY K to ao)(hi:aY K ti ai):oW K (Df to ti J7) (Lo ao ai):=fun u v ρ A σ H Q' Q r hs g w k =>
 ho ρ A σ H _ _ hs g w fun x A1 v1 H1 k1 g1 r1 q1=>hi ρ A1 σ H1 _ _ (hs.same k1) g1 q1 fun y A2 v2 H2 k2 g2 r2 aF=>by
  obtain⟨a,us,m,j,e1,e2,eA,ej,q⟩:=aF
  subst e1 e2
  cases r1;cases r2
  obtain⟨vs,h1,r1⟩:=g2.list eA
  refine⟨_,vs,_,j,rfl,rfl,h1,by rw[<- r1.length];exact ej,k _ _ _ _ (k1.trans (k2.trans (Kp.lst h1))) (g2.j7 h1 (r1.set (r.same (k1.trans k2)) j)) (hs.same (k1.trans (k2.trans (Kp.lst h1)))) q⟩
end
def S7(x:U)(xs:List U):j' (x::xs) (some 1) none=xs:=by
 unfold j';have:HT.aO (x::xs).length 0 (some 1)=1:=by
  have:=HT.cz (x::xs).length 0 1;rw[show((1:Nat):Int)=1 from rfl]at this;rw[this,List.length_cons];lia
 rw[this,HT.lP,List.drop_succ_cons,zT,List.length_cons,CI,Y4]
section
def Zsn:(mh 0 (some u::ρ) A Q)=(Q u A):=rfl
def ZqI:(nq 0 u (a0::ρ) A g)=(g (some u::ρ) A):=rfl
def Zpm:(xy (some u::ρ) 0 k)=(k u):=rfl
def Zpi:(mh (i+1) (a0::ρ) A Q)=(mh i ρ A Q):=rfl
def ZuE:(nq (i+1) u (a0::ρ) A g)=(nq i u ρ A fun dJ A2=>g (a0::dJ) A2):=rfl
def ZqX:(xy (a0::ρ) (i+1) k)=(xy ρ i k):=rfl
def q_c:(aC u ρ A Q)=(Q u A):=rfl
def Zwa:(xB r a b ρ A Q)=(a ρ A fun x A1=>b ρ A1 fun y A2=>r x y A2 Q):=rfl
def ZvX:(aB a ρ A B)=(a ρ A fun x A1=>∃c,x=.bl c/\B c A1):=rfl
def Zwo{F:Bool->Prop}:(∃c,U.bl k=.bl c/\F c)=(F k):=by simp
def Zt1{F:Int->Prop}:(∃c,U.int i=.int c/\F c)=(F i):=by simp
def ZtC:(KQ c d ρ A B)=(c ρ A fun k A1=>if k=true then d ρ A1 B else B false A1):=rfl
def Zv3:(KR c d ρ A B)=(c ρ A fun k A1=>if k=true then B true A1 else d ρ A1 B):=rfl
def ZtX:(KS c ρ A B)=(c ρ A fun k A1=>B (!k) A1):=rfl
def Zpf:(KU a b ρ A Q)=(a ρ A fun x A1=>∃k,x=.bl k/\if k=true then b ρ A1 Q else Q (.bl false) A1):=rfl
def Ztu:(KW a b ρ A Q)=(a ρ A fun x A1=>∃k,x=.bl k/\if k=true then Q (.bl true) A1 else b ρ A1 Q):=rfl
def ZqQ:(sy ρ A B)=(B true A):=rfl
def Zto:(vc ρ A L)=(L [] A):=rfl
def ZrZ:(qt a l ρ A L)=(a ρ A fun x A1=>l ρ A1 fun xs A2=>L (x::xs) A2):=rfl
def Zok:(Ex us ρ A L)=(L us A):=rfl
def Ztt:(AH l ρ A Q)=(l ρ A fun xs A1=>xs.length<=sizeLine/\Q (.tup xs) A1):=rfl
def ZsG:(Ey l ρ A Q)=(l ρ A fun xs A1=>xs.length<=sizeLine/\∀p,A1 p=none->Q (.ref p) (af A1 p (.lst xs))):=rfl
def Zwm:(KY r l ρ A Q)=(l ρ A fun us A1=>r us A1 Q):=rfl
def ZqB:(Ez sp l ρ A Q)=(l ρ A fun us A1=>sp us A1 Q):=rfl
def Zk2:(KZ ρ A O)=(O none A):=rfl
def Zqd:(K0 a ρ A O)=(a ρ A fun x A1=>∃i,x=.int i/\O (some i) A1):=rfl
def Zwh{lo hi:xA}:(K2 r a lo hi ρ A Q)=(a ρ A fun x A1=>lo ρ A1 fun i A2=>hi ρ A2 fun j A3=>r x i j A3 Q):=rfl
def Zuj:(K3 y r a ρ A Q)=(a ρ A fun x A1=>y x A1/\r x [] A1 Q):=rfl
def Zwj:(EA y r a l ρ A Q)=(a ρ A fun x A1=>y x A1/\l ρ A1 fun us A2=>r x us A2 Q):=rfl
def Zrf:(K4 D ρ A)=(D.nx ρ A):=rfl
def Ztw:(K5 t t2 D ρ A)=(t { D with nx:=t2 D } ρ A):=rfl
def Zpu:(EB a D ρ A)=(a ρ A fun _ A1=>D.nx ρ A1):=rfl
def ZsI:(K6 a D ρ A)=(a ρ A D.rt):=rfl
def Ztm:(EC c t t2 D ρ A)=(c ρ A fun k A1=>if k=true then t D ρ A1 else t2 D ρ A1):=rfl
def ZtN:(K8 a g D ρ A)=(a ρ A fun x A1=>g x ρ A1 D.nx):=rfl
def ZuR{F:U->U->Prop}:(∃a b,[v,w]=[a,b]/\F a b)=(F v w):=propext ⟨fun aF=>by obtain⟨a,b,e,h⟩:=aF;injection e with e1 e2;injection e2 with e2 _;subst e1 e2;exact h,fun h=>⟨_,_,rfl,h⟩⟩
def Zs1:(K9 wi g t D ρ A)=(wi ρ A fun J A1=>sE J g t D ρ A1):=rfl
def Zuw:(La y a ρ A R)=(a ρ A fun x A1=>y x A1 R):=rfl
def ZoJ:(EH y l ρ A R)=(l ρ A fun us A1=>y us A1 R):=rfl
def Zs6:(EF (.ref p) A R)=((∃us,A p=some (.lst us))/\R (sF p) A):=rfl
def ZuG:(EF (.bI us) A R)=(R (eC us) A):=rfl
def ZvU:(Lc (.tup us) A R)=(R (eC us) A):=rfl
def ZuS:(AR [.int j] A R)=(-(2^62)<=j/\j<2^62/\R (eC (mi 0 j.toNat)) A):=rfl
def Zs2:(AV [.ref p] A R)=((∃us,A p=some (.lst us))/\R (AU p) A):=rfl
def ZsR:(AV [.bI us] A R)=(R (eC (gJ us)) A):=rfl
def ZtW:(EJ [.tup us] A R)=(R (eC (gJ us)) A):=rfl
def Zr0{bE:List (Str×Nat)}:(Lh nt bE wi g tt te ρ A Q)=(wi ρ A fun J A1=>∀l,A1 l=none->ny J g tt te l Q (aCompStart nt bE ρ) (af A1 l (.lst []))):=rfl
def Zpx:(EE n t (.tup us) ρ A N)=(us.length=n/\t us ρ A N):=propext ⟨fun aF=>by obtain⟨vs,e,h⟩:=aF;cases e;exact h,fun h=>⟨_,rfl,h⟩⟩
def Znn:(AM t ts (u::us) ρ A N)=(t u ρ A fun dJ A2=>ts us dJ A2 N):=propext ⟨fun aF=>by obtain⟨v,r,e,h⟩:=aF;cases e;exact h,fun h=>⟨_,_,rfl,h⟩⟩
def Zp1:(ED [] ρ A N)=(N ρ A):=propext ⟨fun h=>h.2,fun h=>⟨rfl,h⟩⟩
def Zqh:(vg (.int i) (.int j) A Q)=(Q (.int (i+j)) A):=rfl
def Zqu:(vg (.str x) (.str y) A Q)=(x.length+y.length<=sizeLine/\Q (.str (x++y)) A):=rfl
def ZqY:(vg (.tup us) (.tup ws) A Q)=(us.length+ws.length<=sizeLine/\Q (.tup (us++ws)) A):=rfl
def Zqw:(vg (.ref p) (.ref q) A Q)=(∃xs ys,A p=some (.lst xs)/\A q=some (.lst ys)/\xs.length+ys.length<=sizeLine/\∀p,A p=none->Q (.ref p) (af A p (.lst (xs++ys)))):=rfl
def Zv6:(xI f (.int i) (.int j) A Q)=(Q (f i j) A):=rfl
def ZsZ:(sH C f (.int i) (.int j) A Q)=(C i j/\Q (f i j) A):=rfl
def Zuo:(AY (.int i) (.int j) A Q)=(IntMulOk i j/\Q (.int (i*j)) A):=rfl
def ZuI:(AY (.ref p) (.int m) A Q)=(∃xs,A p=some (.lst xs)/\-(2^63)<=m/\m<2^63/\xs.length*m.toNat<=sizeLine/\∀p,A p=none->Q (.ref p) (af A p (.lst (List.replicate m.toNat xs).flatten))):=rfl
def ZsW:(A_ (.int i) (.int j) A Q)=(Q (.bl (decide (i<j))) A):=rfl
def ZsQ:(A_ (.str x) (.str y) A Q)=(Q (.bl (decide (x.cps.toList<y.cps.toList))) A):=rfl
def ZsK:(kU (.int i) (.int j) A Q)=(Q (.bl (decide (i=j))) A):=rfl
def Zuz:(kU (.str x) (.str y) A Q)=(Q (.bl (decide (x=y))) A):=rfl
def Zs4:(kU (.bl k) (.bl m) A Q)=(Q (.bl (decide (k=m))) A):=rfl
def ZsM:(kU (.tup us) (.tup ws) A Q)=(eE false (.tup us) (.tup ws) A Q):=rfl
def Zuk:(kU (.ref p) (.ref q) A Q)=(eE false (.ref p) (.ref q) A Q):=rfl
def Zsp:(kU (.tup us) .ay A Q)=(eE false (.tup us) .ay A Q):=rfl
def Zo3:(kU .ay (.tup us) A Q)=(eE false .ay (.tup us) A Q):=rfl
def Zph:(kU .ay .ay A Q)=(Q (.bl true) A):=rfl
def ZqC:(kU .ay (.str x) A Q)=(Q (.bl false) A):=rfl
def Zqb:(kU (.str x) .ay A Q)=(Q (.bl false) A):=rfl
def ZuP:(kW (.int i) (.int j) A Q)=(Q (.bl (!decide (i=j))) A):=rfl
def ZtS:(kW (.str x) (.str y) A Q)=(Q (.bl (!decide (x=y))) A):=rfl
def Ztc:(kW (.bl k) (.bl m) A Q)=(Q (.bl (!decide (k=m))) A):=rfl
def Zue:(kW (.tup us) (.tup ws) A Q)=(eE true (.tup us) (.tup ws) A Q):=rfl
def Zui:(kW (.ref p) (.ref q) A Q)=(eE true (.ref p) (.ref q) A Q):=rfl
def Zql:(kW (.tup us) .ay A Q)=(eE true (.tup us) .ay A Q):=rfl
def ZqM:(kW .ay (.tup us) A Q)=(eE true .ay (.tup us) A Q):=rfl
def ZqH:(kW .ay .ay A Q)=(Q (.bl false) A):=rfl
def ZpY:(kW .ay (.str x) A Q)=(Q (.bl true) A):=rfl
def ZqV:(kW (.str x) .ay A Q)=(Q (.bl true) A):=rfl
def ZuO:(Lj u .ay A Q)=(Q (.bl u.c7) A):=propext ⟨fun h=>h.2,fun h=>⟨rfl,h⟩⟩
def Zqr:(EK u .ay A Q)=(Q (.bl (!u.c7)) A):=propext ⟨fun h=>h.2,fun h=>⟨rfl,h⟩⟩
def Zsi:(nD false u (.tup us) A Q)=(u.flat=true/\us.all U.flat=true/\Q (.bl (dD u us)) A):=rfl
def ZoE:(nD true u (.tup us) A Q)=(u.flat=true/\us.all U.flat=true/\Q (.bl (!dD u us)) A):=rfl
def ZqK:(nD false u (.ref p) A Q)=(∃us,A p=some (.lst us)/\u.flat=true/\us.all U.flat=true/\Q (.bl (dD u us)) A):=rfl
def Zm2:(nD true u (.ref p) A Q)=(∃us,A p=some (.lst us)/\u.flat=true/\us.all U.flat=true/\Q (.bl (!dD u us)) A):=rfl
def ZqR:(nD false (.str x) (.str y) A Q)=(Q (.bl (u0 y x)) A):=propext ⟨fun aF=>by obtain⟨i,e,h⟩:=aF;cases e;exact h,fun h=>⟨_,rfl,h⟩⟩
def ZmV:(nD true (.str x) (.str y) A Q)=(Q (.bl (!u0 y x)) A):=propext ⟨fun aF=>by obtain⟨i,e,h⟩:=aF;cases e;exact h,fun h=>⟨_,rfl,h⟩⟩
def ZsL:(nE (.str z) (.int i) A Q)=(z.length<=sizeLine/\∃c,cm z.cps.toList i=some c/\Q (.str ⟨#[c]⟩) A):=rfl
def ZtY:(nE (.tup (u::us)) (.int 0) A Q)=(Q u A):=propext ⟨fun aF=>by obtain⟨x,e,h⟩:=aF;rw[show cm (u::us) 0=some u from ZU (j:=0) rfl]at e;cases e;exact h,fun h=>⟨_,ZU (j:=0) rfl,h⟩⟩
def ZsN:(nE (.tup (u::w::us)) (.int 1) A Q)=(Q w A):=propext ⟨fun aF=>by obtain⟨x,e,h⟩:=aF;rw[show cm (u::w::us) 1=some w from ZU (j:=1) rfl]at e;cases e;exact h,fun h=>⟨_,ZU (j:=1) rfl,h⟩⟩
def Zty:(nE (.tup (u::w::x::us)) (.int 2) A Q)=(Q x A):=propext ⟨fun aF=>by obtain⟨z,e,h⟩:=aF;rw[show cm (u::w::x::us) 2=some x from ZU (j:=2) rfl]at e;cases e;exact h,fun h=>⟨_,ZU (j:=2) rfl,h⟩⟩
def Ztn:(nE (.tup us) (.int i) A Q)=(∃x,cm us i=some x/\Q x A):=rfl
def ZuK:(nE (.bI us) (.int i) A Q)=(∃x,cm us i=some x/\Q x A):=rfl
def Zuu:(nE (.ref p) (.int i) A Q)=(∃us x,A p=some (.lst us)/\cm us i=some x/\Q x A):=rfl
def ZtP{lo hi:Option Int}:(sI (.str z) lo hi A Q)=(z.length<=sizeLine/\Q (.str (uZ z lo hi)) A):=rfl
def ZqU:(sI (.tup (u::us)) (some 1) none A Q)=(Q (.tup us) A):=by show Q (.tup (j' (u::us) (some 1) none)) A=_;rw[S7]
def ZtM{lo hi:Option Int}:(sI (.tup us) lo hi A Q)=(Q (.tup (j' us lo hi)) A):=rfl
def ZtU{lo hi:Option Int}:(sI (.bI us) lo hi A Q)=(∀p,A p=none->Q (.ref p) (af A p (.lst (j' us lo hi)))):=rfl
def Zud{lo hi:Option Int}:(sI (.ref p) lo hi A Q)=(∃us,A p=some (.lst us)/\∀p,A p=none->Q (.ref p) (af A p (.lst (j' us lo hi)))):=rfl
def Zsm:(vm [.str z] A Q)=(z.length<=sizeLine/\Q (.int z.length) A):=rfl
def ZqN:(vm [.tup us] A Q)=(Q (.int us.length) A):=rfl
def ZrH:(vm [.bI us] A Q)=(Q (.int us.length) A):=rfl
def Zrp:(vm [.ref p] A Q)=(∃us,A p=some (.lst us)/\Q (.int us.length) A):=rfl
def Zri:(xJ [.int i,.int j] A Q)=(Q (.int (min i j)) A):=rfl
def ZpS:(xJ [.ref p] A Q)=(∃ns:List Int,A p=some (.lst (ns.map U.int))/\1<=ns.length/\∀m,m∈ns->(∀x∈ns,m<=x)->Q (.int m) A):=rfl
def Zs3:(EO [.ref p] A Q)=(∃ns:List Int,A p=some (.lst (ns.map U.int))/\Q (.int ns.sum) A):=rfl
def Zum:(Ba (.ref p) A)=(∃us,A p=some (.lst us)):=rfl
def Ztl:(Bb (.ref p) [u] A Q)=(∃xs,A p=some (.lst xs)/\xs.length<sizeLine/\Q .ay (af A p (.lst (xs++[u])))):=rfl
def Ztb:(ER (.ref p) [] A Q)=(∃xs y,A p=some (.lst (xs++[y]))/\Q y (af A p (.lst xs))):=rfl
def Zpj:(ES (.ref p) [.tup us] A Q)=(∃xs,A p=some (.lst xs)/\xs.length+us.length<=sizeLine/\Q .ay (af A p (.lst (xs++us)))):=rfl
def Zta:(ET (.ref p) [.ref q] A Q)=(∃xs ws,A p=some (.lst xs)/\A q=some (.lst ws)/\xs.length+ws.length<=sizeLine/\Q .ay (af A p (.lst (xs++ws)))):=rfl
def ZpR:(Lo o i u ρ A N)=(o ρ A fun x A1=>i ρ A1 fun y A2=>∃a us m j,x=.ref a/\y=.int m/\A2 a=some (.lst us)/\jr us.length m=some j/\N ρ (af A2 a (.lst (us.set j u)))):=rfl
end
def Ext(A A':az):Prop:=∀a o,A a=some o->A' a=some o
def Ext.refl(A:az):Ext A A:=fun _ _ h=>h
def Ext.trans(h:Ext A B)(k:Ext B C):Ext A C:=fun a o e=>k a o (h a o e)
def Ext.new(h:A l=none):Ext A (af A l o):=fun b u e=>by
 rw[Zn (fun z=>by rw[z,h]at e;cases e)];exact e
def HR.ext{K:au}(e:Ext A A')(h:HR K H A'):HR K H A:=fun a o q=>h a o (e a o q)
def Fg(Q:bH):bH:=fun u A=>∃A',Ext A' A/\Q u A'
def aStart(N:List Str)(us:List U):a8:=us.map some++List.replicate (N.length-us.length) none
section
variable{K:au}
def aX.qy:∀n,aX K H (List.replicate n none) (List.replicate n none)
 | 0=>.nil
 | n+1=>.skip (aX.qy n)
def aX.start(N:List Str)(r:aK K H us vs):aX K H (aStart N us) (L2.start N vs):=by
 unfold aStart L2.start;rw[r.length];generalize N.length-vs.length=n;induction us generalizing vs with
 | nil=>cases r;exact aX.qy n
 | cons u us ih =>
  cases r with
  | cons h r=>exact .cons h (ih r)
def iW.bF{st:Stmt}(F:iW K x qual st f fd)(hs:ZQ st=sc)(hb:kP st=body)(S:gW N ps (ZQ st))(cW:gW N ps sc->∀ (bg:Value) (A:Around) (outer:List Env) (s:Shared) (H:Hp) (E:XK),bV k (A.deeper (envOfC qual sc s.heap.objs.size f bg)) ->
   ∃t,dW (fo aQ P w K mg base N qual sc f bg A outer s H E).nc body t/\c6 K t as)(iM:∀us A Q,bj us A Q->us.length=ps.length/\as { nx:=fun _ A'=>Fg Q .ay A',rt:=Fg Q } (aStart N us) A):cF P w K mg base aQ (k+1) f fd ps (a6 K bj):=by
 refine F.D1 hs hb S (fun vs H Q E ⟨us,A,Q',r,g,h,_⟩=>?_) fun S bg A outer s H vs Q E hr ⟨us,A',Q',r,g,h,k⟩=>?_
 .rw[<- r.length];exact(iM us A Q' h).1
 .obtain⟨t,ht,ha⟩:=cW S bg A outer s H E hr;exact⟨t,ht,ha _ _ _ _ _ _ (aX.start N r) g (iM us A' Q' h).2 ⟨fun ρ A σ H' k' g' s' ⟨A3,e,q'⟩=>k _ _ _ _ k' (g'.ext e) .ay q',fun u A v H' k' g' r' ⟨A3,e,q'⟩=>k _ _ _ _ k' (g'.ext e) r' q',fun _ _ _ _ _ _ _ q=>q.elim,fun _ _ _ _ _ _ _ q=>q.elim⟩⟩
def Bc:bQ:=fun us A Q=>∃ns:List Int,us=[.bI (ns.map U.int)]/\ns.length<=63/\∀A',Q (.bl true) A'
def S8{ns:List Int}(hl:ns.length<=63)(hO:Ak H)(hS:aV K H a (ns.map V.int)):a6 K Bc [.ref a] H (fun v _=>v=.bl true) E:=by
 have hR:sx K H a (ns.map V.int):=by
  rcases hS with(h|h)|h
  .rcases hO a with e|⟨o,xs,e⟩<;>rw[e]at h<;>cases h
  .exact .inl h
  .exact .inr h
 exact⟨[.bI (ns.map U.int)],fun _=>none,fun u _=>u=.bl true,.one (.bI hR aK.jw),(fun a o e=>by cases e),⟨ns,rfl,hl,fun _=>rfl⟩,fun u A v H' _ _ r e=>by subst e;cases r;rfl⟩
end
def xK:U->az->(Bool->az->Prop)->Prop:=fun x A1 Q=>match x with
 | .ref p=>∃us,A1 p=some (.lst us)/\Q (!us.isEmpty) A1
 | .tup us=>Q (!us.isEmpty) A1
 | .bl b=>Q b A1
 | .int i=>Q (i != 0) A1
 | .ay=>Q false A1
 | _=>False
def Lp(a:AE):AT:=fun ρ A Q=>a ρ A fun x A1=>xK x A1 Q
def aK.empty{K:au}(r:aK K H us vs):vs.isEmpty=us.isEmpty:=by cases r<;>rfl
def EU{K:au}(ha:aY K t a):hU K (fun σ H Q=>t σ H fun x H'=>∃k,Dp K x H' k/\Q k H') (Lp a):=fun ρ A σ H Q' Q hs g w k =>
 ha ρ A σ H _ _ hs g w fun x A1 v H1 k1 g1 r1 q1=>by
  cases r1 with
  | ref p =>
   obtain⟨us,e,q1⟩:=q1
   obtain⟨vs,h1,r1⟩:=g1.list e
   exact⟨_,.inl ⟨vs,aV.of h1,rfl⟩,k _ _ _ k1 g1 (by rw[r1.empty];exact q1)⟩
  | tup h r=>exact⟨_,.inr (.inl ⟨_,h,rfl⟩),k _ _ _ k1 g1 (by rw[r.empty];exact q1)⟩
  | bl b=>exact⟨b,rfl,k _ _ _ k1 g1 q1⟩
  | int i=>exact⟨_,rfl,k _ _ _ k1 g1 q1⟩
  | ay=>exact⟨_,rfl,k _ _ _ k1 g1 q1⟩
  | _=>exact q1.elim
def Zut:(Lp a ρ A B)=(a ρ A fun x A1=>xK x A1 B):=rfl
def Zqs:(xK (.ref p) A B)=(∃us,A p=some (.lst us)/\B (!us.isEmpty) A):=rfl
def Zqp:(xK (.tup us) A B)=(B (!us.isEmpty) A):=rfl
def ZpC:(xK (.bl k) A B)=(B k A):=rfl
section
def Bd(items:List U)(Pv:Nat->a8->az->Prop)(h0:Pv 0 ρ A)(hJ:∀k ρ A,k<=items.length->Pv k ρ A->J k A items[k]?)(hs:∀k u ρ A,items[k]? = some u->Pv k ρ A->g u ρ A fun dJ A2=>b { D with nx:=Pv (k+1),ct:=Pv (k+1),bk:=D.nx } dJ A2)(hd:∀ρ A,Pv items.length ρ A->D.nx ρ A):sE J g b D ρ A:=by
 refine⟨fun k m ρ A=>m=items.length-k/\k<=items.length/\Pv k ρ A,⟨_,rfl,Y0 _,h0⟩,?_⟩;rintro k m ρ A ⟨rfl,hk,p⟩;have j:=hJ k ρ A hk p;by_cases bD:k<items.length
 .rw[Yg bD]at j;exact .inr ⟨_,j,Pv (k+1),fun dh A' p'=>⟨items.length-(k+1),by lia,rfl,bD,p'⟩,hs k _ ρ A (Yg bD) p⟩
 .have e:k=items.length:=by lia
  subst e;rw[Y1 (Yj _)]at j;exact .inl ⟨j,hd ρ A p⟩
def Lq(Pv:Nat->a8->az->Prop)(h0:Pv 0 ρ A)(hs:∀k u ρ A,us[k]? = some u->Pv k ρ A->g u ρ A fun dJ A2=>b { D with nx:=Pv (k+1),ct:=Pv (k+1),bk:=D.nx } dJ A2)(hd:∀ρ A,Pv us.length ρ A->D.nx ρ A):sE (eC us) g b D ρ A :=
 Bd us Pv h0 (fun _ _ _ _ _=>rfl) hs hd
def nF(us:List U)(Pv:Nat->a8->az->Prop)(h0:Pv 0 ρ A)(hl:∀k ρ A,k<=us.length->Pv k ρ A->A a=some (.lst us))(hs:∀k u ρ A,us[k]? = some u->Pv k ρ A->g u ρ A fun dJ A2=>b { D with nx:=Pv (k+1),ct:=Pv (k+1),bk:=D.nx } dJ A2)(hd:∀ρ A,Pv us.length ρ A->D.nx ρ A):sE (sF a) g b D ρ A :=
 Bd us Pv h0 (fun k ρ A hk p=>⟨us,hl k ρ A hk p,rfl⟩) hs hd
def xM{lo:Int}(Pv:Nat->a8->az->Prop)(h0:Pv 0 ρ A)(hs:∀(k:Nat) ρ A,k<n->Pv k ρ A->g (.int (lo+k)) ρ A fun dJ A2=>b { D with nx:=Pv (k+1),ct:=Pv (k+1),bk:=D.nx } dJ A2)(hd:∀ρ A,Pv n ρ A->D.nx ρ A):sE (eC (mi lo n)) g b D ρ A :=
 Bd (mi lo n) Pv h0 (fun k ρ A hk p=>rfl) (fun k u ρ A hu p=>by
  rw[EG]at hu
  by_cases h:k<n
  .rw[if_pos h]at hu;cases hu;exact hs k ρ A h p
  .rw[if_neg h]at hu;cases hu) (by rw[eD];exact hd)
end
def eF{A:az}(h:A a=some o)(h':A b=none):a≠b:=fun e=>by rw[e,h']at h;cases h
section
def Lr(items:List U)(p:Nat->Bool)(f:Nat->U)(T:a8->Prop)(h0:T τ)(hl:A l=none)(hn:items.length<=100000)(hJ:∀ k A2,k<=items.length->Ext A A2->J k A2 items[k]?)(hs : ∀ k u τ A2,items[k]? = some u->T τ->Ext A A2->∀ (Cy:a8->U->az->Prop) (Cn:a8->az->Prop),(p k=true->∀ aS,T aS->Cy aS (f k) A2)->(p k=false->∀ aS,T aS->Cn aS A2) ->
   g u τ A2 fun aS A3=>tt aS A3 fun ok A4=>if ok=true then te aS A4 (Cy aS)else Cn aS A4)(hd:Q (.ref l) (af A l (.lst (((List.range items.length).filter p).map f)))):ny J g tt te l Q τ (af A l (.lst [])):=by
 refine⟨fun i m τ A2=>m=items.length-i/\i<=items.length/\T τ/\A2=af A l (.lst (((List.range i).filter p).map f)),⟨_,rfl,Y0 _,h0,rfl⟩,?_⟩;rintro i m τ A2 ⟨rfl,hi,ht,rfl⟩;have j:=hJ i _ hi (Ext.new (o:=.lst (((List.range i).filter p).map f)) hl);by_cases bD:i<items.length
 .have hu:items[i]? = some items[i]:=Yg bD;rw[hu]at j;refine .inr ⟨_,j,hs i _ τ _ hu ht (Ext.new hl) _ _ (fun hp aS ka=>⟨_,Zd,?_,_,?_,rfl,bD,ka,?_⟩) (fun hp aS ka=>⟨_,?_,rfl,bD,ka,?_⟩)⟩
  .have:(((List.range i).filter p).map f).length<=i:=by rw[Yc];exact YE (List.length_filter_le ..) (by simp)
   have:(100000:Nat)<sizeLine:=by decide
   lia
  .lia
  .rw[ZP,List.range_succ,zM,Ys];simp[hp]
  .lia
  .rw[List.range_succ,zM,Ys];simp[hp]
 .have e:i=items.length:=by lia
  subst e;rw[Y1 (Yj _)]at j;exact .inl ⟨j,hd⟩
def Ls(items ys:List U)(hlen:ys.length=items.length)(hl:A l=none)(hn:items.length<=100000)(hJ:∀k A2,k<=items.length->Ext A A2->J k A2 items[k]?)(hs:∀(k:Nat) u y A2,items[k]? = some u->ys[k]? = some y->Ext A A2->∀Cy:U->az->Prop,Cy y A2->te (some u::fr) A2 Cy)(hd:Q (.ref l) (af A l (.lst ys))):ny J (nq 0) sy te l Q (x0::fr) (af A l (.lst [])):=by
 refine Lr items (fun _=>true) (fun k=>(ys[k]?).getD .ay) (fun τ=>∃x,τ=x::fr) ⟨_,rfl⟩ hl hn hJ ?_ ?_
 .rintro k u τ A2 hu ⟨x,rfl⟩ he Cy Cn hy iU;show if true=true then te (some u::fr) A2 (Cy (some u::fr))else Cn (some u::fr) A2;rw[if_pos rfl];have hk:k<ys.length:=by rw[hlen];exact(Yh.mp hu).1
  have Lu:ys[k]? = some ys[k]:=Yg hk;refine hs k u _ A2 hu Lu he _ ?_;have:=hy rfl (some u::fr) ⟨_,rfl⟩;rw[Lu]at this;exact this
 .have e:((List.range items.length).filter fun _=>true).map (fun k=>(ys[k]?).getD .ay)=ys:=by
   rw[zL.mpr (fun _ _=>rfl),<- hlen];apply I_
   .simp
   .intro i h1 h2;simp[Yg h2]
  rw[e];exact hd
def Lv(items:List U)(p:Nat->Bool)(f:Nat->U)(hl:A l=none)(hn:items.length<=100000)(hJ:∀k A2,k<=items.length->Ext A A2->J k A2 items[k]?)(hs:∀(k:Nat) u A2,items[k]? = some u->Ext A A2->∀(Cy:U->az->Prop)(Cn:az->Prop),(p k=true->Cy (f k) A2)->(p k=false->Cn A2)->tt (some u::fr) A2 fun ok A4=>if ok=true then te (some u::fr) A4 Cy else Cn A4)(hd:Q (.ref l) (af A l (.lst (((List.range items.length).filter p).map f)))):ny J (nq 0) tt te l Q (x0::fr) (af A l (.lst [])):=by
 refine Lr items p f (fun τ=>∃x,τ=x::fr) ⟨_,rfl⟩ hl hn hJ ?_ hd;rintro k u τ A2 hu ⟨x,rfl⟩ he Cy Cn hy iU;exact hs k u A2 hu he _ _ (fun h=>hy h _ ⟨_,rfl⟩) fun h=>iU h _ ⟨_,rfl⟩
end
section
inductive xN (K:au) (H:Hp):V->Value->Prop
 | of {x:V} {t:Value}:jY K H x t->xN K H x t
 | tup {a:Addr} {xs:List V}:bf K H a xs->xN K H (.ref a) (.type "tuple")
def EV(K:au):List V->Hp->VK->Prop:=fun xs H Q=>match xs with
 | [x,.ty n]=>∃t b,xN K H x t/\PySem.W.kitOne K t (.type n)=some b/\Q (.bl b) H
 | [x,.ref c]=>∃t b,xN K H x t/\PySem.W.kitOne K t (.ref c)=some b/\Q (.bl b) H
 | _=>False
def S9:cf X (.builtin "isinstance") (EV X.K):=by
 intro pins s σ H xs us Q I r h;have go:∀(x:V)(u t:Value)(c:Value)(b:Bool),aZ x u->xN X.K H x t->PySem.W.kitOne X.K t c=some b->Q (.bl b) H->wpAny (model X.prog X.w) X.A (call (.builtin "isinstance") [u,c]) (EP X pins σ Q) X.xe s:=by
  intro x u t c b rx ty e q;cases ty with
  | of ty=>exact JL I rx ty e fun tk=>⟨.bl b,H,I.tok _,rfl,q⟩
  | tup hq =>
   cases rx;obtain⟨its,rv,⟨o,h1,h2,h3⟩,hz⟩:=I.tuple hq;exact Y6 IM I.bo ⟨o,h1,h2⟩ e (fun z=>nomatch z) fun tk=>⟨.bl b,H,I.tok _,rfl,q⟩
 unfold EV at h;split at h
 .obtain⟨t,b,ty,e,q⟩:=h;cases r with
  | cons r1 r2 =>
   cases r2 with
   | cons r2 r3 =>
    cases r3;cases r2;exact go _ _ _ _ _ r1 ty e q
 .obtain⟨t,b,ty,e,q⟩:=h;cases r with
  | cons r1 r2 =>
   cases r2 with
   | cons r2 r3 =>
    cases r3;cases r2;exact go _ _ _ _ _ r1 ty e q
 .exact h.elim
end
section
variable{K:au}
def Lw(u:U)(n:String):Bool:=match u with
 | .ay=>n == "NoneType"
 | .bl _=>n == "bool" || n == "int"
 | .int _=>n == "int"
 | .str _=>n == "str"
 | .tup _=>n == "tuple"
 | _=>false
def EW:List U->az->bH->Prop:=fun us A Q=>match us with
 | [u,.ty n]=>(n="int"\/n="bool"\/n="str"\/n="tuple")/\(match u with|.bI _=>False|.ref _=>False|.ty _=>False|_=>True)/\Q (.bl (Lw u n)) A
 | _=>False
def S_:hZ K (EV K) EW:=fun xs us A H Q' Q r g h k=>by
 unfold EW at h
 split at h
 .rename_i u n
  obtain⟨hn,hu,h⟩:=h
  obtain⟨v,x,rfl,r1,r2⟩:=r.inv2
  cases r2
  cases r1 with
  | ay=>rcases hn with rfl|rfl|rfl|rfl<;>exact⟨_,_,.of .ay,rfl,k _ _ _ _ (.refl H) g (.bl _) h⟩
  | bl b=>rcases hn with rfl|rfl|rfl|rfl<;>exact⟨_,_,.of (.bl b),rfl,k _ _ _ _ (.refl H) g (.bl _) h⟩
  | int b=>rcases hn with rfl|rfl|rfl|rfl<;>exact⟨_,_,.of (.int b),rfl,k _ _ _ _ (.refl H) g (.bl _) h⟩
  | str b=>rcases hn with rfl|rfl|rfl|rfl<;>exact⟨_,_,.of (.str b),rfl,k _ _ _ _ (.refl H) g (.bl _) h⟩
  | tup h1 r1=>rcases hn with rfl|rfl|rfl|rfl<;>exact⟨_,_,.tup h1,rfl,k _ _ _ _ (.refl H) g (.bl _) h⟩
  | ty _=>exact hu.elim
  | ref _=>exact hu.elim
  | bI _ _=>exact hu.elim
 .exact h.elim
def ZtH:(EW [u,.ty n] A Q)=((n="int"\/n="bool"\/n="str"\/n="tuple")/\(match u with|.bI _=>False|.ref _=>False|.ty _=>False|_=>True)/\Q (.bl (Lw u n)) A):=rfl
def EX:U->List U->az->bH->Prop:=fun u us A Q=>match us with
 | [.str z]=>∃(ss:List Str)(j:Nat),(u=.tup (ss.map U.str)\/∃a,u=.ref a/\A a=some (.lst (ss.map U.str)))/\ss[j]? = some z/\(∀m,m<j->ss[m]?≠some z)/\Q (.int j) A
 | _=>False
def S':oV K (KN fun x ss H=>∃a,x=.ref a/\H a=some (.lst (ss.map V.str))) (fun u us A Q=>(∃a,u=.ref a)/\EX u us A Q):=fun x u xs us A H Q' Q r rs g aF k=>by
 obtain⟨⟨a,ea⟩,h⟩:=aF
 unfold EX at h
 split at h
 .obtain⟨ss,j,hu,e1,e2,h⟩:=h
  obtain⟨v,rfl,rv⟩:=rs.inv1
  cases rv
  rcases hu with rfl|⟨b,rfl,hb⟩
  .cases ea
  .cases r
   obtain⟨vs,h1,r1⟩:=g.list hb
   exact⟨ss,_,j,⟨b,rfl,by rw[h1,r1.strs]⟩,rfl,e1,e2,k _ _ _ _ (.refl H) g (.int _) h⟩
 .exact h.elim
end
def qz{x:U}:[x].length<=sizeLine:=by show 1<=sizeLine;decide
def ck{x y:U}:[x,y].length<=sizeLine:=by show 2<=sizeLine;decide
def Ta{x y z:U}:[x,y,z].length<=sizeLine:=by show 3<=sizeLine;decide
def EY(h:n<=100000):n<=sizeLine:=YE h (by decide)
def ZX(h:n<=100000):n<sizeLine:=Nat.lt_of_le_of_lt h (by decide)
def fg(h:Q u A):Fg Q u A:=⟨A,Ext.refl A,h⟩
def vo(e:Ext A A')(h:Q u A):Fg Q u A':=⟨A,e,h⟩
def kc{X Y:Prop}(h1:b=true->X)(h2:b=false->Y):if b=true then X else Y:=by
 cases b
 .exact jv (by decide) (h2 rfl)
 .exact gH rfl (h1 rfl)
def ZS{X Y:Prop}(hb:b=true)(h:X):if b=true then X else Y:=gH hb h
def Zw{X Y:Prop}(hb:b=false)(h:Y):if b=true then X else Y:=jv (by rw[hb];decide) h
def Zr2:((fun(u:U)(us:List U)(A:az)(Q:bH)=>(∃a,u=.ref a)/\EX u us A Q) (.ref p) [.str z] A Q)=(∃(ss:List Str)(j:Nat),A p=some (.lst (ss.map U.str))/\ss[j]? = some z/\(∀m,m<j->ss[m]?≠some z)/\Q (.int j) A):=by
 refine propext ⟨fun⟨_,ss,j,h,h1,h2,h3⟩=>?_,fun⟨ss,j,h,h1,h2,h3⟩=>⟨⟨p,rfl⟩,ss,j,.inr ⟨p,rfl,h⟩,h1,h2,h3⟩⟩;rcases h with h|⟨a,e,h⟩
 .cases h
 .cases e;exact⟨ss,j,h,h1,h2,h3⟩
def Ext.put(e:Ext A A2):Ext (af A a o) (af A2 a o):=fun b u h=>by
 by_cases hb:b=a
 .subst hb;rw[Zd]at h ⊢;exact h
 .rw[Zn hb]at h ⊢;exact e b u h
def Tb(h:a≠l):af (af A a x) l y=af (af A l y) a x:=by
 funext b;unfold af;by_cases h1:b=l
 .rw[if_pos h1,if_neg (fun e=>h (e.symm.trans h1)),if_pos h1]
 .rw[if_neg h1];by_cases h2:b=a
  .rw[if_pos h2,if_pos h2]
  .rw[if_neg h2,if_neg h2,if_neg h1]
def Tc{ns:List Int}{i:Int}(h0:0<=i)(h:i<ns.length):∃z,cm (ns.map U.int) i=some (.int z)/\ns[i.toNat]? = some z:=by
 obtain⟨v,h1,h2⟩:=Kz (xs:=ns.map U.int) (i:=i) h0 (by rw[Yc];exact h);rw[Yi]at h2;obtain⟨z,hz,rfl⟩:=YO.mp h2;exact⟨z,h1,hz⟩
def Z9{α β:Type}{f:α->β}{xs:List α}{k:Nat}{u:β}(h:(xs.map f)[k]? = some u):∃x,xs[k]? = some x/\u=f x:=by
 rw[Yi]at h;obtain⟨x,hx,rfl⟩:=YO.mp h;exact⟨x,hx,rfl⟩
def oZ{K:au}{st:Stmt}(F:iW K x qual st f fd)(S:gW N ps (ZQ st))(h:∀us A Q,¬bj us A Q):cF P w K mg base aQ k f fd ps (a6 K bj) :=
 ⟨fun vs H Q E ⟨us,A,Q',_,_,q,_⟩=>(h us A Q' q).elim,fun A outer s H args us vs Q E _ _ _ _ ⟨ws,A',Q',_,_,q,_⟩=>(h ws A' Q' q).elim⟩
def ki(i j:Nat):(((i:Nat):Int)==((j:Nat):Int))=(i==j):=by
 by_cases h:i=j
 .subst h;simp
 .rw[Yw.mpr h,Yw.mpr (by lia)]
def Lx(K:au):V->Hp->(It->Hp->Prop)->Prop:=fun x H R=>Kv K x H R\/Kw K x H R
section
def dZ(hl:PE X a te):PI X tg a (xi (Lx X.K) te):=by
 intro pins s σ H R I h;refine aM (hl pins s σ H _ I h) fun v s1 aL=>?_;obtain⟨x,H1,I1,r1,q1⟩:=aL;have fp:∀b∈[s1.heap.objs.size],gD X pins H1 b:=fun b hb=>by
  obtain rfl:b=s1.heap.objs.size:=by simpa using hb
  exact I1.gU (Yj _) (I1.aG.fresh (Yj _))
 have J1:∀o,Inv X pins σ H1 { s1 with heap:=s1.heap.push o }:=fun o=>I1.kept (t':=s1.toks) fun b u e=>Ye _ e;cases x with
 | ref l =>
  cases r1;rcases q1 with⟨⟨xs,hq⟩,q⟩|⟨⟨xs,hq⟩,q⟩
  .obtain⟨its,rv,pl,hz⟩:=I1.list hq;exact uG pl.isList ⟨s1.heap.objs.size,[s1.heap.objs.size],_,_,H1,rfl,J1 _,Qm l _,⟨_,Yl _ rfl,rfl,rfl⟩,fp,q⟩
  .obtain⟨its,rv,pl,hz⟩:=I1.tuple hq;exact CJ (show s1.heap.IsTuple l its.toArray from pl) ⟨s1.heap.objs.size,[s1.heap.objs.size],_,_,H1,rfl,J1 _,Qn l _,⟨_,Yl _ rfl,rfl,rfl⟩,fp,q⟩
 | _=>rcases q1 with q|q<;>exact q.elim
def Ly(K:au):List V->Hp->(It->Hp->Prop)->Prop:=fun vs H R=>Ej K vs H R\/En K vs H R
def Td(hg:Gl X "enumerate")(hm:X.mg "enumerate"=none)(ha:PA X [a] ta)(hs:starEach [a] X.env=[(false,eval a X.env)]:=by rfl):
  PI X (.Tuple elts k0 tp) (.Call (.Name "enumerate" p) [a] [] pos) (KG (Ly X.K) ta):=by
 intro pins s σ H R I h;refine Call_ (og I hg hm Sd (wg (aM (ha pos pins s σ H _ I h) fun us s1 ⟨vs,H1,I1,r1,q1⟩=>?_) hs rfl));have fp:∀b∈[s1.heap.objs.size+1,s1.heap.objs.size],gD X pins H1 b:=fun b hb=>by
  have xO:s1.heap.objs.size<=b:=by
   simp only[Yo,YG,eZ]at hb;rcases hb with e|e<;>subst e<;>first|exact IZ _ _|exact Yj _
  exact I1.gU xO (I1.aG.fresh xO)
 rcases q1 with q1|q1
 .unfold Ej at q1;split at q1
  .obtain⟨⟨xs,hx⟩,q⟩:=q1;cases r1 with
   | cons r rr =>
    cases rr;cases r;obtain⟨its,rv,pl,_⟩:=I1.list hx;exact call_enumerate_list pl.isList fun h' a1 a2 a3 hk=>zO a1 ⟨s1.heap.objs.size+1,_,_,_,H1,rfl,I1.kept (t':=s1.toks) hk,Sb (Nat.succ_ne_self _),⟨⟨_,a1⟩,a2⟩,fp,q⟩
  .exact q1.elim
 .unfold En at q1;split at q1
  .obtain⟨⟨xs,hx⟩,q⟩:=q1;cases r1 with
   | cons r rr =>
    cases rr;cases r;obtain⟨its,rv,pl,_⟩:=I1.tuple hx;exact Sr pl fun h' a1 a2 hk=>zO a1 ⟨s1.heap.objs.size+1,_,_,_,H1,rfl,I1.kept (t':=s1.toks) hk,Sx (Nat.succ_ne_self _),⟨⟨_,a1⟩,a2⟩,fp,q⟩
  .exact q1.elim
end
section
variable{K:au}
def Be:U->az->(fu->az->Prop)->Prop:=fun u A R=>match u with
 | .ref a=>(∃us,A a=some (.lst us))/\R (sF a) A
 | .bI us=>R (eC us) A
 | .tup us=>R (eC us) A
 | _=>False
def Z2:sG K (Lx K) Be:=fun x v A H R' R r g w k=>by
 cases r with
 | ref a=>exact .inl (Lb (.ref a) _ A H R' R (.ref a) g w k)
 | bI h1 r1=>exact .inl (Lb _ _ A H R' R (.bI h1 r1) g w k)
 | tup h1 r1=>exact .inr (SS _ _ A H R' R (.tup h1 r1) g w k)
 | _=>exact w.elim
def xP:List U->az->(fu->az->Prop)->Prop:=fun us A R=>match us with
 | [.ref a]=>(∃us,A a=some (.lst us))/\R (AU a) A
 | [.bI us]=>R (eC (gJ us)) A
 | [.tup us]=>R (eC (gJ us)) A
 | _=>False
def Te:xF K (Ly K) xP:=fun x v A H R' R r g w k=>by
 unfold xP at w
 split at w
 .exact .inl (Lg _ _ A H R' R r g w k)
 .exact .inl (Lg _ _ A H R' R r g w k)
 .exact .inr (SY _ _ A H R' R r g w k)
 .exact w.elim
def ZuQ:(Be (.ref p) A R)=((∃us,A p=some (.lst us))/\R (sF p) A):=rfl
def ZuJ:(Be (.bI us) A R)=(R (eC us) A):=rfl
def Zun:(Be (.tup us) A R)=(R (eC us) A):=rfl
def Zrx:(xP [.ref p] A R)=((∃us,A p=some (.lst us))/\R (AU p) A):=rfl
def ZqW:(xP [.bI us] A R)=(R (eC (gJ us)) A):=rfl
def Zq1:(xP [.tup us] A R)=(R (eC (gJ us)) A):=rfl
end
section
def Lz(K:au):V->List V->Hp->VK->Prop:=fun x vs H Q=>DD x vs H Q\/Er K x vs H Q
def LA:wW X "list.extend" (Lz X.K):=fun pins s σ H x vs v us Q I rx rv h=>by
 rcases h with h|h
 .exact Ry pins s σ H x vs v us Q I rx rv h
 .exact SH pins s σ H x vs v us Q I rx rv h
variable{K:au}
def Bf:U->List U->az->bH->Prop:=fun u us A Q=>match u,us with
 | .ref a,[.tup ws]=>∃xs,A a=some (.lst xs)/\xs.length+ws.length<=sizeLine/\Q .ay (af A a (.lst (xs++ws)))
 | .ref a,[.ref b]=>∃xs ws,A a=some (.lst xs)/\A b=some (.lst ws)/\xs.length+ws.length<=sizeLine/\Q .ay (af A a (.lst (xs++ws)))
 | _,_=>False
def LB:oV K (Lz K) Bf:=fun x u xs us A H Q' Q r rs g h k=>by
 unfold Bf at h
 split at h
 .exact .inr (S4 _ _ _ _ A H Q' Q r rs g h k)
 .exact .inl (S5 _ _ _ _ A H Q' Q r rs g h k)
 .exact h.elim
def Zo0:(Bf (.ref p) [.tup us] A Q)=(∃xs,A p=some (.lst xs)/\xs.length+us.length<=sizeLine/\Q .ay (af A p (.lst (xs++us)))):=rfl
def Zr7:(Bf (.ref p) [.ref q] A Q)=(∃xs ws,A p=some (.lst xs)/\A q=some (.lst ws)/\xs.length+ws.length<=sizeLine/\Q .ay (af A p (.lst (xs++ws)))):=rfl
end
def dN{α:Type}(xs:List α)(lo hi:Option Int):List α:=(xs.drop (HT.aO xs.length 0 lo)).take (HT.aO xs.length xs.length hi-HT.aO xs.length 0 lo)
def vp(f:α->U)(xs:List α)(lo hi:Option Int):j' (xs.map f) lo hi=(dN xs lo hi).map f:=by
 unfold j' dN;rw[Yc,wx,List.map_drop]
end L2
set_option maxHeartbeats 4000000
namespace SortA
open PySem PySem.W PyProof.Rows
section
def Le(lt:Nat->Nat->Bool)(p:Array Nat)(i j:Nat):Prop:=lt (p.getD j 0) (p.getD i 0)=false
def Dn(lt:Nat->Nat->Bool)(p:Array Nat)(m:Nat):Prop:=∀i j,i<j->j<m->Le lt p j i
end
end SortA
namespace N2
open PySem PyProof.Rows
section
variable{K:Type}[DecidableEq K](kk:KeyKind prog w K)
inductive vq (h:Heap):List (List K)->List Value->Prop
 | nil:vq h [] []
 | cons {k:List K} {a:Addr} {ks:List (List K)} {vs:List Value} (one:IsTupleKey kk h k a) (more:vq h ks vs):vq h (k::ks) (.ref a::vs)
def Bg(h:Heap)(ks:List (List K))(a:Addr):Prop:=∃ob its n,(h.get? a=some ob/\ob.cls=.type "tuple")/\ob.data=.seq its n/\vq kk h ks its.toList
def Bg.ty{s:Shared}(x:Bg kk s.heap ks a):s.TypeIs (.ref a) "tuple":=by
 obtain⟨ob,_,_,⟨e,c⟩,_⟩:=x;exact⟨ob,e,c⟩
theorem Zs8 (hu:A.units < cLine) (hx:Bg kk s.heap x a) (hy:Bg kk s.heap y b) (h:P (.done (.ret (.bool (decide (x=y))))) s) :
  wpAny (model prog w) A (Builtin.«tuple.__eq__» ⟨[.ref a,.ref b],[]⟩) P E s:=by
 have tb:=hy.ty
 obtain ⟨oa,xs,na,⟨ea,_⟩,da,ia⟩:=hx
 obtain ⟨ob,ys,nb,⟨eb,_⟩,db,ib⟩:=hy
 show wpAny _ _ (isInstance (.ref b) (.type "tuple") >>= _) _ _ s
 refine Yb (rn tb isSubtype_tuple_tuple ?_)
 simp only [Bool.not_true,Y2,fj]
 refine Yb (wpAny_tupleItemsOf ea da ?_)
 refine Yb (wpAny_tupleItemsOf eb db ?_)
 refine Yb ?_
 refine wpAny_forIn_list _
  (fun rest r s'=>r.1=none/\s'=s/\∃ x1 y1 xQ xR,rest=List.zip xQ xR/\vq kk s.heap x1 xQ/\vq kk s.heap y1 xR/\decide (x1=y1)=decide (x=y)/\(xQ.length == xR.length)=(xs.size == ys.size))
  _ ?_ ?_ _ _ ⟨rfl,rfl,x,y,xs.toList,ys.toList,rfl,ia,ib,rfl,by simp⟩
 ·intro uv rest r s' hh
  obtain ⟨u,v⟩:=uv
  obtain ⟨hr,e0,x1,y1,xQ,xR,hz,p,q,o5,hlen⟩:=hh
  subst e0
  cases p with
  | nil=>simp at hz
  | @cons k1 a1 x2 Tf one p2 =>
   cases q with
   | nil=>simp at hz
   | @cons k2 a2 y2 Tg two q2 =>
    simp only [List.zip_cons_cons,wu,Prod.mk.injEq] at hz
    obtain ⟨⟨z1,z2⟩,z3⟩:=hz
    subst z1 z2 z3
    refine Yb (wpAny_eqBool_tuple hu one two ?_)
    by_cases c:k1=k2
    ·subst c
     rw [YA rfl]
     simp only [Bool.not_true,Y2,fj]
     refine Yd ⟨rfl,rfl,x2,y2,Tf,Tg,rfl,p2,q2,?_,by simpa using hlen⟩
     rw [<- o5]
     by_cases d:x2=y2
     ·simp [d]
     ·simp [d]
    ·rw [Yu c]
     simp only [Bool.not_false,if_true]
     have no:decide (x=y)=false:=by rw [<- o5];simp [c]
     rw [no] at h
     exact Yb (Yd (Yd (Yd h)))
 ·intro rr s' hh
  obtain ⟨r1,r2⟩:=rr
  obtain ⟨hr,e0,x1,y1,xQ,xR,hz,p,q,o5,hlen⟩:=hh
  subst e0
  simp only at hr
  subst hr
  refine Yd ?_
  have fin:(xs.size == ys.size)=decide (x=y):=by
   rw [<- o5,<- hlen]
   cases p with
   | nil =>
    cases q with
    | nil=>simp
    | cons _ _=>simp
   | cons _ _ =>
    cases q with
    | nil=>simp
    | cons _ _=>simp at hz
  show P (.done (.ret (.bool (xs.size == ys.size)))) s'
  rw [fin];exact h
end
end N2
namespace N2
open PySem PyProof.Rows PySem.F
end N2
namespace L2
open PySem PySem.Spec PyProof.Rows N2
def LC:∀ {xs:List V} {us:List Value} {i:Nat} {u:Value},Z3 xs us->us[i]? = some u->∃x,xs[i]? = some x/\aZ x u
 | _,_,_,_,.nil,e=>by simp at e
 | _,_,0,_,.cons h _,e=>by simp at e;subst e;exact⟨_,rfl,h⟩
 | _,_,i+1,_,.cons _ r,e=>by simp at e;simpa using LC r e
theorem gG.at{K:au}:∀ {ds:List PyData} {vs:List V} {i:Nat} {v:V},gG K H ds vs->vs[i]? = some v->∃d,ds[i]? = some d/\Rep K H d v
 | _,_,_,_,.nil,e=>by simp at e
 | _,_,0,_,.cons h _,e=>by simp at e;subst e;exact⟨_,rfl,h⟩
 | _,_,i+1,_,.cons _ r,e=>by simp at e;simpa using gG.at r e
def gG.len{K:au}:∀ {ds:List PyData} {vs:List V},gG K H ds vs->ds.length=vs.length
 | _,_,.nil=>rfl
 | _,_,.cons _ r=>by rw[List.length_cons,List.length_cons,r.len]
def Kp.ext{K:au}(h:H l=some (.ext φ)):Kp K H (upd H l o'):=⟨fun a xs q=>by
 rcases q with(q|⟨o,q⟩)|q
 .exact .inl (.inl (by rw[Zs (kK q h (by intro z;cases z))];exact q))
 .exact .inl (.inr ⟨o,by rw[Zs (kK q h (by intro z;cases z))];exact q⟩)
 .exact .inr q,fun a xs q=>by
 rcases q with⟨o,q⟩|q
 .exact .inl ⟨o,by rw[Zs (kK q h (by intro z;cases z))];exact q⟩
 .exact .inr q,fun a o u q=>by rw[Zs (kK q h (by intro z;cases z))];exact q⟩
def HR.dO{K:au}(h:HR K H A)(kp:Kp K H (upd H a ob))(new:RO K (upd H a ob) a o):HR K (upd H a ob) (af A a o):=fun b u q=>by
 by_cases hb:b=a
 .subst hb
  rw[Zd]at q
  cases q
  exact new
 .rw[Zn hb]at q
  exact(h b u q).keep kp (Zs hb)
def big(I:Inv X pins σ H s):sysModules<s.heap.objs.size :=
 Nat.lt_trans (by decide) (show mainGlobals<s.heap.objs.size from(I.mod.glob.keeps I.bk).lt)
open PySem PySem.Spec PySem.W PyProof.Rows
open PySem PySem.Spec PyProof.Rows
section
variable{K:au}
def cj.cons_inv(h:cj K H (x::fs) gs):∃v xS,gs=(x.1,v)::xS/\RU K H x.2 v/\cj K H fs xS:=by
 obtain⟨h1,h2⟩:=h;cases gs with
 | nil=>simp at h1
 | cons y gs =>
  obtain⟨n,v⟩:=y;simp only[Yr,wu]at h1;cases h2 with
  | cons p q=>exact⟨v,gs,by rw[h1.1],p,h1.2,q⟩
def cj.look:∀ {fs:List (Str×U)} {gs:List (Str×V)},cj K H fs gs->fs.lookup f=some u->∃v,gs.lookup f=some v/\RU K H u v
 | [],_,_,e=>by simp at e
 | (n, w)::fs,gs,h,e=>by
  obtain⟨v,xS,rfl,r,t⟩:=h.cons_inv
  by_cases c:f==n
  .rw[List.lookup_cons,c]at e;cases e
   exact⟨v,by rw[List.lookup_cons,c],r⟩
  .have c':(f==n)=false:=by simpa using c
   rw[List.lookup_cons,c']at e
   obtain⟨v',h1,h2⟩:=cj.look t e
   exact⟨v',by rw[List.lookup_cons,c'];exact h1,h2⟩
def cj.miss:∀ {fs:List (Str×U)} {gs:List (Str×V)},cj K H fs gs->fs.lookup f=none->gs.lookup f=none
 | [],_,⟨h1,_⟩,_=>by
  cases ‹List (Str×V)› with
  | nil=>rfl
  | cons y gs=>simp at h1
 | (n, w)::fs,gs,h,e=>by
  obtain⟨v,xS,rfl,r,t⟩:=h.cons_inv
  by_cases c:f==n
  .rw[List.lookup_cons,c]at e;cases e
  .have c':(f==n)=false:=by simpa using c
   rw[List.lookup_cons,c']at e ⊢
   exact cj.miss t e
def cj.len(h:cj K H fs gs):fs.length=gs.length:=by
 have:=congrArg List.length h.1;simpa using this
def cj.same(e:Kp K H H')(h:cj K H fs gs):cj K H' fs gs:=⟨h.1,h.2.same e⟩
def dq(f:Str)(u:U):List (Str×U)->List (Str×U)
 | []=>[(f,u)]
 | (g,x)::r=>if g=f then(g,u)::r else(g,x)::dq f u r
theorem cj.put(hu:RU K H u v):∀ {fs:List (Str×U)} {gs:List (Str×V)},cj K H fs gs->cj K H (dq f u fs) (dg f v gs)
 | [],gs,h=>by
  cases gs with
  | nil=>exact⟨rfl,.one hu⟩
  | cons y gs=>have:=h.1;simp at this
 | (n, w)::fs,gs,h=>by
  obtain⟨x,xS,rfl,r,t⟩:=h.cons_inv
  by_cases c:n=f
  .simp only[dq,dg,if_pos c]
   exact⟨by simp[t.1],.cons hu t.2⟩
  .simp only[dq,dg,if_neg c]
   have:=cj.put (f:=f) hu t
   exact⟨by simp[this.1],.cons r this.2⟩
def HR.ins(g:HR K H A)(e:A a=some (.ins C dx fs)):∃gs,H a=some (.ins C dx gs)/\cj K H fs gs:=g a _ e
def HR.EZ(g:HR K H A)(e:H a=some (.ins C dx gs0))(r:cj K H fs gs):HR K (upd H a (.ins C dx gs)) (af A a (.ins C dx fs)) :=
 g.dO (Kp.ins e) ⟨gs,ZC,r.same (Kp.ins e)⟩
def LD(K:au)(aa:AE)(f:Str):AE:=fun ρ A Q=>aa ρ A fun x A1=>∃a C dx fs u,x=.ref a/\A1 a=some (.ins C dx fs)/\fe K C/\fW K C f/\fs.lookup f=some u/\Q u A1
def d0(h:aY K ta aa):aY K (JJ K ta f) (LD K aa f):=fun ρ A σ H Q' Q hs g w k =>
 h ρ A σ H _ _ hs g w fun x A1 v H1 k1 g1 r1 aF=>by
  obtain⟨a,C,dx,fs,u,e1,e2,c,n,l,q⟩:=aF
  subst e1
  cases r1
  obtain⟨gs,h1,h2⟩:=g1.ins e2
  obtain⟨v,h3,h4⟩:=h2.look l
  exact⟨a,C,dx,gs,v,rfl,h1,c,n,h3,k _ _ _ _ k1 g1 h4 q⟩
def LF(K:au)(aa av:AE)(f:Str):AS:=fun D ρ A=>av ρ A fun y A1=>aa ρ A1 fun x A2=>∃a C dx fs,x=.ref a/\A2 a=some (.ins C dx fs)/\fe K C/\fW K C f/\fs.length<1000/\D.nx ρ (af A2 a (.ins C dx (dq f y fs)))
def jy(ha:aY K ta aa)(hv:aY K tv av):c6 K (JK K ta tv f) (LF K aa av f):=fun ρ A σ H D' D hs g w k =>
 hv ρ A σ H _ _ hs g w fun y A1 v1 H1 k1 g1 r1 q1=>ha ρ A1 σ H1 _ _ (hs.same k1) g1 q1 fun x A2 v2 H2 k2 g2 r2 aF=>by
  obtain⟨a,C,dx,fs,e1,e2,c,n,l,q⟩:=aF
  subst e1
  cases r2
  obtain⟨gs,h1,h2⟩:=g2.ins e2
  have kp:Kp K H2 (upd H2 a (.ins C dx (dg f v1 gs))):=Kp.ins h1
  exact⟨a,C,dx,gs,rfl,h1,c,n,by rw[<- h2.len];exact l,k.nx _ _ _ _ (k1.trans (k2.trans kp)) (g2.EZ h1 (h2.put (r1.same k2))) (hs.same (k1.trans (k2.trans kp))) q⟩
def LG(C:Addr)(bj:bQ)(l:AA):AE:=fun ρ A Q=>l ρ A fun us A1=>∀x dx,A1 x=none->bj (.ref x::us) (af A1 x (.ins C dx [])) (fun u A2=>u=.ay/\Q (.ref x) A2)
def qA(hl:fH K t l):aY K (JO C (a6 K bj) [] E t) (LG C bj l):=fun ρ A σ H Q' Q hs g w k =>
 hl ρ A σ H _ _ hs g w fun us A1 vs H1 k1 g1 r1 q1 x dx hx xT aR=>by
  have s1:ba H1 (upd H1 dx (.own x)):=ba.aA xT
  have r9:upd H1 dx (.own x) x=none:=by rw[Zs (Ne.symm aR)];exact hx
  have s2:ba (upd H1 dx (.own x)) (upd (upd H1 dx (.own x)) x (.ins C dx [])):=ba.aA r9
  have g2:HR K (upd (upd H1 dx (.own x)) x (.ins C dx [])) (af A1 x (.ins C dx [])):=(g1.grow s1).dO s2.kp ⟨[],ZC,rfl,.nil⟩
  refine⟨.ref x::us,_,_,.cons (.ref x) (by rw[YW];exact r1.same (s1.kp.trans s2.kp)),g2,q1 x dx (g1.none hx),fun u A3 v3 H3 k3 g3 r3 aL=>?_⟩
  obtain⟨e,q3⟩:=aL
  subst e
  cases r3
  exact⟨rfl,k _ _ _ _ (k1.trans ((s1.kp.trans s2.kp).trans k3)) g3 (.ref x) q3⟩
end
section
def Bh:∀ {ts:List Str} {us:List Value},Z3 (ts.map V.str) us->∃l:List (Str×Tok),us=strValues l/\l.map (·.1)=ts
 | [],_,.nil=>⟨[],rfl,rfl⟩
 | z :: ts,_,.cons r h=>by
  obtain⟨t,rfl⟩:=r
  obtain⟨l,rfl,e⟩:=Bh h
  exact⟨(z,t)::l,rfl,by rw[Yr,e]⟩
def LH(K:au):V->List V->Hp->VK->Prop:=fun x vs H Q=>∃z p ts,x=.str z/\vs=[.ref p]/\aV K H p (ts.map V.str)/\JoinOk z ts=true/\Q (.str (Txt.join z ts)) H
def Th:Ah X "str.join" (LH X.K):=by
 intro pins s σ H x vs v us Q I rx rv h;obtain⟨z,p,ts,rfl,rfl,hl,aG,q⟩:=h;obtain⟨t,rfl⟩:=rx;obtain⟨u,rfl,ru⟩:=rv.one;cases ru;obtain⟨its,rs,pl,hz⟩:=I.list hl;obtain⟨l,rfl,e⟩:=Bh rs;exact SC.join pl.isList e aG fun t' k=>⟨.str _,H,I.tok k,⟨_,rfl⟩,q⟩
def LI:TS:=fun _ _ _=>False
def LJ{st:Stmt}:PS X st LI:=fun _ _ _ _ _ _ h=>h.elim
end
section
variable{K:au}
def LK:AS:=fun _ _ _=>False
def LL:c6 K LI LK:=fun _ _ _ _ _ _ _ _ h _=>h.elim
def E1:U->az->Prop:=fun u _=>match u with
 | .str _=>True
 | _=>False
def Ti:AK K "str" E1:=fun x u A H r g h=>by
 unfold E1 at h
 split at h
 .cases r;exact(rfl:"str"="str")
 .exact h.elim
def E2:U->List U->az->bH->Prop:=fun u us A Q=>match u,us with
 | .str z,[.ref p]=>∃ts,A p=some (.lst (ts.map U.str))/\JoinOk z ts=true/\Q (.str (Txt.join z ts)) A
 | _,_=>False
def Tj:oV K (LH K) E2:=fun x u xs us A H Q' Q r rs g h k=>by
 unfold E2 at h
 split at h
 .cases r
  obtain⟨v,rfl,rv⟩:=rs.inv1
  cases rv
  obtain⟨ts,e,ok,h⟩:=h
  obtain⟨vs,h1,r1⟩:=g.list e
  have:=r1.strs
  subst this
  exact⟨_,_,ts,rfl,rfl,aV.of h1,ok,k _ _ _ _ (.refl H) g (.str _) h⟩
 .exact h.elim
def DE(pr:Params)(K:au)(e:DictEntry)(x:Str×U):Prop:=(∃t,e.key=.str x.1 t)/\e.hash=PyData.keyHash pr x.1/\∃v,aZ v e.val/\∀H,RU K H x.2 v
end
section
variable{K:au}
def Zru:E2 (.str z) [.ref p] A Q=∃ts,A p=some (.lst (ts.map U.str))/\JoinOk z ts=true/\Q (.str (Txt.join z ts)) A:=rfl
def ZnW:E1 (.str z) A=True:=rfl
def Zv9:LK D ρ A=False:=rfl
def ZtD:LD K aa f ρ A Q=aa ρ A fun x A1=>∃a C dx fs u,x=.ref a/\A1 a=some (.ins C dx fs)/\fe K C/\fW K C f/\fs.lookup f=some u/\Q u A1:=rfl
def ZqT:LF K aa av f D ρ A=av ρ A fun y A1=>aa ρ A1 fun x A2=>∃a C dx fs,x=.ref a/\A2 a=some (.ins C dx fs)/\fe K C/\fW K C f/\fs.length<1000/\D.nx ρ (af A2 a (.ins C dx (dq f y fs))):=rfl
def Zpa:LG C bj l ρ A Q=l ρ A fun us A1=>∀x dx,A1 x=none->bj (.ref x::us) (af A1 x (.ins C dx [])) (fun u A2=>u=.ay/\Q (.ref x) A2):=rfl
end
def o6(c:AT)(t e:AS):AS:=EC c t e
def Z0{K:au}(hc:hU K tc c)(h1:c6 K t1 a1)(h2:c6 K t2 a2):c6 K (Dc tc t1 t2) (o6 c a1 a2):=dY hc h1 h2
def vt(k:Bool)(h1:∀B:Bool->az->Prop,B k A->c ρ A B)(h2:if k=true then t D ρ A else e D ρ A):o6 c t e D ρ A:=h1 _ h2
def mm(h1:∀B:Bool->az->Prop,B true A->c ρ A B)(h2:t D ρ A):o6 c t e D ρ A:=h1 _ (gH rfl h2)
def iZ(h1:∀B:Bool->az->Prop,B false A->c ρ A B)(h2:e D ρ A):o6 c t e D ρ A:=h1 _ (jv Yv h2)
def LM(m:Str)(d_:List (Addr×Sp))(E:XK)(ta:TE)(t:TA):TE:=fun σ H Q=>ta σ H fun x H1=>∃a dx fs C sp,x=.ref a/\H1 a=some (.ins C dx fs)/\(C,sp)∈d_/\fs.lookup m=none/\t σ H1 fun vs H2=>sp (x::vs) H2 Q E
def kY(P:Program)(w:World)(K:au)(mg:Str->Option Value)(base:Heap)(CX:oA)(k:Nat)(m:Str)(d_:List (Addr×Sp)):Prop:=∀C sp,(C,sp)∈d_->∃f fd ps,fe K C/\Af K C m f/\cF P w K mg base CX k f fd ps sp/\kN K fd ps []
def kY.mono{K:au}(h:kY P w K mg base CX j m d_)(l:j<=k):kY P w K mg base CX k m d_:=fun C sp fL=>by
 obtain⟨f,fd,ps,h1,h2,h3,h4⟩:=h C sp fL
 exact⟨f,fd,ps,h1,h2,h3.mono l,h4⟩
section
def qB(he:PE X o ta)(hT:kY X.prog X.w X.K X.mg X.base CX k m d_)(hr:bV k X.A)(hx:rQ CX X E)(ht : eval (.Call (.Attribute o m apos) [] [] pos) X.env=(do
   let ov <- eval o X.env
   standAt apos.atName
   let(f,first) <- holding [ov] (getMethod ov m pl)
   callWith pos f first (backTo pos (starEach [] X.env)) (backToKw pos (keywordEach [] X.env))):=by rfl):
  PE X (.Call (.Attribute o m apos) [] [] pos) (LM m d_ E ta oy):=by
 intro pins s σ H Q I h;refine methodCall_KW (pl:=pl) (aM (he pins s σ H _ I h) fun u s1 ⟨x,H1,I1,rx,a,dx,fs,C,sp,ex,ea,fL,l,q⟩=>?_) ht;subst ex;obtain rfl:u=Value.ref a:=rx;obtain⟨f,fd,ps,c,hm,F,hb⟩:=hT C sp fL;exact QU I1 ea c hm l (callWith_K0 (first:=[.ref a]) I1.bo hm.kp (Dw (us:=[.ref a]) (vs:=[.ref a]) (dvs:=[]) (ds:=[]) F hr hb .nil hx I1 (.cons rfl .nil) q))
end
section
variable{K:au}
def LN(m:Str)(d_:List (Addr×bQ))(aa:AE)(l:AA):AE:=fun ρ A Q=>aa ρ A fun x A1=>∃a dx fs C bj,x=.ref a/\A1 a=some (.ins C dx fs)/\(C,bj)∈d_/\fs.lookup m=none/\l ρ A1 fun us A2=>bj (x::us) A2 Q
def qC(ha:aY K ta aa)(hl:fH K t l):aY K (LM m (d_.map fun p=>(p.1,a6 K p.2)) E ta t) (LN m d_ aa l):=fun ρ A σ H Q' Q hs g w k =>
 ha ρ A σ H _ _ hs g w fun x A1 v1 H1 k1 g1 r1 aF=>by
  obtain⟨a,dx,fs,C,bj,e1,e2,fL,e3,q⟩:=aF
  subst e1
  cases r1
  obtain⟨gs,h1,h2⟩:=g1.ins e2
  refine⟨a,dx,gs,C,a6 K bj,rfl,h1,YS.mpr ⟨(C,bj),fL,rfl⟩,h2.miss e3,hl ρ A1 σ H1 _ _ (hs.same k1) g1 q fun us A2 vs H2 k2 g2 r2 q2=>⟨.ref a::us,A2,Q',.cons (.ref a) r2,g2,q2,fun z A3 v3 H3 k3 h3 r3 q3=>k _ _ _ _ (k1.trans (k2.trans k3)) h3 r3 q3⟩⟩
def ZmU:LN m d_ aa l ρ A Q=aa ρ A fun x A1=>∃a dx fs C bj,x=.ref a/\A1 a=some (.ins C dx fs)/\(C,bj)∈d_/\fs.lookup m=none/\l ρ A1 fun us A2=>bj (x::us) A2 Q:=rfl
end
def vw(K:au)(C c:Addr)(b:Bool):Prop:=fe K C/\PySem.W.findIn K (.ref C) "__class__"=some (some (.builtin "object.__class__"))/\specialIn K (.builtin "object.__class__") "__get__"=some (some (.builtin "getset_descriptor.__get__")) /\
 takesIn K (.builtin "object.__class__")=some true/\mroIn K C (.type "object")=some true/\PySem.W.kitOne K (.ref C) (.ref c)=some b
def LO(K:au):List V->Hp->VK->Prop:=fun xs H Q=>∃a C dx fs c b,xs=[.ref a,.ref c]/\H a=some (.ins C dx fs)/\vw K C c b/\Q (.bl b) H
def xU:cf X (.builtin "isinstance") (LO X.K):=by
 intro pins s σ H xs us Q I r h;obtain⟨a,C,dx,fs,c,b,rfl,hH,⟨h1,h2,h3,h4,h5,h6⟩,q⟩:=h;obtain⟨u,v,rfl,ru,rv⟩:=r.two;cases rv;exact JL I ru (.ins hH h1 h2 h3 h4 h5) h6 fun tk=>⟨.bl b,H,I.tok tk,rfl,q⟩
section
variable{K:au}
def LP(K:au):List U->az->bH->Prop:=fun us A Q=>∃a C dx fs c b,us=[.ref a,.ref c]/\A a=some (.ins C dx fs)/\vw K C c b/\Q (.bl b) A
def xV:hZ K (LO K) (LP K):=fun xs us A H Q' Q r g h k=>by
 obtain⟨a,C,dx,fs,c,b,rfl,e,hi,q⟩:=h
 cases r with
 | cons r1 r=>cases r with
  | cons r2 r =>
   cases r;cases r1;cases r2
   obtain⟨gs,h1,_⟩:=g.ins e
   exact⟨a,C,dx,gs,c,b,rfl,h1,hi,k _ _ _ _ (.refl H) g (.bl b) q⟩
def Zth:LP K us A Q=∃a C dx fs c b,us=[.ref a,.ref c]/\A a=some (.ins C dx fs)/\vw K C c b/\Q (.bl b) A:=rfl
end
abbrev TJ:=Str->St->Hp->(Str->Hp->Prop)->Prop
def PJ(X:Cx)(es:List Expr)(t:TJ):Prop :=
 ∀(pins:List (Addr×Obj))(s:Shared)(σ:St)(H:Hp)(out:Str)(Q:Str->Hp->Prop),Inv X pins σ H s->t out σ H Q->wpAny (model X.prog X.w) X.A (joinParts out (evalEach es X.env)) (EP X pins σ fun v H'=>∃z,v=.str z/\Q z H') X.xe s
def LQ:TJ:=fun out _ H Q=>out.length<=sizeLine/\Q out H
def Bi(te:TE)(t:TJ):TJ:=fun out σ H Q=>te σ H fun v H1=>∃y,v=.str y/\(out++y).length<=sizeLine/\t (out++y) σ H1 Q
def LR(te:TE):TE:=fun σ H Q=>te σ H fun v H1=>∃y,v=.str y/\y.length<=sizeLine/\Q (.str y) H1
def LS(t:TJ):TE:=fun σ H Q=>t Str.empty σ H fun z H'=>Q (.str z) H'
section
def Tn:PJ X [] LQ:=fun pins s σ H out Q I ⟨hz,q⟩=>joinParts_nil (⟨.str out,H,I.tok _,⟨_,rfl⟩,out,rfl,q⟩) hz
def E3(he:PE X e te)(ht:PJ X es t):PJ X (e::es) (Bi te t):=by
 intro pins s σ H out Q I h;refine joinParts_cons (aM (he pins s σ H _ I h) fun u s1 aL=>?_);obtain⟨v,H1,I1,rv,y,ev,hz,q⟩:=aL;subst ev;obtain⟨tk,rfl⟩:=rv;exact⟨hz,ht pins s1 σ H1 (out++y) Q I1 q⟩
def To(he:PE X e te):PE X (.FormattedValue e (-1) none pos) (LR te):=by
 intro pins s σ H Q I h;refine FormattedValue_plain (aM (he pins s σ H _ I h) fun u s1 aL=>?_);obtain⟨v,H1,I1,rv,y,ev,hz,q⟩:=aL;subst ev;obtain⟨tk,rfl⟩:=rv;exact formatField_str (fun t' k=>⟨.str y,H1,I1.tok k,⟨_,rfl⟩,q⟩) hz
def Tp(h:PJ X (v1::v2::es) t):PE X (.JoinedStr (v1::v2::es) pos) (LS t):=by
 intro pins s σ H Q I hq;refine JoinedStr_many (aM (h pins s σ H Str.empty _ I hq) fun u s1 aL=>?_);obtain⟨v,H1,I1,rv,z,ev,q⟩:=aL;subst ev;exact⟨.str z,H1,I1,rv,q⟩
end
section
abbrev AJ:=Str->a8->az->(Str->az->Prop)->Prop
end
structure E4 (K:au) (C:Addr):Prop where
 makes:PySem.W.makesIn K C=true
 init:PySem.W.findIn K (.ref C) "__init__"=some (some (.builtin "object.__init__"))
 kp:PySem.W.keepIn K (.ref C)=true
def LU(C:Addr):TE:=fun _ H Q=>∀x dx,H x=none->H dx=none->dx≠x->Q (.ref x) (upd (upd H dx (.own x)) x (.ins C dx []))
section
def Tq(M:E4 X.K C)(I:Inv X pins σ H s)(h:∀x dx,H x=none->H dx=none->dx≠x->Q (.ref x) (upd (upd H dx (.own x)) x (.ins C dx []))):
  wpAny (model X.prog X.w) X.A (call (.ref C) []) (EP X pins σ Q) X.xe s:=by
 have hq:=h (s.heap.objs.size+1) s.heap.objs.size (I.aG.fresh (fT _)) (I.aG.fresh (Yj _)) (Yn (lG _));have I2:=Inv.made (C:=C) I;have Y:=makes_of (M:=model X.prog X.w) I.bo M.makes;have e2:((s.heap.push emptyDict).push (instObj C s.heap.objs.size)).get? (s.heap.objs.size+1)=some (instObj C s.heap.objs.size):=by
  have:=Yl (s.heap.push emptyDict) (o:=instObj C s.heap.objs.size) rfl;rwa [YL]at this
 refine kJ (QS I.bo M.makes M.init (fun self=>Looks.of_pure (PySem.W.oi_bind self)) ?_);have t1:PySem.W.Looks (model X.prog X.w) ((s.heap.push emptyDict).push (instObj C s.heap.objs.size)) (typeOf (.ref (s.heap.objs.size+1))) (.ref C):=(Looks.ld e2).andThen .now;have t2:PySem.W.Looks (model X.prog X.w) ((s.heap.push emptyDict).push (instObj C s.heap.objs.size)) (isInstance (.ref (s.heap.objs.size+1)) (.type "object")) true:=t1.andThen (Y.top.keeps fun b o e=>Ye _ (Ye _ e));refine codeAny_call_builtin PySem.W.oi_plain PySem.W.entry_oi (@PySem.W.check_slot (model X.prog X.w) _ _ _ "object.__init__" "object" "__init__" (.ref (s.heap.objs.size+1)) [] [] _ PySem.W.oi_kind PySem.W.oi_split t2 (PySem.W.oi_args (.ref (s.heap.objs.size+1))) ?_);rw[oi_run];exact Yd (And.intro rfl ⟨.ref (s.heap.objs.size+1),_,I2,rfl,hq⟩)
def Tr(M:E4 X.K C)(hg:Gl X x)(hm:X.mg x=some (.ref C))(cR:(x==("__debug__":Str))=false:=by decide):PE X (.Call (.Name x p) [] [] pos) (LU C):=by
 intro pins s σ H Q I h;exact kG (lK I hg hm (callWith_K0 I.bo M.kp (Tq M I h)) cR)
end
section
variable{K:au}
def LV(C:Addr):AE:=fun _ A Q=>∀x dx,A x=none->Q (.ref x) (af A x (.ins C dx []))
def Ts:aY K (LU C) (LV C):=fun ρ A σ H Q' Q hs g q k x dx hx xT aR=>by
 have s1:ba H (upd H dx (.own x)):=ba.aA xT
 have r9:upd H dx (.own x) x=none:=by rw[Zs (Ne.symm aR)];exact hx
 have s2:ba (upd H dx (.own x)) (upd (upd H dx (.own x)) x (.ins C dx [])):=ba.aA r9
 have g2:HR K (upd (upd H dx (.own x)) x (.ins C dx [])) (af A x (.ins C dx [])):=(g.grow s1).dO s2.kp ⟨[],ZC,rfl,.nil⟩
 exact k _ _ _ _ (s1.kp.trans s2.kp) g2 (.ref x) (q x dx (g.none hx))
def ZuC:LV C ρ A Q=∀x dx,A x=none->Q (.ref x) (af A x (.ins C dx [])):=rfl
end
def Bj(K:au)(C:Addr)(cs:List Addr)(b:Bool):Prop:=fe K C/\PySem.W.findIn K (.ref C) "__class__"=some (some (.builtin "object.__class__"))/\specialIn K (.builtin "object.__class__") "__get__"=some (some (.builtin "getset_descriptor.__get__")) /\
 takesIn K (.builtin "object.__class__")=some true/\mroIn K C (.type "object")=some true/\kitAny K (.ref C) (cs.map Value.ref)=some b
def LW(K:au):List V->Hp->VK->Prop:=fun xs H Q=>∃a C dx fs p cs b,xs=[.ref a,.ref p]/\H a=some (.ins C dx fs)/\bf K H p (cs.map V.ref)/\Bj K C cs b/\Q (.bl b) H
def E5:∀ {cs:List Addr} {us:List Value},Z3 (cs.map V.ref) us->us=cs.map Value.ref
 | [],_,.nil=>rfl
 | c :: cs,_,.cons r h=>by
  cases(show _=Value.ref c from r)
  rw[E5 h];rfl
def LX:cf X (.builtin "isinstance") (LW X.K):=by
 intro pins s σ H xs us Q I r h;obtain⟨a,C,dx,fs,p,cs,b,rfl,hH,ht,⟨h1,h2,h3,h4,h5,h6⟩,q⟩:=h;obtain⟨u,v,rfl,ru,rv⟩:=r.two;cases ru;cases rv;obtain⟨its,r',pl,_⟩:=I.tuple ht;have e:=E5 r';subst e;obtain⟨mA,O,_⟩:=wL I.aG hH;obtain⟨od,J,_⟩:=O.look;have hp:∃dd n sl,s.heap.get? p=some ⟨.type "tuple",dd,.seq (cs.map Value.ref).toArray n,sl⟩:=by
  obtain⟨⟨oc,Tt,da,sl⟩,ho,hc,n,hd⟩:=(show IsTup s.heap p (cs.map Value.ref).toArray from by first|exact pl|exact pl.isTup|(obtain⟨o,n,e,c,_,d,_⟩:=pl;exact⟨o,e,c,n,d⟩));cases hc;cases hd;exact⟨_,n,_,ho⟩
 obtain⟨dd,n,sl,hp⟩:=hp;exact kia_tup (kitx_own (h1.get _) h1.hd h2 h3 h4 h5) I.bo J hp h6 (fun z=>nomatch z) fun tk=>⟨.bl b,H,I.tok tk,rfl,q⟩
section
variable{K:au}
def aK.refs:∀ {cs:List Addr} {vs:List V},aK K H (cs.map U.ref) vs->vs=cs.map V.ref
 | [],_,.nil=>rfl
 | c::cs,_,.cons h r=>by cases h;rw[Yr,aK.refs r]
def LY(K:au):List U->az->bH->Prop:=fun us A Q=>∃a C dx fs cs b,us=[.ref a,.tup (cs.map U.ref)]/\A a=some (.ins C dx fs)/\Bj K C cs b/\Q (.bl b) A
def LZ:hZ K (LW K) (LY K):=fun xs us A H Q' Q r g h k=>by
 obtain⟨a,C,dx,fs,cs,b,rfl,e,hi,q⟩:=h
 cases r with
 | cons r1 r=>cases r with
  | cons r2 r =>
   cases r;cases r1
   cases r2 with
   | tup ht hs =>
    have:=hs.refs
    subst this
    obtain⟨gs,h1,_⟩:=g.ins e
    exact⟨a,C,dx,gs,_,cs,b,rfl,h1,ht,hi,k _ _ _ _ (.refl H) g (.bl b) q⟩
def ZrR:LY K us A Q=∃a C dx fs cs b,us=[.ref a,.tup (cs.map U.ref)]/\A a=some (.ins C dx fs)/\Bj K C cs b/\Q (.bl b) A:=rfl
end
def E6:Str:="abcdefghijklmnopqrstuvwxyz"
def i0:List Str:=["nothing","bead","or","by","row","bag","choice","ring","of","left","right"]
def fv(x:Str):Bool:=x.cps.toList.all (fun c=>decide (c∈E6.cps.toList))&&(decide (1<=x.length)&&decide (x.length<=8))&&!i0.contains x
def L4(h:fv x=true):(∀c∈x.cps.toList,97<=c/\c<=122)/\1<=x.length/\x.length<=8/\x∉i0:=by
 unfold fv at h;simp only[Y8,uH,zP,Bool.not_eq_true',List.contains_eq_mem,Ir]at h;refine⟨fun c hc=>?_,h.1.2.1,h.1.2.2,h.2⟩;have:=h.1.1 c hc;have key:∀c∈E6.cps.toList,97<=c/\c<=122:=by decide +kernel
 exact key c this
def L5(h:fv x=true):PyData.strOk x=true:=by
 unfold PyData.strOk;rw[<- Array.all_toList,uH];intro c hc;have:=(L4 h).1 c hc;simp only[zP];lia
def Tu:Nat->Str
 | 0=>"["
 | 1=>"{"
 | 2=>"<"
 | _=>"(("
def cls:Nat->Str
 | 0=>"]"
 | 1=>"}"
 | 2=>">"
 | _=>"))"
mutual
def Wr.wd:Wr->Bool
 | .nothing=>true
 | .bead c=>fv c
 | .side _ f=>f.wd
 | .pair f g=>f.wd&&g.wd
 | .many k ps=>L6 ps
def L6:List Wr->Bool
 | []=>true
 | w::ws=>w.wd&&L6 ws
end
mutual
def Wr.toks:Wr->List Str
 | .nothing=>["nothing"]
 | .bead c=>[c]
 | .side b f=>Ep b::f.toks
 | .pair f g=>"("::(f.toks++(g.toks++[(")":Str)]))
 | .many k ps=>Tu k::(L7 ps++[cls k])
def L7:List Wr->List Str
 | []=>[]
 | w::ws=>w.toks++L7 ws
end
inductive Rl where
 | nothing|bead (c:Str)|named (c:Str)|or (x y:Rl)|a7 (x y:Rl)|hold (k:Nat) (x:Rl)
def Rl.toU:Rl->U
 | .nothing=>.tup [.str "nothing"]
 | .bead c=>.tup [.str "bead",.str c]
 | .named c=>.tup [.str "name",.str c]
 | .or x y=>.tup [.str "or",x.toU,y.toU]
 | .a7 x y=>.tup [.str "by",x.toU,y.toU]
 | .hold k x=>.tup [.str (cA k),x.toU]
def Rl.lvl:Rl->Nat
 | .or _ _=>0
 | .a7 _ _=>1
 | _=>2
def xW(n l:Nat)(ts:List Str):List Str:=if l<n then("(":Str)::(ts++[(")":Str)])else ts
def Rl.tk:Rl->List Str
 | .nothing=>["nothing"]
 | .bead c=>["bead",c]
 | .named c=>[c]
 | .or x y=>xW 0 x.lvl x.tk++(("or":Str)::xW 1 y.lvl y.tk)
 | .a7 x y=>xW 1 x.lvl x.tk++(("by":Str)::xW 2 y.lvl y.tk)
 | .hold k x=>cA k::"of"::xW 2 x.lvl x.tk
def Rl.dep:Rl->Nat
 | .nothing=>1
 | .bead _=>1
 | .named _=>1
 | .or x y=>1+max x.dep y.dep
 | .a7 x y=>1+max x.dep y.dep
 | .hold _ x=>1+x.dep
def b4(cs:Nat->Addr)(A:az):Addr->Rl->Prop
 | a,.nothing=>∃dx,A a=some (.ins (cs 0) dx [])
 | a,.bead c=>∃dx,A a=some (.ins (cs 1) dx [("colour",.str c)])
 | a,.named c=>∃dx,A a=some (.ins (cs 2) dx [("name",.str c)])
 | a,.or x y=>∃dx p q,A a=some (.ins (cs 3) dx [("one",.ref p),("other",.ref q)])/\b4 cs A p x/\b4 cs A q y
 | a,.a7 x y=>∃dx p q,A a=some (.ins (cs 4) dx [("one",.ref p),("other",.ref q)])/\b4 cs A p x/\b4 cs A q y
 | a,.hold k x=>∃dx p,A a=some (.ins (cs (5+min k 3)) dx [("part",.ref p)])/\b4 cs A p x
def b4.ext(e:Ext A A'):∀ {a:Addr} {r:Rl},b4 cs A a r->b4 cs A' a r
 | _,.nothing,⟨dx,h⟩=>⟨dx,e _ _ h⟩
 | _,.bead _,⟨dx,h⟩=>⟨dx,e _ _ h⟩
 | _,.named _,⟨dx,h⟩=>⟨dx,e _ _ h⟩
 | _,.or x y,⟨dx,p,q,h,h1,h2⟩=>⟨dx,p,q,e _ _ h,h1.ext e,h2.ext e⟩
 | _,.a7 x y,⟨dx,p,q,h,h1,h2⟩=>⟨dx,p,q,e _ _ h,h1.ext e,h2.ext e⟩
 | _,.hold k x,⟨dx,p,h,h1⟩=>⟨dx,p,e _ _ h,h1.ext e⟩
def Rl.wd:Rl->Bool
 | .nothing=>true
 | .bead c=>fv c
 | .named c=>fv c
 | .or x y=>x.wd&&y.wd
 | .a7 x y=>x.wd&&y.wd
 | .hold _ x=>x.wd
def Rl.size:Rl->Nat
 | .nothing=>1
 | .bead _=>1
 | .named _=>1
 | .or x y=>x.size+y.size+1
 | .a7 x y=>x.size+y.size+1
 | .hold _ x=>x.size+1
def Rl.eG(r:Rl):1<=r.size:=by cases r<;>simp[Rl.size]
def Rl.ci:Rl->Nat
 | .nothing=>0
 | .bead _=>1
 | .named _=>2
 | .or _ _=>3
 | .a7 _ _=>4
 | .hold k _=>5+min k 3
def Rl.bR(r:Rl):r.ci<9:=by cases r<;>simp only[Rl.ci]<;>lia
def b4.cls(h:b4 cs A a r)(hm:m∉(["colour","name","one","other","part"]:List Str)):∃dx fs,A a=some (.ins (cs r.ci) dx fs)/\fs.lookup m=none:=by
 simp only[Yo,YG,eZ,not_or]at hm;obtain⟨h1,h2,h3,h4,h5⟩:=hm;cases r with
 | nothing=>obtain⟨dx,h⟩:=h;exact⟨dx,_,h,rfl⟩
 | bead c=>obtain⟨dx,h⟩:=h;exact⟨dx,_,h,by simp[List.lookup,Yw.mpr h1]⟩
 | named c=>obtain⟨dx,h⟩:=h;exact⟨dx,_,h,by simp[List.lookup,Yw.mpr h2]⟩
 | or x y=>obtain⟨dx,p,q,h,_⟩:=h;exact⟨dx,_,h,by simp[List.lookup,Yw.mpr h3,Yw.mpr h4]⟩
 | a7 x y=>obtain⟨dx,p,q,h,_⟩:=h;exact⟨dx,_,h,by simp[List.lookup,Yw.mpr h3,Yw.mpr h4]⟩
 | hold k x=>obtain⟨dx,p,h,_⟩:=h;exact⟨dx,_,h,by simp[List.lookup,Yw.mpr h5]⟩
def jz(l:List Addr)(i:Nat):Addr:=l.getD i 0
structure ke (K:au) (l:List Addr) (rt:Addr):Prop where
 sp:PySem.W.specialIn K (.builtin "object.__class__") "__get__"=some (some (.builtin "getset_descriptor.__get__"))
 tk:PySem.W.takesIn K (.builtin "object.__class__")=some true
 fi:l.map (fun c=>PySem.W.findIn K (.ref c) "__class__")=l.map fun _=>some (some (.builtin "object.__class__"))
 mr:l.map (fun c=>mroIn K c (.type "object"))=l.map fun _=>some true
 ki:l.map (fun c=>l.map fun d=>PySem.W.kitOne K (.ref c) (.ref d))=(List.range l.length).map fun i=>(List.range l.length).map fun j=>some (i==j)
 kr:l.map (fun c=>PySem.W.kitOne K (.ref c) (.ref rt))=l.map fun _=>some true
def Bk{α β:Type}{f g:α->β}{l:List α}(h:l.map f=l.map g){x:α}(hx:x∈l):f x=g x:=List.map_inj_left.mp h x hx
def sJ(h:i<l.length):jz l i∈l:=by
 unfold jz;rw[YY,Yg h];exact uI h
variable{K:au}{l:List Addr}{rt:Addr}
def ke.L8(h:ke K l rt)(hi:i<l.length)(hj:j<l.length):PySem.W.kitOne K (.ref (jz l i)) (.ref (jz l j))=some (i==j):=by
 have e:=congrArg (fun z=>(z.getD i []).getD j none) h.ki;simpa[jz,YY,hi,hj]using e
def ke.L9(h:ke K l rt)(hL:∀c∈l,fe K c)(hi:i<9)(hj:j<9)(hn:l.length=9:=by rfl):vw K (jz l i) (jz l j) (i==j):=by
 rw[<- hn]at hi hj;exact⟨hL _ (sJ hi),Bk h.fi (sJ hi),h.sp,h.tk,Bk h.mr (sJ hi),h.L8 hi hj⟩
def Rl.L_{r:Rl}(h:r.ci=3):∃x y,r=.or x y:=by cases r<;>simp only[Rl.ci]at h<;>first|exact⟨_,_,rfl⟩|lia
def Rl.L'{r:Rl}(h:r.ci=4):∃x y,r=.a7 x y:=by cases r<;>simp only[Rl.ci]at h<;>first|exact⟨_,_,rfl⟩|lia
def Rl.Tv{r:Rl}(h:r.ci=1):∃c,r=.bead c:=by cases r<;>simp only[Rl.ci]at h<;>first|exact⟨_,rfl⟩|lia
def Rl.E7{r:Rl}(h:r.ci=2):∃c,r=.named c:=by cases r<;>simp only[Rl.ci]at h<;>first|exact⟨_,rfl⟩|lia
def Rl.Bl{r:Rl}(hj:j<=3)(h:r.ci=5+j):∃k x,r=.hold k x/\min k 3=j:=by cases r<;>simp only[Rl.ci]at h<;>first|exact⟨_,_,rfl,by lia⟩|lia
def Tw(k:Nat):cA (min k 3)=cA k:=by
 match k with
 | 0=>rfl
 | 1=>rfl
 | 2=>rfl
 | k+3=>rw[Nat.min_eq_right (by lia)];rfl
def Rl.bB(r:Rl):1<=r.dep:=by cases r<;>simp only[Rl.dep]<;>lia
inductive Kd where
 | whole|side (b:Bool)|pair|many (k:Nat)
def Kd.name:Kd->Str
 | .whole=>"whole"
 | .side b=>Ep b
 | .pair=>"pair"
 | .many k=>cA k
def Kd.made:Kd->List Wr->Wr
 | .whole,[x]=>x
 | .side b,[x]=>.side b x
 | .pair,[x,y]=>.pair x y
 | .many k,ps=>.many k ps
 | _,_=>.nothing
structure Fr where
 kd:Kd
 dn:List Wr
 td:List Wr
def Ma(x:Wr):List Fr->Wr
 | []=>x
 | f::fs=>Ma (f.kd.made (f.dn++x::f.td)) fs
def fin:List Fr->Wr
 | []=>.nothing
 | f::fs=>Ma (f.kd.made (f.dn++f.td)) fs
variable{C dx p wa:Addr}{B:az}{ts:List Str}{n:Nat}
def Mb(h:∀us A Q,E8 us A Q->bj us A Q):∀vs H Q E,a6 K E8 vs H Q E->a6 K bj vs H Q E:=fun vs H Q E ⟨us,A,Q',r,g,a,k⟩=>⟨us,A,Q',r,g,h _ _ _ a,k⟩
def Mc(k:Nat):dD (.str (cA k)) [.str "row",.str "bag",.str "choice",.str "ring"]=true:=by
 match k with
 | 0=>decide +kernel
 | 1=>decide +kernel
 | 2=>decide +kernel
 | k+3=>exact(by decide +kernel:dD (.str (cA 3)) [.str "row",.str "bag",.str "choice",.str "ring"]=true)
open PySem
open PySem PySem.W
section
def Tx{I l S:Addr}(hh:A.handled=none)(aR:l≠I)(Md:S≠I)(Tz:S≠l)(st:s.heap.IsRevIter I l ((items.size:Int)-1))(hl:s.heap.IsList l items)(hn:items.size<=sizeLine)(hS:s.heap.get? S=some { cls:=.type "list",data:=.seq #[] c })(hR:∀s' c',Moved [S,I] (fun a b=>b=a) s s'->s'.heap.get? S=some { cls:=.type "list",dict:=none,data:=.seq items.reverse c',slots:=#[] }->R (.ok (.ret .none)) s'):
  wpAny (model prog w) A.in1 (Builtin.List.listExtendWith (.ref S) (.ref I) .none)
   (fun fin s'=>match fin with|.done f=>R (.ok f) s'|.again c'=>c'.quiet=true/\codeAny (model prog w) A c' R s') (fun e s'=>R (.error e) s') s:=by
 have W:=(Walks.listRev (prog:=prog) (w:=w) (A:=A.in1) hh I l aR items).toS;have nf:S∉[I,l]:=fun z=>by
  simp only[Yo,YG,eZ]at z;exact z.elim Md Tz
 have Bm:(0<=items.size/\s.heap.IsRevIter I l ((items.size:Int)-1-((0:Nat):Int))/\s.heap.IsList l items):=⟨Y0 _,by rw[show((0:Nat):Int)=0 from rfl,Int.sub_zero];exact st,hl⟩;have apart:Builtin.List.listSameRef (.ref S) (.ref I)=false:=by simp[Builtin.List.listSameRef,Md]
 have ty:s.TypeIs (.ref I) "list_reverseiterator":=st.typeIs;unfold Builtin.List.listExtendWith;refine Yb (p_ ty ?_);rw[if_neg (by rw[apart];decide)];refine Yb (W.self 0 _ _ _ Bm (Yb (YT ?_)));unfold Builtin.List.listLengthHint;refine Yb (zR ty Sy (show wpAny _ A.in1 (specialOf (Value.ref I) (Str.ofString "__length_hint__")>>=_) _ _ _ from Yb (zR ty Sz ?_)));generalize sL:("list_reverseiterator.__length_hint__":String)=xX;(fail_if_success (clear sL xX));wp_delta;rw[show splitId xX=some ("list_reverseiterator","__length_hint__")from by subst sL;decide +kernel];subst sL;refine Yb (rn (b:=true) ty (by rw[isSubtype_type];kernel_rfl) (Yd ?_));rw[if_neg (by decide)];refine Yd ⟨m8 CG _,CF W hn _ nf _ items.size 0 _ _ _ rfl (Y0 _) Bm hS (ItemsOf.nil _) fun s' acc c' mv here got=>?_⟩;have e:=SA got;have e2:acc=items.reverse:=by apply zQ.mp;rw[e,Array.toList_reverse]
 subst e2;exact hR s' c' mv here
def TB{I l:Addr}(hh:A.handled=none)(aR:l≠I)(st:s.heap.IsRevIter I l ((items.size:Int)-1))(hl:s.heap.IsList l items)(hn:items.size<=sizeLine)(hQ:∀s' c',Moved [s.heap.objs.size,I] (fun a b=>b=a) { s with heap:=s.heap.push { cls:=.type "list",data:=.seq #[] } } s'->s'.heap.get? s.heap.objs.size=some { cls:=.type "list",dict:=none,data:=.seq items.reverse c',slots:=#[] }->Q (.ref s.heap.objs.size) s'):
  wpAny (model prog w) A (call (.type "list") [.ref I]) Q E s:=by
 have lI:I<s.heap.objs.size:=by obtain⟨o,e,_⟩:=st;exact Ym e
 have ll:l<s.heap.objs.size:=by obtain⟨o,e,_⟩:=hl;exact Ym e
 refine callType_codes (Q₁:=fun obj aH=>obj=.ref s.heap.objs.size/\aH={ s with heap:=s.heap.push { cls:=.type "list",data:=.seq #[] } }) F.called_list (F.typeCall_list_1 _) F.entry_list_init
  (code_list_new _ ⟨rfl,rfl⟩) fun obj aH bq=>?_
 obtain⟨rfl,rfl⟩:=bq;have hS:(s.heap.push { cls:=.type "list",data:=.seq #[] }).get? s.heap.objs.size=some { cls:=.type "list",data:=.seq #[] }:=Yl _ rfl;refine⟨⟨_,hS,rfl⟩,F.args_list_init_2 _ _,?_⟩;show wpAny _ A.in1.in1 (do let old <- Builtin.List.listItems (.ref s.heap.objs.size);Builtin.List.listUpdate (.ref s.heap.objs.size) (fun _=>#[]);letGo old.toList.reverse;Builtin.List.listExtendWith (.ref s.heap.objs.size) (.ref I) .none) _ _ _;refine Yb ?_;unfold Builtin.List.listItems;refine Yb (rB hS rfl (Yd ?_));show wpAny _ A.in1.in1 (updateSeq s.heap.objs.size (fun _=>#[])>>=fun _=>letGo (#[]:Array Value).toList.reverse>>=fun _=>Builtin.List.listExtendWith (.ref s.heap.objs.size) (.ref I) .none) _ _ _;refine Yb (m7 hS rfl ?_);have mq:=YB (Obj.mapSeq (fun _=>(#[]:Array Value))) hS rfl;have cJ:∀b o,b≠s.heap.objs.size->(s.heap.push { cls:=.type "list",data:=.seq #[] }).get? b=some o->((s.heap.push { cls:=.type "list",data:=.seq #[] }).update s.heap.objs.size (Obj.mapSeq (fun _=>(#[]:Array Value)))).get? b=some o :=
  fun b o hb e=>(YC _ _ (Ne.symm hb)).trans e
 refine Yb (qb (Tx (A:=A.in1) (c:=_) (items:=items) hh aR (jR lI) (jR ll) (st.at fun o e=>cJ _ _ (Yn lI) (Ye _ e)) (hl.at fun o e=>cJ _ _ (Yn ll) (Ye _ e)) hn mq fun s' c' mv here=>?_));have m0:Moved [s.heap.objs.size,I] (fun a b:Array GenState=>b=a) { s with heap:=s.heap.push { cls:=.type "list",data:=.seq #[] } } { s with heap:=(s.heap.push { cls:=.type "list",data:=.seq #[] }).update s.heap.objs.size (Obj.mapSeq (fun _=>(#[]:Array Value))) } :=
  Moved.then_heap (wr:=[s.heap.objs.size,I]) (G:=fun a b=>b=a) (s:={ s with heap:=s.heap.push { cls:=.type "list",data:=.seq #[] } }) (s':={ s with heap:=s.heap.push { cls:=.type "list",data:=.seq #[] } }) (Moved.refl (G:=fun a b=>b=a) (fun _=>rfl)) (Yj _) fun b o hb e=>cJ b o (fun h=>hb (by rw[h];exact lE)) e
 exact⟨rfl,hQ s' c' (Moved.trans (fun _ _ _ h1 h2=>h2.trans h1) m0 mv) here⟩
end
def Me(K:au)(te:TE):TE:=fun σ H Q=>te σ H fun x H1=>∃a xs,x=.ref a/\aV K H1 a xs/\∀p,H1 p=none->Q (.ref p) (upd H1 p (.lst xs.reverse))
section
def TC(hc:X.calm=true)(TF:Gl X "list")(hm1:X.mg "list"=none)(Eo:Gl X "reversed")(hm2:X.mg "reversed"=none)(he:PE X e te)(rN:starEach [e] X.env=[(false,eval e X.env)]:=by rfl)(kf:starEach [.Call (.Name "reversed" p2) [e] [] oM] X.env=[(false,eval (.Call (.Name "reversed" p2) [e] [] oM) X.env)]:=by rfl):PE X (.Call (.Name "list" p1) [.Call (.Name "reversed" p2) [e] [] oM] [] TK) (Me X.K te):=by
 intro pins s σ H Q I h;refine kG (og I TF hm1 (show bootBuiltins "list"=some (.type "list") by decide +kernel) (wg (T:="list") ?_ kf rfl) (by decide) (by decide));rw[kf];refine(show wpAny _ _ (spliced ((false,eval (.Call (.Name "reversed" p2) [e] [] oM) X.env)::[])) _ _ s from CH (SE hc Eo hm2 he rN I h fun a xs H1 s1 its I1 hx rv pl hz q=>CM ?_));have la:a<s1.heap.objs.size:=by obtain⟨o,e,_⟩:=pl;exact Ym e
 have hlen:=rv.length;refine TB (I:=s1.heap.objs.size) (l:=a) (items:=its.toArray) (I1.ok.hd hc) (Yn la) ⟨_,Yl _ rfl,rfl,rfl⟩ (pl.at fun o z=>Ye _ z) (by rw[Yq,<- hlen];exact hz) fun s' c' mv here=>?_;have e':=KI mv;have sz:(s1.heap.push (revObj a ((its.toArray.size:Int)-1))).objs.size=s1.heap.objs.size+1:=Array.size_push ..;have kp:∀b o,s1.heap.get? b=some o->s'.heap.get? b=some o:=fun b o z=>mv.heap b o (by
  have:=Ym z;simp only[Yo,YG,eZ,not_or];constructor
  .show b≠(s1.heap.push (revObj a ((its.toArray.size:Int)-1))).objs.size;rw[sz];exact Yn (YV this)
  .exact Yn this) (Ye _ (Ye _ z))
 have e9:its.toArray.reverse=its.reverse.toArray:=by apply zQ.mp;simp
 have I3:Inv X pins σ (upd H1 (s1.heap.objs.size+1) (.lst xs.reverse)) { s1 with heap:=s'.heap,toks:=s'.toks } :=
  I1.laid (t':=s'.toks) kp (fT _) (show dC X.prog X.w _ s'.heap _ (.lst xs.reverse)from⟨by rw[IG];exact hz,its.reverse,c',Z3.reverse rv,by rw[<- e9];rw[<- sz];exact here⟩)
 rw[show s'={ s1 with heap:=s'.heap,toks:=s'.toks }from e'];exact⟨.ref (s1.heap.objs.size+1),_,I3,by show aZ _ _;rw[<- sz];rfl,q _ (I1.aG.fresh (fT _))⟩
end
section
def Mf(a:AE):AE:=fun ρ A Q=>a ρ A fun x A1=>∃p us,x=.ref p/\A1 p=some (.lst us)/\∀l,A1 l=none->Q (.ref l) (af A1 l (.lst us.reverse))
def TL(ha:aY K t a):aY K (Me K t) (Mf a):=fun ρ A σ H Q' Q hs g w k =>
 ha ρ A σ H _ _ hs g w fun x A1 v H1 k1 g1 r1 aF=>by
  obtain⟨p,us,e,eA,q⟩:=aF
  subst e;cases r1
  obtain⟨vs,h1,r1⟩:=g1.list eA
  refine⟨p,vs,rfl,aV.of h1,fun q2 hp=>?_⟩
  have s:=ba.aA (o:=.lst vs.reverse) hp
  exact k _ _ _ _ (k1.trans s.kp) (g1.en hp r1.rev) (.ref _) (q q2 (g1.none hp))
def ZhQ:(Mf a ρ A Q)=(a ρ A fun x A1=>∃p us,x=.ref p/\A1 p=some (.lst us)/\∀l,A1 l=none->Q (.ref l) (af A1 l (.lst us.reverse))):=rfl
end
def E9{α:Type}{P:List α->Prop}(h:P []):∀us:List α,us.length=0->P us:=fun us e=>by
 cases us with
 | nil=>exact h
 | cons a us=>simp at e
def E_{α:Type}{P:List α->Prop}(h:∀a,P [a]):∀us:List α,us.length=1->P us:=fun us e=>by
 cases us with
 | nil=>simp at e
 | cons a us=>exact E9 (P:=fun us=>P (a::us)) (h a) us (by simpa using e)
def Fb{α:Type}{P:List α->Prop}(h:∀a b,P [a,b]):∀us:List α,us.length=2->P us:=fun us e=>by
 cases us with
 | nil=>simp at e
 | cons a us=>exact E_ (P:=fun us=>P (a::us)) (h a) us (by simpa using e)
def Fc{α:Type}{P:List α->Prop}(h:∀a b c,P [a,b,c]):∀us:List α,us.length=3->P us:=fun us e=>by
 cases us with
 | nil=>simp at e
 | cons a us=>exact Fb (P:=fun us=>P (a::us)) (h a) us (by simpa using e)
def Fd{α:Type}{P:List α->Prop}(h:∀a b c d,P [a,b,c,d]):∀us:List α,us.length=4->P us:=fun us e=>by
 cases us with
 | nil=>simp at e
 | cons a us=>exact Fc (P:=fun us=>P (a::us)) (h a) us (by simpa using e)
def xY(k:Nat)(hz:z∈(["nothing","bead","name","or","by"]:List Str)):cA k≠z:=by
 have key:∀t∈(["row","bag","choice","ring"]:List Str),∀z∈(["nothing","bead","name","or","by"]:List Str),t≠z:=by decide +kernel
 refine key _ ?_ _ hz;match k with
 | 0=>decide +kernel
 | 1=>decide +kernel
 | 2=>decide +kernel
 | k+3=>exact(by decide +kernel:cA 3∈(["row","bag","choice","ring"]:List Str))
def Fe(cs:Nat->Addr)(n:Nat):bQ:=fun us A Q=>∃r:Rl,us=[r.toU]/\r.dep<=n/\∀B b,Ext A B->b4 cs B b r->Q (.ref b) B
def TM:∀us A Q,¬Fe cs 0 us A Q:=fun us A Q aF=>by obtain⟨r,_,h,_⟩:=aF;have:=r.bB;lia
def Mg(hx:PyData.strOk x=true)(hy:PyData.strOk y=true)(h:Q (.bl true) A):eE false (.tup [.str x,.str y]) (.tup [.str x,.str y]) A Q:=by
 refine⟨.tuple [.str x,.str y],.tuple [.str x,.str y],.tup (.cons (.str _) (.cons (.str _) .nil)),.tup (.cons (.str _) (.cons (.str _) .nil)),?_,?_,?_,?_⟩
 .simp only[PyData.canLay0,PyData.canLayAll0,hx,hy,zV]
 .simp only[PyData.canLay0,PyData.canLayAll0,hx,hy,zV]
 .simp[PyData.depth,PyData.depthAll]
 .rw[if_neg (by decide)];have:PyData.eqv (.tuple [.str x,.str y]) (.tuple [.str x,.str y])=true:=by simp[PyData.eqv,PyData.eqvAll]
  rw[this];exact h
def TN{j:Nat}(hj:j<=3):cm [U.str "row",U.str "bag",U.str "choice",U.str "ring"] (j:Int)=some (.str (cA j)):=by
 rcases j with _|_|_|_|j<;>first|rfl|lia
def Mh(r:Rl):U:=.tup [r.toU,.int r.size,.int r.dep]
def Mi{α:Type}{ws:List α}(h:1<ws.length):∃ie x y,ws=ie++[x]++[y]:=by
 rcases zJ ws with rfl|⟨a,b,rfl⟩
 .exact absurd h (by simp)
 .rcases zJ a with rfl|⟨c,d,rfl⟩
  .exact absurd h (by simp)
  .exact⟨c,d,b,by simp⟩
def TQ{α:Type}{ws:List α}(h:0<ws.length):∃ie x,ws=ie++[x]:=by
 rcases zJ ws with rfl|⟨a,b,rfl⟩
 .exact absurd h (by simp)
 .exact⟨a,b,by simp⟩
def TR(h0:0<=k)(h3:k<4):∃j:Nat,cm [U.str "row",U.str "bag",U.str "choice",U.str "ring"] k=some (.str (cA j)):=by
 obtain⟨j,rfl⟩:∃j:Nat,k=j:=⟨k.toNat,by lia⟩;exact⟨j,TN (by lia)⟩
def TU(ws:List Rl):Prop:=∀r∈ws,r.wd=true
def Mj:bQ:=fun us A Q=>∃(a:Addr)(z:Int)(ws:List Rl),us=[.ref a,.int z]/\A a=some (.lst (ws.map Mh))/\TU ws/\ws.length<=90/\∀(ie:List Rl)(r:Rl),ie <+: ws->r.wd=true->(ws=[]->r.size=1/\r.dep=1)->Q .ay (af A a (.lst ((ie++[r]).map Mh)))
def KV.look(r:KV aq vs)(k:Str):iL (aq.lookup k) (valueAt vs k):=by
 unfold KV at r;induction r with
 | nil=>exact True.intro
 | @cons p q ps qs h t ih =>
  obtain⟨h1,h2⟩:=h;obtain⟨p1,p2⟩:=p;obtain⟨q1,q2⟩:=q;simp only at h1 h2;subst h1;unfold valueAt;rw[List.lookup_cons,List.find?_cons];by_cases e:p1=k
  .subst e;simp only[Ja,decide_true];exact h2
  .have e':(k==p1)=false:=Yw.mpr fun z=>e z.symm;rw[e',Yu e];exact ih
def KV.put(r:KV aq vs)(nd:(vs.map (·.1)).Nodup)(k:Str)(ry:aZ y u):KV (dg k y aq) (stored vs k u):=by
 unfold KV at r;induction r with
 | nil=>exact .cons ⟨rfl,ry⟩ .nil
 | @cons p q ps qs h t ih =>
  obtain⟨p1,p2⟩:=p;obtain⟨q1,q2⟩:=q;obtain⟨h1,h2⟩:=h;simp only at h1 h2;subst h1;rw[Yr,Y7]at nd;have ih:=ih nd.2;unfold dg;by_cases e:p1=k
  .subst e;rw[if_pos rfl];have s:stored ((p1,q2)::qs) p1 u=(p1,u)::qs:=by
    unfold stored;rw[if_pos (by simp),Yr,if_pos rfl,map_store_of_not_mem qs p1 u nd.1]
   rw[s];exact .cons ⟨rfl,ry⟩ t
  .rw[if_neg e];have s:stored ((p1,q2)::qs) k u=(p1,q2)::stored qs k u:=by
    unfold stored;rw[List.any_cons,Yu e,Bool.false_or,Yr,if_neg e];split<;>rfl
   rw[s];exact .cons ⟨rfl,h2⟩ ih
theorem Ff(k:Str)(y:V):∀aq:List (Str×V),(dg k y aq).length<=aq.length+1
 | []=>Yj _
 | (g, x)::r=>by
  unfold dg
  split
  .simp
  .have:=Ff k y r
   simp only[List.length_cons];lia
def o7(P:Program)(w:World)(d:Addr)(ep:Nat)(aq:List (Str×V))(h:Heap):Prop:=((d==sysModules)=false/\aq.length<=sizeLine)/\∃vs,KV aq vs/\h.DictAt (strKind P w) d vs ep
def DQ(P:Program)(w:World)(d:Addr)(ep:Nat)(aq:List (Str×V)):HO:=.ext (o7 P w d ep aq)
def o7.ok(e:o7 P w d ep aq h):dC P w H h d (DQ P w d ep aq):=by
 obtain⟨h0,vs,r,o,es,h1,h2⟩:=e;refine⟨⟨h0,vs,r,o,es,h1,h2⟩,⟨o,h1⟩,fun g1 g2 q kp=>?_⟩;obtain⟨h0,vs,r,o,es,h1,h2⟩:=q;exact⟨h0,vs,r,o,es,kp o h1,h2⟩
def dS(P:Program)(w:World)(ep:Nat)(kus:List (Str×U)):AO:=.cJ fun K H a=>∃aq,H a=some (DQ P w a ep aq)/\cj K H kus aq
section
def xZ(h1:H a=some (DQ P w a ep aq))(h2:cj K H kus aq):RO K H a (dS P w ep kus) :=
 ⟨⟨_,h1⟩,⟨aq,h1,h2⟩,fun H1 H2 ⟨ys,q1,q2⟩ kp e=>⟨ys,by rw[e];exact q1,q2.same kp⟩⟩
def gc(g:HR K H A)(e:A a=some (dS P w ep kus)):∃aq,H a=some (DQ P w a ep aq)/\cj K H kus aq:=(g a _ e).2.1
end
def Ml(P:Program)(w:World):TE:=fun _ H Q=>∀p,H p=none->Q (.ref p) (upd H p (DQ P w p 0 []))
def Mm(P:Program)(w:World):AE:=fun _ A Q=>∀p,A p=none->Q (.ref p) (af A p (dS P w 0 []))
def vy:aY K (Ml P w) (Mm P w):=fun ρ A σ H Q' Q hs g h k p hp =>
 k _ _ _ _ (ba.aA hp).kp (g.dO (ba.aA hp).kp (xZ ZC ⟨rfl,.nil⟩)) (.ref p) (h p (g.none hp))
section
def Mn(h:Heap)(hb:sysModules<h.objs.size):o7 P w h.objs.size 0 [] (h.push { cls:=.type "dict",data:=.dict #[] }) :=
 ⟨⟨Yw.mpr (Ne.symm (Yn hb)),Y0 _⟩,[],.nil,_,#[],Yl _ rfl,⟨rfl,rfl,rfl⟩,rfl,by intro e he;simp at he,.nil,List.nodup_nil⟩
def vz:PE X (.Dict [] [] pos) (Ml X.prog X.w):=fun pins s σ H Q I h =>
 wpAny_Dict_empty ⟨.ref s.heap.objs.size,_,I.laid (a:=s.heap.objs.size) (t':=s.toks) (fun _ _ q=>Ye _ q) (Yj _) (o7.ok (Mn s.heap (big I))),rfl,h _ (I.aG.fresh (Yj _))⟩
def d5(I:Inv X pins σ H s)(h:H d=some (DQ X.prog X.w d ep aq)):
  (d==sysModules)=false/\aq.length<=sizeLine/\∃vs,KV aq vs/\s.heap.DictAt (strKind X.prog X.w) d vs ep :=
 let⟨⟨⟨h0,hz⟩,r⟩,_⟩:=I.aG d _ h
 ⟨h0,hz,r⟩
def Fh(P:Program)(w:World):V->V->Hp->VK->Prop:=fun x y H Q=>∃z a ep aq,x=.str z/\y=.ref a/\H a=some (DQ P w a ep aq)/\Q (.bl (aq.lookup z).isSome) H
def Fi(P:Program)(w:World):V->V->Hp->VK->Prop:=fun x y H Q=>∃z a ep aq,x=.str z/\y=.ref a/\H a=some (DQ P w a ep aq)/\Q (.bl (!(aq.lookup z).isSome)) H
def Fj(P:Program)(w:World):V->V->Hp->VK->Prop:=fun x y H Q=>∃z a ep aq v,x=.ref a/\y=.str z/\H a=some (DQ P w a ep aq)/\aq.lookup z=some v/\Q v H
def Mo(r:iL o u):o.isSome=u.isSome:=by
 cases o<;>cases u<;>first|rfl|exact(show False from r).elim
def Bn:a9 X (compareOp .In) (Fh X.prog X.w):=by
 intro pins s σ H x y v u Q I rx ry h;obtain⟨z,a,ep,aq,rfl,rfl,e,q⟩:=h;obtain⟨t,rfl⟩:=rx;cases ry;obtain⟨h0,hz,vs,r,dd⟩:=d5 I e;refine wpAny_in_of (strKind_is X.prog X.w z t) h0 dd.dictOf.mapOf ⟨.bl _,H,I.tok _,?_,q⟩;rw[Mo (r.look z)];rfl
def Fl:a9 X (compareOp .NotIn) (Fi X.prog X.w):=by
 intro pins s σ H x y v u Q I rx ry h;obtain⟨z,a,ep,aq,rfl,rfl,e,q⟩:=h;obtain⟨t,rfl⟩:=rx;cases ry;obtain⟨h0,hz,vs,r,dd⟩:=d5 I e;refine wpAny_notIn_of (strKind_is X.prog X.w z t) h0 dd.dictOf.mapOf ⟨.bl _,H,I.tok _,?_,q⟩;rw[Mo (r.look z)];rfl
def sM:j0 X (Fj X.prog X.w):=by
 intro value slice pins s σ H x y v u Q I rx ry h hs;obtain⟨z,a,ep,aq,v',rfl,rfl,e,el,q⟩:=h;obtain⟨t,rfl⟩:=ry;cases rx;obtain⟨h0,hz,vs,r,dd⟩:=d5 I e;have:=r.look z;rw[el]at this;obtain⟨w',hw,wR⟩:∃w',valueAt vs z=some w'/\aZ v' w':=by
  cases hv:valueAt vs z with
  | none=>rw[hv]at this;exact(show False from this).elim
  | some w'=>rw[hv]at this;exact⟨w',rfl,this⟩
 exact tail_any dd.dictOf.typeIs slot_dict_getitem.lookup (wpAny_getItem_of (strKind_is X.prog X.w z t) dd.dictOf.mapOf hw ⟨v',H,I.tok _,wR,q⟩) hs
def Mp(P:Program)(w:World):V->V->V->Hp->(Hp->Prop)->Prop:=fun o i v H Q=>∃d z ep aq,o=.ref d/\i=.str z/\H d=some (DQ P w d ep aq)/\aq.length<sizeLine/\∀aI,Q (upd H d (DQ P w d aI (dg z v aq)))
def x_:Dd X (Mp X.prog X.w):=by
 intro pins s σ H o i v ov iv u Q I ro ri rv h;obtain⟨d,z,ep,aq,rfl,rfl,e,hl,q⟩:=h;cases ro;obtain⟨t,rfl⟩:=ri;obtain⟨h0,hz,vs,r,dd⟩:=d5 I e;have gK:vs.length<=sizeLine:=by rw[<- Paired.length r];exact hz
 refine wpAny_setItem_pairs (hsz:=gK) (strKind_is X.prog X.w z t) dd.dictOf fun h' jA hs=>?_;obtain⟨aI,jA⟩:=jA.dictAt;have e1:∃o,h'.get? d=some o:=let⟨o,_,e,_⟩:=jA;⟨o,e⟩;refine⟨_,I.write (x:=d) (e:=d) (by rw[e];trivial) (.inl rfl) (fun c u hc z=>(hs.2 c hc).trans z) e1 (o7.ok ⟨⟨h0,by have:=Ff z v aq;lia⟩,_,r.put dd.nodup z rv,jA⟩),q aI⟩
def Mq(P:Program)(w:World):List V->Hp->VK->Prop:=fun vs H Q=>∃d ep aq,vs=[.ref d]/\H d=some (DQ P w d ep aq)/\Q (.int aq.length) H
def Fm:cf X (.builtin "len") (Mq X.prog X.w):=by
 intro pins s σ H vs us Q I r h;obtain⟨d,ep,aq,rfl,e,q⟩:=h;obtain⟨u,rfl,ru⟩:=r.one;cases ru;obtain⟨h0,hz,vs,r,dd⟩:=d5 I e;have hl:=Paired.length r;refine call_len_dict h0 dd.dictOf (by rw[<- hl];rw[gA]at hz;lia) ⟨.int _,H,I.tok _,⟨_,rfl⟩,?_⟩;rw[<- hl];exact q
end
section
def Mr(P:Program)(w:World):fJ:=fun x y A Q=>∃z a ep kus,x=.str z/\y=.ref a/\A a=some (dS P w ep kus)/\Q (.bl (kus.lookup z).isSome) A
def Ms(P:Program)(w:World):fJ:=fun x y A Q=>∃z a ep kus,x=.str z/\y=.ref a/\A a=some (dS P w ep kus)/\Q (.bl (!(kus.lookup z).isSome)) A
def Mt(P:Program)(w:World):fJ:=fun x y A Q=>∃z a ep kus u,x=.ref a/\y=.str z/\A a=some (dS P w ep kus)/\kus.lookup z=some u/\Q u A
def cj.ya(r:cj K H kus aq)(z:Str):(aq.lookup z).isSome=(kus.lookup z).isSome:=by
 cases e:kus.lookup z with
 | none=>rw[r.miss e];rfl
 | some u=>obtain⟨v,h,_⟩:=r.look e;rw[h];rfl
def Bo:et K (Fh P w) (Mr P w):=fun x y u v A H Q' Q hu hw g h k=>by
 obtain⟨z,a,ep,kus,rfl,rfl,e,q⟩:=h
 cases hu;cases hw
 obtain⟨aq,h1,r⟩:=gc g e
 exact⟨z,a,ep,aq,rfl,rfl,h1,k _ _ _ _ (.refl H) g (.bl _) (by rw[r.ya];exact q)⟩
def Fo:et K (Fi P w) (Ms P w):=fun x y u v A H Q' Q hu hw g h k=>by
 obtain⟨z,a,ep,kus,rfl,rfl,e,q⟩:=h
 cases hu;cases hw
 obtain⟨aq,h1,r⟩:=gc g e
 exact⟨z,a,ep,aq,rfl,rfl,h1,k _ _ _ _ (.refl H) g (.bl _) (by rw[r.ya];exact q)⟩
def qD:et K (Fj P w) (Mt P w):=fun x y u v A H Q' Q hu hw g h k=>by
 obtain⟨z,a,ep,kus,u',rfl,rfl,e,el,q⟩:=h
 cases hu;cases hw
 obtain⟨aq,h1,r⟩:=gc g e
 obtain⟨v',h2,r2⟩:=r.look el
 exact⟨z,a,ep,aq,v',rfl,rfl,h1,h2,k _ _ _ _ (.refl H) g r2 q⟩
def Mu(P:Program)(w:World)(o i:AE):AG:=fun u ρ A Q=>o ρ A fun x A1=>i ρ A1 fun y A2=>∃a z ep kus,x=.ref a/\y=.str z/\A2 a=some (dS P w ep kus)/\kus.length<sizeLine/\∀aI,Q ρ (af A2 a (dS P w aI (dq z u kus)))
def yb(ho:aY K to ao)(hi:aY K ti ai):oW K (Df to ti (Mp P w)) (Mu P w ao ai):=fun u v ρ A σ H Q' Q r hs g wh k =>
 ho ρ A σ H _ _ hs g wh fun x A1 v1 H1 k1 g1 r1 q1=>hi ρ A1 σ H1 _ _ (hs.same k1) g1 q1 fun y A2 v2 H2 k2 g2 r2 aF=>by
  obtain⟨a,z,ep,kus,e1,e2,eA,hz,q⟩:=aF
  subst e1 e2
  cases r1;cases r2
  obtain⟨aq,h1,rr⟩:=gc g2 eA
  have rv:=r.same (k1.trans k2)
  refine⟨a,z,ep,aq,rfl,rfl,h1,by rw[<- rr.len];exact hz,fun aI=>?_⟩
  have kp:Kp K H2 (upd H2 a (DQ P w a aI (dg z v aq))):=Kp.ext h1
  exact k _ _ _ _ (k1.trans (k2.trans kp)) (g2.dO kp (xZ ZC ((rr.put rv).same kp))) (hs.same (k1.trans (k2.trans kp))) (q aI)
def Mv(P:Program)(w:World):List U->az->bH->Prop:=fun us A Q=>∃p ep kus,us=[.ref p]/\A p=some (dS P w ep kus)/\Q (.int kus.length) A
def Fp:hZ K (Mq P w) (Mv P w):=fun vs us A H Q' Q r g h k=>by
 obtain⟨p,ep,kus,rfl,e,q⟩:=h
 obtain⟨v,rfl,r'⟩:=r.inv1
 cases r'
 obtain⟨aq,h1,rr⟩:=gc g e
 exact⟨p,ep,aq,rfl,h1,k _ _ _ _ (.refl H) g (.int _) (by rw[<- rr.len];exact q)⟩
def Zoq:(Mm P w ρ A Q)=(∀p,A p=none->Q (.ref p) (af A p (dS P w 0 []))):=rfl
def Zm0:(Mu P w o i u ρ A N)=(o ρ A fun x A1=>i ρ A1 fun y A2=>∃a z ep kus,x=.ref a/\y=.str z/\A2 a=some (dS P w ep kus)/\kus.length<sizeLine/\∀aI,N ρ (af A2 a (dS P w aI (dq z u kus)))):=rfl
def Zog:(Mv P w [.ref p] A Q)=(∃ep kus,A p=some (dS P w ep kus)/\Q (.int kus.length) A):=propext ⟨fun aF=>by obtain⟨_,ep,kus,e,h⟩:=aF;cases e;exact⟨ep,kus,h⟩,fun⟨ep,kus,h⟩=>⟨p,ep,kus,rfl,h⟩⟩
def Zqz:Mr P w (.str z) (.ref p) A Q=∃ep kus,A p=some (dS P w ep kus)/\Q (.bl (kus.lookup z).isSome) A:=propext ⟨fun aF=>by obtain⟨_,_,ep,kus,e,e',h⟩:=aF;cases e;cases e';exact⟨ep,kus,h⟩,fun⟨ep,kus,h⟩=>⟨_,_,ep,kus,rfl,rfl,h⟩⟩
def ZmY:Ms P w (.str z) (.ref p) A Q=∃ep kus,A p=some (dS P w ep kus)/\Q (.bl (!(kus.lookup z).isSome)) A:=propext ⟨fun aF=>by obtain⟨_,_,ep,kus,e,e',h⟩:=aF;cases e;cases e';exact⟨ep,kus,h⟩,fun⟨ep,kus,h⟩=>⟨_,_,ep,kus,rfl,rfl,h⟩⟩
def Zsc:Mt P w (.ref p) (.str z) A Q=∃ep kus u,A p=some (dS P w ep kus)/\kus.lookup z=some u/\Q u A:=propext ⟨fun aF=>by obtain⟨_,_,ep,kus,u,e,e',h⟩:=aF;cases e;cases e';exact⟨ep,kus,u,h⟩,fun⟨ep,kus,u,h⟩=>⟨_,_,ep,kus,u,rfl,rfl,h⟩⟩
end
def TV:∀ {es:List DictEntry} {vs us:List (Str×Value)},Pairs (strKind P w) es vs->Pairs (strKind P w) es us->vs=us:=by
 intro es vs us h;induction h generalizing us with
 | nil=>intro k;cases k;rfl
 | @cons e kv es vs h1 h2 h3 ih =>
  intro k;cases k with
  | @cons _ ku _ us k1 k2 k3 =>
   rw[ih k3];obtain⟨a,b⟩:=kv;obtain⟨c,d⟩:=ku;have e1:a=c:=(strKind P w).inj _ _ _ h1 k1;have e2:b=d:=h2.symm.trans k2;rw[e1,e2]
def TY:∀ {aq kus:List (Str×V)},KV aq vs->KV kus vs->aq=kus:=by
 intro aq kus h;unfold KV at h;induction h generalizing kus with
 | nil=>intro k;cases k;rfl
 | @cons p q ps qs h1 h2 ih =>
  intro k;cases k with
  | @cons p' _ TZ _ k1 k2 =>
   rw[ih k2];obtain⟨a,b⟩:=p;obtain⟨c,d⟩:=p';have e1:a=c:=h1.1.trans k1.1.symm;have e2:b=d:=h1.2.inj k1.2;rw[e1,e2]
section
def Fq(I:Inv X pins σ H s)(h:H d=some (DQ X.prog X.w d ep aq))(h':H d=some (DQ X.prog X.w d aI kus)):aq=kus:=by
 obtain⟨_,_,vs,r,o,es,e1,_,e2,_,p,_⟩:=d5 I h;obtain⟨_,_,us,r',o',es',Mw,_,Mx,_,p',_⟩:=d5 I h';rw[e1]at Mw;cases Mw;rw[e2]at Mx;injection Mx with e3 _;subst e3;rw[TV p p']at r;exact TY r r'
def Bp(r:KV aq vs){i:Nat}{p:Str×V}(h:aq[i]? = some p):∃u,vs[i]? = some (p.1,u)/\aZ p.2 u:=by
 unfold KV at r;induction r generalizing i with
 | nil=>simp at h
 | @cons q q' ps qs h1 h2 ih =>
  cases i with
  | zero =>
   simp only[List.getElem?_cons_zero,Option.some.injEq]at h ⊢;subst h;obtain⟨a,b⟩:=q';obtain⟨e,r⟩:=h1;simp only at e r;subst e;exact⟨b,rfl,r⟩
  | succ i=>simpa using ih (by simpa using h)
def Mz(P:Program)(w:World)(to:TE)(t:TA):TE:=fun σ H Q=>to σ H fun x H1=>∃a ep aq,x=.ref a/\H1 a=some (DQ P w a ep aq)/\t σ H1 fun vs H2=>∃z d aI cG,(vs=[.str z]/\d=.ay\/vs=[.str z,d])/\H2 a=some (DQ P w a aI cG)/\Q ((cG.lookup z).getD d) H2
def MA(r:iL o u)(rd:aZ d d'):aZ (o.getD d) (u.getD d'):=by
 cases o<;>cases u<;>first|exact rd|exact(show False from r).elim|exact r
def MB(ho:PE X o to)(ha:PA X (e::es) t)(h1:attributeBase o "get" X.env (eval o X.env)=eval o X.env:=by rfl)(h2:((backTo aW (starEach (e::es) X.env)).all (fun x=>!x.1)&&(backToKw aW (keywordEach [] X.env)).all (fun x=>x.1.isSome)&&decide ((e::es).length+([]:List Keyword).length+(if([]:List Keyword).isEmpty then 0 else 1)<30))=true:=by rfl)(h3:(apos.endLine==aW.line)=true:=by rfl)(h4:starEach (e::es) X.env=(false,eval e X.env)::starEach es X.env:=by rfl)(h5:(backTo aW (starEach es X.env)).any (·.1)=false:=by rfl):
  PE X (.Call (.Attribute o "get" apos) (e::es) [] aW) (Mz X.prog X.w to t):=by
 intro pins s σ H Q I h;refine wpAny_Call_method_late h1 h2 h3 rfl (aM (ho pins s σ H _ I h) fun v s1 aL=>?_);obtain⟨x,H1,I1,r1,a,ep,aq,ex,sN,q1⟩:=aL;subst ex;cases r1;obtain⟨_,_,T2,_,dd⟩:=d5 I1 sN;refine⟨"dict","dict.get",F.plainAttrs_dict,F.slot_dict_get,F.type_dict_get,dd.dictOf.typeIs,dd.dictOf.mapOf.noDict,?_⟩;have hA:=ha aW pins s1 σ H1 _ I1 q1;rw[h4]at hA ⊢;refine rh (by show(false||(backTo aW (starEach es X.env)).any (·.1))=false;rw[h5]<;>rfl) (Calls.evalArgs_plain (aM hA fun us s2 aL=>?_));obtain⟨vs,H2,I2,r2,z,d,aI,cG,ev,jB,q2⟩:=aL;obtain⟨h0,_,nG,r,kO⟩:=d5 I2 jB;rcases ev with⟨rfl,rfl⟩|rfl
 .obtain⟨u,rfl,ru⟩:=r2.one;obtain⟨tk,rfl⟩:=ru;exact call_meetsIn F.slot_dict_get kO.dictOf.typeIs F.entry_dict_get (F.args_dict_get_2 _ _) (meets_dict_get (strKind X.prog X.w) a (strKind_is X.prog X.w z tk) h0) ⟨_,kO.dictOf.mapOf,_,H2,I2.tok _,MA (d:=.ay) (r.look z) rfl,q2⟩
 .obtain⟨u,u',rfl,ru,T3⟩:=r2.two;obtain⟨tk,rfl⟩:=ru;exact call_meetsIn F.slot_dict_get kO.dictOf.typeIs F.entry_dict_get (F.args_dict_get_3 _ _ _) (meets_dict_get_default (strKind X.prog X.w) a (strKind_is X.prog X.w z tk) h0 u') ⟨_,kO.dictOf.mapOf,_,H2,I2.tok _,MA (r.look z) T3,q2⟩
end
def T4:entryFor table "dict_itemiterator.__iter__"=some Builtin.«dict_keyiterator.__iter__»:=entryFor_alias (id':="dict_keyiterator.__iter__") (by kernel_rfl) rfl (by decide +kernel) (by kernel_rfl)
def MC(P:Program)(w:World)(d:Addr)(ep n:Nat):It :=
 ⟨fun i H=>i<n/\∃aq,H d=some (DQ P w d ep aq)/\aq.length=n,fun i H x H'=>H'=H/\∀aq,H d=some (DQ P w d ep aq)->∃p,aq[i]? = some p/\x=.str p.1,fun i H=>n<=i/\∃aq,H d=some (DQ P w d ep aq)/\aq.length=n⟩
def MD(P:Program)(w:World)(d:Addr)(ep n:Nat):It :=
 ⟨fun i H=>i<n/\∃aq,H d=some (DQ P w d ep aq)/\aq.length=n,fun i H x H'=>H'=H/\∀aq,H d=some (DQ P w d ep aq)->∃p,aq[i]? = some p/\x=p.2,fun i H=>n<=i/\∃aq,H d=some (DQ P w d ep aq)/\aq.length=n⟩
def ME(P:Program)(w:World)(d:Addr)(ep n:Nat):It :=
 ⟨fun i H=>i<n/\∃aq,H d=some (DQ P w d ep aq)/\aq.length=n,fun i H x H'=>∃T p,x=.ref T/\H T=none/\H'=upd H T (.tup [.str p.1,p.2])/\∀aq,H d=some (DQ P w d ep aq)->aq[i]? = some p,fun i H=>n<=i/\∃aq,H d=some (DQ P w d ep aq)/\aq.length=n⟩
section
def T5(d it:Addr)(ep n:Nat):om P w K tg (MC P w d ep n) [it] it (fun i h=>h.IsKeyIter it d i n ep):=by
 refine⟨by simp,fun i h st b hb=>?_,fun i h h' st k=>st.at fun o e=>k it (by simp) o e,?_,?_,fun _ _ _ _ _ st h=>wpAny_pyIter_keyiter st h⟩
 .obtain rfl:b=it:=by simpa using hb
  obtain⟨o,e1,_,d⟩:=st;exact⟨o,e1,fun v z=>by rw[d]at z;cases z⟩
 .intro X e1 e2 e3 hc i pins s σ H E I hf st ⟨hi,aq,hq,hn⟩;subst e1 e2 e3;obtain⟨h0,hz,vs,r,dd⟩:=d5 I hq;have hl:vs.length=n:=by rw[<- Paired.length r];exact hn
  subst hn;obtain⟨p,hp⟩:∃p,aq[i]? = some p:=⟨_,Yg hi⟩;obtain⟨u,hu,ru⟩:=Bp r hp;obtain⟨f0,f1,_,f3,f4,f5⟩:=hf it (by simp);rw[<- hl]at st ⊢;refine wpAny_pyNext_dict_item st dd hu fun key h' hk fb sb=>?_;obtain⟨tk,rfl⟩:=Value.isStrOf_shape hk;have J1:Inv X pins σ H { s with heap:=h' }:=I.turned (t':=s.toks) (fun b o hb z=>(sb.2 b hb).trans z) f0 f1 f3 f4 f5;obtain⟨o,z1,z2,z3⟩:=id fb;refine⟨_,rfl,wJ (s:={ s with heap:=h' }) z1 z2 z3 (by decide) ⟨.str p.1,H,J1,⟨_,rfl⟩,⟨rfl,fun ys hy=>?_⟩,fb,fun b hb=>(hf b hb).1⟩⟩;rw[Fq I hy hq];exact⟨p,hp,rfl⟩
 .intro X e1 e2 e3 hc i pins s σ H E I hf st ⟨hi,aq,hq,hn⟩;subst e1 e2 e3;obtain⟨h0,hz,vs,r,dd⟩:=d5 I hq;have hl:vs.length=n:=by rw[<- Paired.length r];exact hn
  obtain⟨f0,f1,_,f3,f4,f5⟩:=hf it (by simp);rw[<- hl]at st;exact wpAny_pyNext_dict_end (I.ok.hd hc) st dd (YI.mpr (by rw[hl];exact hi)) fun h' eb=>⟨rfl,I.turned (t':=s.toks) (fun b o hb z=>eb b o hb z) f0 f1 f3 f4 f5⟩
def T6(d it:Addr)(ep n:Nat):om P w K tg (MD P w d ep n) [it] it (fun i h=>h.IsValIter it d i n ep):=by
 refine⟨by simp,fun i h st b hb=>?_,fun i h h' st k=>st.at fun o e=>k it (by simp) o e,?_,?_,fun _ _ _ _ _ st h=>wpAny_pyIter_valiter st h⟩
 .obtain rfl:b=it:=by simpa using hb
  obtain⟨o,e1,_,d⟩:=st;exact⟨o,e1,fun v z=>by rw[d]at z;cases z⟩
 .intro X e1 e2 e3 hc i pins s σ H E I hf st ⟨hi,aq,hq,hn⟩;subst e1 e2 e3;obtain⟨h0,hz,vs,r,dd⟩:=d5 I hq;have hl:vs.length=n:=by rw[<- Paired.length r];exact hn
  subst hn;obtain⟨p,hp⟩:∃p,aq[i]? = some p:=⟨_,Yg hi⟩;obtain⟨u,hu,ru⟩:=Bp r hp;obtain⟨f0,f1,_,f3,f4,f5⟩:=hf it (by simp);rw[<- hl]at st ⊢;refine wpAny_pyNext_values_item st dd hu fun h' fb sb=>?_;have J1:Inv X pins σ H { s with heap:=h' }:=I.turned (t':=s.toks) (fun b o hb z=>(sb.2 b hb).trans z) f0 f1 f3 f4 f5;obtain⟨o,z1,z2,z3⟩:=id fb;refine⟨_,rfl,wJ (s:={ s with heap:=h' }) z1 z2 z3 (by decide) ⟨p.2,H,J1,ru,⟨rfl,fun ys hy=>?_⟩,fb,fun b hb=>(hf b hb).1⟩⟩;rw[Fq I hy hq];exact⟨p,hp,rfl⟩
 .intro X e1 e2 e3 hc i pins s σ H E I hf st ⟨hi,aq,hq,hn⟩;subst e1 e2 e3;obtain⟨h0,hz,vs,r,dd⟩:=d5 I hq;have hl:vs.length=n:=by rw[<- Paired.length r];exact hn
  obtain⟨f0,f1,_,f3,f4,f5⟩:=hf it (by simp);rw[<- hl]at st;exact wpAny_pyNext_values_end (I.ok.hd hc) st dd (YI.mpr (by rw[hl];exact hi)) fun h' eb=>⟨rfl,I.turned (t':=s.toks) (fun b o hb z=>eb b o hb z) f0 f1 f3 f4 f5⟩
def T7(d it:Addr)(ep n:Nat):om P w K (.Tuple elts k0 pos) (ME P w d ep n) [it] it (fun i h=>∃ok ov,IsItemIter h it d i n ep ok ov):=by
 refine⟨by simp,fun i h ⟨ok,ov,st⟩ b hb=>?_,fun i h h' ⟨ok,ov,st⟩ k=>⟨ok,ov,k it (by simp) _ st⟩,?_,?_,fun _ _ _ _ _ ⟨ok,ov,st⟩ h=>?_⟩
 .obtain rfl:b=it:=by simpa using hb
  exact⟨_,st,fun v z=>nomatch z⟩
 .rintro X e1 e2 e3 hc i pins s σ H E I hf ⟨ok,ov,st⟩ ⟨hi,aq,hq,hn⟩;subst e1 e2 e3;obtain⟨h0,hz,vs,r,dd⟩:=d5 I hq;have hl:vs.length=n:=by rw[<- Paired.length r];exact hn
  subst hn;obtain⟨p,hp⟩:∃p,aq[i]? = some p:=⟨_,Yg hi⟩;obtain⟨u,hu,ru⟩:=Bp r hp;rw[<- hl]at st ⊢;refine wpAny_pyNext_items_item st dd hu fun key h' hk a1 a2 a3 T8=>?_;obtain⟨tk,rfl⟩:=Value.isStrOf_shape hk;refine⟨_,rfl,wpAny_letOwnedTupleGo_items a1 fun qo xt sb=>?_⟩;have nz:s.heap.objs.size≠it:=jR (Ym st);have xu:IsTup qo s.heap.objs.size [Value.str p.1 tk,u].toArray:=⟨_,sb.extBut _ _ nz a2,rfl,_,rfl⟩;have I':Inv X pins σ (upd H s.heap.objs.size (.tup [.str p.1,p.2])) { s with heap:=qo }:=I.f7 (t':=s.toks) (ch:=[it]) hf (fun b o hb q=>by
   have hb:b≠it:=by simpa using hb
   exact sb.extBut _ _ hb (T8 b o hb q)) (Yj _) ⟨by show 2<=sizeLine;decide,[Value.str p.1 tk,u],.cons ⟨_,rfl⟩ (.cons ru .nil),xu⟩
  have hn:H s.heap.objs.size=none:=I.aG.fresh (Yj _);refine⟨.ref s.heap.objs.size,_,I',rfl,⟨_,p,rfl,hn,rfl,fun zs j6=>by rw[Fq I j6 hq];exact hp⟩,⟨_,_,xt⟩,fun b hb=>?_⟩;have xv:=(hf b hb).1;have:b≠s.heap.objs.size:=by
   obtain rfl:b=it:=by simpa using hb
   exact Ne.symm nz
  rw[Zs this];exact xv
 .rintro X e1 e2 e3 hc i pins s σ H E I hf ⟨ok,ov,st⟩ ⟨hi,aq,hq,hn⟩;subst e1 e2 e3;obtain⟨h0,hz,vs,r,dd⟩:=d5 I hq;have hl:vs.length=n:=by rw[<- Paired.length r];exact hn
  rw[<- hl]at st;exact wpAny_pyNext_items_end (I.ok.hd hc) st dd (YI.mpr (by rw[hl];exact hi)) fun h' eb=>⟨rfl,I.f9 (t':=s.toks) (ch:=[it]) hf (fun b o hb q=>eb b o (by simpa using hb) q)⟩
 .refine wpAny_pyIter_slot (T:="dict_itemiterator") ⟨_,st,rfl⟩ F.slot_dict_itemiterator_iter (YZ F.slot_dict_itemiterator_iter ⟨_,st,rfl⟩ T4 ?_ (F.args_dict_itemiterator_iter_1 _));show wpAny _ _ (ret (.ref it)) _ _ _;exact Yd ⟨_,rfl,"dict_itemiterator",_,⟨_,st,rfl⟩,F.slot_dict_itemiterator_next.lookup,h⟩
end
def MF(P:Program)(w:World):V->Hp->(It->Hp->Prop)->Prop:=fun v H R=>∃d ep aq,v=.ref d/\H d=some (DQ P w d ep aq)/\R (MC P w d ep aq.length) H
def MG(P:Program)(w:World):V->Hp->(It->Hp->Prop)->Prop:=fun v H R=>∃d ep aq,v=.ref d/\H d=some (DQ P w d ep aq)/\R (MD P w d ep aq.length) H
def MH(P:Program)(w:World):V->Hp->(It->Hp->Prop)->Prop:=fun v H R=>∃d ep aq,v=.ref d/\H d=some (DQ P w d ep aq)/\R (ME P w d ep aq.length) H
section
def MI(hl:PE X a te):PI X tg a (xi (MF X.prog X.w) te):=by
 intro pins s σ H R I h;refine aM (hl pins s σ H _ I h) fun v s1 aL=>?_;obtain⟨x,H1,I1,r1,q1⟩:=aL;obtain⟨d,ep,aq,rfl,hq,q⟩:=q1;cases r1;obtain⟨h0,hz,vs,r,dd⟩:=d5 I1 hq;have hl:aq.length=vs.length:=Paired.length r;refine wpAny_pyIter_dict h0 dd ?_;refine⟨s1.heap.objs.size,[s1.heap.objs.size],_,_,H1,rfl,I1.kept (t':=s1.toks) fun b o e=>Ye _ e,T5 d _ ep aq.length,⟨_,Yl _ rfl,rfl,by rw[hl];rfl⟩,fun b hb=>?_,q⟩;obtain rfl:b=s1.heap.objs.size:=by simpa using hb
 exact I1.gU (Yj _) I1.fresh
def yc{h:Heap}(dd:h.DictAt (strKind P w) d vs ep):(h.push ob).DictAt (strKind P w) d vs ep:=dd.push ob
def MJ(ho:PE X o te)(eg:attributeBase o "values" X.env (eval o X.env)=eval o X.env:=by rfl)(eh:(apos.endLine==aW.line)=true:=by rfl):PI X tg (.Call (.Attribute o "values" apos) [] [] aW) (xi (MG X.prog X.w) te):=by
 intro pins s σ H R I h;refine wpAny_Call_method0_late eg eh (aM (ho pins s σ H _ I h) fun v s1 aL=>?_);obtain⟨x,H1,I1,r1,q1⟩:=aL;obtain⟨d,ep,aq,rfl,hq,q⟩:=q1;cases r1;obtain⟨h0,hz,vs,r,dd⟩:=d5 I1 hq;have hl:aq.length=vs.length:=Paired.length r;refine⟨"dict","dict.values",F.plainAttrs_dict,F.slot_dict_values,F.type_dict_values,dd.dictOf.typeIs,dd.dictOf.mapOf.noDict,rh rfl (PySem.evalArgs_none (call_meetsIn F.slot_dict_values dd.dictOf.typeIs F.entry_dict_values (F.args_dict_values_1 _) (meets_dict_values (strKind X.prog X.w) d h0) ⟨⟨vs,dd.dictOf⟩,?_⟩))⟩;refine wpAny_pyIter_values (s:={ s1 with heap:=s1.heap.push _ }) (v:=s1.heap.objs.size) ⟨_,Yl _ rfl,rfl,rfl⟩ (yc dd) ?_;have hsz:(s1.heap.push { cls:=.type "dict_values",data:=.fields #[.ref d] }).objs.size=s1.heap.objs.size+1:=by simp[Heap.push]
 refine⟨_,[_],_,_,H1,rfl,I1.kept (t':=s1.toks) fun b o e=>Ye _ (Ye _ e),T6 d _ ep aq.length,⟨_,Yl _ rfl,rfl,by rw[hl];rfl⟩,fun b hb=>?_,q⟩;obtain rfl:=Yp.mp hb;have hle:s1.heap.objs.size<=(s1.heap.push { cls:=.type "dict_values",data:=.fields #[.ref d] }).objs.size:=by rw[hsz];exact fT _
 exact I1.gU hle (I1.aG.fresh hle)
def vA(ho:PE X o te)(eg:attributeBase o "items" X.env (eval o X.env)=eval o X.env:=by rfl)(eh:(apos.endLine==aW.line)=true:=by rfl):PI X (.Tuple elts k0 tp) (.Call (.Attribute o "items" apos) [] [] aW) (xi (MH X.prog X.w) te):=by
 intro pins s σ H R I h;refine wpAny_Call_method0_late eg eh (aM (ho pins s σ H _ I h) fun v s1 aL=>?_);obtain⟨x,H1,I1,r1,q1⟩:=aL;obtain⟨d,ep,aq,rfl,hq,q⟩:=q1;cases r1;obtain⟨h0,hz,vs,r,dd⟩:=d5 I1 hq;have hl:aq.length=vs.length:=Paired.length r;refine⟨"dict","dict.items",F.plainAttrs_dict,F.slot_dict_items,F.type_dict_items,dd.dictOf.typeIs,dd.dictOf.mapOf.noDict,rh rfl (PySem.evalArgs_none (call_meetsIn F.slot_dict_items dd.dictOf.typeIs F.entry_dict_items (F.args_dict_items_1 _) (meets_dict_items (strKind X.prog X.w) d h0) ⟨⟨vs,dd.dictOf⟩,?_⟩))⟩;refine wpAny_pyIter_items (s:={ s1 with heap:=s1.heap.push _ }) (v:=s1.heap.objs.size) ⟨_,Yl _ rfl,rfl,rfl⟩ (yc dd) ?_;have hsz:(s1.heap.push { cls:=.type "dict_items",data:=.fields #[.ref d] }).objs.size=s1.heap.objs.size+1:=by simp[Heap.push]
 refine⟨_,[_],_,_,H1,rfl,I1.kept (t':=s1.toks) fun b o e=>Ye _ (Ye _ e),T7 d _ ep aq.length,⟨.none,.none,by rw[hl];exact Yl _ rfl⟩,fun b hb=>?_,q⟩;obtain rfl:=Yp.mp hb;have hle:s1.heap.objs.size<=(s1.heap.push { cls:=.type "dict_items",data:=.fields #[.ref d] }).objs.size:=by rw[hsz];exact fT _
 exact I1.gU hle (I1.aG.fresh hle)
end
def fK(p:Str×U):U:=.str p.1
def fI(p:Str×U):U:=.tup [.str p.1,p.2]
def Fs(P:Program)(w:World)(f:Str×U->U)(a:Addr)(ep n:Nat):fu:=fun i A r=>∃kus,A a=some (dS P w ep kus)/\kus.length=n/\r=(kus.map f)[i]?
def Bq(P:Program)(w:World)(f:Str×U->U):U->az->(fu->az->Prop)->Prop:=fun u A R=>∃a ep kus,u=.ref a/\A a=some (dS P w ep kus)/\R (Fs P w f a ep kus.length) A
section
def cj.get(r:cj K H kus aq){i:Nat}{p:Str×U}(h:kus[i]? = some p):∃v,aq[i]? = some (p.1,v)/\RU K H p.2 v:=by
 obtain⟨e,r⟩:=r;have h1:(kus.map (·.1))[i]? = some p.1:=by rw[Yi,h];rfl
 have h2:(kus.map (·.2))[i]? = some p.2:=by rw[Yi,h];rfl
 rw[e,Yi]at h1;obtain⟨q,hq,e1⟩:=YO.mp h1;obtain⟨v,hv,rv⟩:=r.get' h2;rw[Yi,hq]at hv;have e2:q.2=v:=YD hv;exact⟨v,by rw[hq,<- e1,<- e2],rv⟩
def MK:sG K (MF P w) (Bq P w fK):=fun x v A H R' R r g wh k=>by
 obtain⟨a,ep,kus,rfl,e,wh⟩:=wh
 cases r
 obtain⟨aq,h1,rr⟩:=gc g e
 refine⟨a,ep,aq,rfl,h1,k _ _ _ _ (.refl H) g (fun i A2 H2 r k2 g2 ⟨mw,e2,hn,hr⟩=>?_) wh⟩
 obtain⟨c8,h2,qE⟩:=gc g2 e2
 have jX:c8.length=aq.length:=by rw[<- qE.len,<- rr.len];exact hn
 subst hr
 cases hp:mw[i]? with
 | none =>
  rw[Yi,hp]
  exact⟨by rw[<- rr.len,<- hn];exact YI.mp hp,c8,h2,jX⟩
 | some p =>
  rw[Yi,hp]
  obtain⟨v,hv,rv⟩:=qE.get hp
  have hi:=(Yh.mp hp).1
  refine⟨⟨by rw[<- rr.len,<- hn];exact hi,c8,h2,jX⟩,?_⟩
  rintro x H' ⟨rfl,hx⟩
  obtain⟨q,hq,rfl⟩:=hx c8 h2
  rw[hv]at hq
  cases hq
  exact⟨.refl _,g2,.str _⟩
def ML:sG K (MG P w) (Bq P w (·.2)):=fun x v A H R' R r g wh k=>by
 obtain⟨a,ep,kus,rfl,e,wh⟩:=wh
 cases r
 obtain⟨aq,h1,rr⟩:=gc g e
 refine⟨a,ep,aq,rfl,h1,k _ _ _ _ (.refl H) g (fun i A2 H2 r k2 g2 ⟨mw,e2,hn,hr⟩=>?_) wh⟩
 obtain⟨c8,h2,qE⟩:=gc g2 e2
 have jX:c8.length=aq.length:=by rw[<- qE.len,<- rr.len];exact hn
 subst hr
 cases hp:mw[i]? with
 | none =>
  rw[Yi,hp]
  exact⟨by rw[<- rr.len,<- hn];exact YI.mp hp,c8,h2,jX⟩
 | some p =>
  rw[Yi,hp]
  obtain⟨v,hv,rv⟩:=qE.get hp
  have hi:=(Yh.mp hp).1
  refine⟨⟨by rw[<- rr.len,<- hn];exact hi,c8,h2,jX⟩,?_⟩
  rintro x H' ⟨rfl,hx⟩
  obtain⟨q,hq,rfl⟩:=hx c8 h2
  rw[hv]at hq
  cases hq
  exact⟨.refl _,g2,rv⟩
def vB:sG K (MH P w) (Bq P w fI):=fun x v A H R' R r g wh k=>by
 obtain⟨a,ep,kus,rfl,e,wh⟩:=wh
 cases r
 obtain⟨aq,h1,rr⟩:=gc g e
 refine⟨a,ep,aq,rfl,h1,k _ _ _ _ (.refl H) g (fun i A2 H2 r k2 g2 ⟨mw,e2,hn,hr⟩=>?_) wh⟩
 obtain⟨c8,h2,qE⟩:=gc g2 e2
 have jX:c8.length=aq.length:=by rw[<- qE.len,<- rr.len];exact hn
 subst hr
 cases hp:mw[i]? with
 | none =>
  rw[Yi,hp]
  exact⟨by rw[<- rr.len,<- hn];exact YI.mp hp,c8,h2,jX⟩
 | some p =>
  rw[Yi,hp]
  obtain⟨v,hv,rv⟩:=qE.get hp
  have hi:=(Yh.mp hp).1
  refine⟨⟨by rw[<- rr.len,<- hn];exact hi,c8,h2,jX⟩,?_⟩
  rintro x H' ⟨T,q,rfl,hT,rfl,hx⟩
  have hq:=hx c8 h2
  rw[hv]at hq
  cases hq
  have s:=ba.aA (o:=.tup [.str p.1,v]) hT
  exact⟨s.kp,g2.grow s,.tup (bf.of ZC) (.cons (.str _) (.one (rv.same s.kp)))⟩
def Zuy:Bq P w f (.ref a) A R=∃ep kus,A a=some (dS P w ep kus)/\R (Fs P w f a ep kus.length) A:=propext ⟨fun aF=>by obtain⟨_,ep,kus,e,h⟩:=aF;cases e;exact⟨ep,kus,h⟩,fun⟨ep,kus,h⟩=>⟨a,ep,kus,rfl,h⟩⟩
def vC(kus:List (Str×U))(Pv:Nat->a8->az->Prop)(h0:Pv 0 ρ A)(hl:∀k ρ A,k<=kus.length->Pv k ρ A->A a=some (dS P w ep kus))(hs:∀k p ρ A,kus[k]? = some p->Pv k ρ A->g (f p) ρ A fun dJ A2=>b { D with nx:=Pv (k+1),ct:=Pv (k+1),bk:=D.nx } dJ A2)(hd:∀ρ A,Pv kus.length ρ A->D.nx ρ A):sE (Fs P w f a ep kus.length) g b D ρ A :=
 Bd (kus.map f) Pv h0 (fun k ρ A hk p=>⟨kus,hl k ρ A (by simpa using hk) p,rfl,rfl⟩) (fun k u ρ A hu p=>by
  rw[Yi]at hu
  obtain⟨q,hq,rfl⟩:=YO.mp hu
  exact hs k q ρ A hq p) (by rw[Yc];exact hd)
end
section
def T9(hh:A.handled=none)(hd:(d==sysModules)=false)(Ft:S≠d)(dd:s.heap.DictAt (strKind prog w) d vs ep)(hn:vs.length<=sizeLine)(hS:s.heap.get? S=some { cls:=.type "list",data:=.seq #[] c })(hR:∀s' acc c',Moved [S,s.heap.objs.size] (fun a b=>b=a) s s'->s'.heap.get? S=some { cls:=.type "list",dict:=none,data:=.seq acc c',slots:=#[] }->ItemsOf (fun i v=>∃k x,vs[i]? = some (k,x)/\(strKind prog w).is k v=true) acc vs.length->R (.ok (.ret .none)) s'):
  wpAny (model prog w) A.in1 (Builtin.List.listExtendWith (.ref S) (.ref d) .none)
   (fun fin s'=>match fin with|.done f=>R (.ok f) s'|.again c'=>c'.quiet=true/\codeAny (model prog w) A c' R s') (fun e s'=>R (.error e) s') s:=by
 have lS:S<s.heap.objs.size:=Ym hS;have ld:d<s.heap.objs.size:=dd.lt_size;have W:=(Walks.dictKeys (prog:=prog) (w:=w) (A:=A.in1) (knd:=strKind prog w) hh s.heap.objs.size d (Yn ld) vs ep).toS;have nf:S∉[s.heap.objs.size,d]:=fun z=>by
  simp only[Yo,YG,eZ]at z;exact z.elim (Yn lS) Ft
 have apart:Builtin.List.listSameRef (.ref S) (.ref d)=false:=by simp[Builtin.List.listSameRef,Ft]
 have ty:s.TypeIs (.ref d) "dict":=dd.dictOf.typeIs;unfold Builtin.List.listExtendWith;refine Yb (p_ ty ?_);rw[if_neg (by rw[apart];decide)];refine Yb (wpAny_pyIter_dict hd dd (Yb (YT ?_)));unfold Builtin.List.listLengthHint;have Fu:Shared.TypeIs { s with heap:=s.heap.push { cls:=.type "dict_keyiterator",data:=.fields #[.ref d,.int 0 0,.int vs.length 0,.int ep 0] } } (.ref d) "dict":=(yc dd).dictOf.typeIs;refine Yb (zR Fu F.slot_dict_len.lookup ?_);generalize sL:("dict.__len__":String)=xX;(fail_if_success (clear sL xX));wp_delta;rw[show splitId xX=some ("dict","__len__")from by subst sL;decide +kernel];subst sL;refine Yb (rn (b:=true) Fu (by rw[isSubtype_type];kernel_rfl) ?_);rw[if_neg (by decide)];refine(show wpAny _ _ (if _=true then _ else _) _ _ _ from ?_);rw[if_pos (by decide +kernel)];refine Yb (p_ Fu (Yd (show wpAny _ _ (if _=true then _ else _) _ _ _ from ?_)));rw[if_pos (by decide +kernel)];refine Yb (qc ?_);unfold Builtin.List.listTouch;have jC:=Ye { cls:=.type "dict_keyiterator",data:=.fields #[.ref d,.int 0 0,.int vs.length 0,.int ep 0] } hS;have nH:=YB (Obj.mapSeq (fun x:Array Value=>x.push .none)) jC rfl;have Fv:=YB (Obj.mapSeq (fun x:Array Value=>x.pop)) nH rfl;refine Yb (Yb (show wpAny _ _ (updateSeq S (fun x=>x.push .none)) _ _ _ from m7 jC rfl (show wpAny _ _ (updateSeq S (fun x=>x.pop)) _ _ _ from m7 nH rfl ?_)));generalize yd:({ cls:=.type "dict_keyiterator",data:=.fields #[.ref d,.int 0 0,.int vs.length 0,.int ep 0] }:Obj)=ob at *;have kp:∀b o,b≠S->(s.heap.push ob).get? b=some o->(((s.heap.push ob).update S (Obj.mapSeq fun x=>x.push .none)).update S (Obj.mapSeq fun x=>x.pop)).get? b=some o:=fun b o hb e =>
  (YC _ _ (Ne.symm hb)).trans ((YC _ _ (Ne.symm hb)).trans e)
 have Bm:Heap.IsKeyIter (((s.heap.push ob).update S (Obj.mapSeq fun x=>x.push .none)).update S (Obj.mapSeq fun x=>x.pop)) s.heap.objs.size d 0 vs.length ep/\Heap.DictAt (strKind prog w) (((s.heap.push ob).update S (Obj.mapSeq fun x=>x.push .none)).update S (Obj.mapSeq fun x=>x.pop)) d vs ep:=by
  refine⟨⟨ob,kp _ _ (Ne.symm (Yn lS)) (Yl _ (by subst yd;rfl)),by subst yd;rfl,by subst yd;rfl⟩,?_⟩;exact(yc dd).at' fun o e=>kp _ _ (Ne.symm Ft) e
 refine(show wpAny _ _ (again _) _ _ _ from Yd ⟨m8 CG _,CF W hn _ nf _ vs.length 0 _ _ _ rfl (Y0 _) Bm Fv (ItemsOf.nil _) fun s' acc c' mv here got=>hR s' acc c' ?_ here got⟩);have m0:Moved [S,s.heap.objs.size] (fun a b:Array GenState=>b=a) s { s with heap:=((s.heap.push ob).update S (Obj.mapSeq fun x=>x.push .none)).update S (Obj.mapSeq fun x=>x.pop) }:=by
  refine Moved.then_heap (wr:=[S,s.heap.objs.size]) (G:=fun a b=>b=a) (s:=s) (s':=s) (Moved.refl (G:=fun a b=>b=a) (fun _=>rfl)) (Yj _) fun b o hb e=>kp b o (fun h=>hb (by rw[h];exact lE)) (Ye _ e)
 exact Moved.trans (fun _ _ _ h1 h2=>h2.trans h1) m0 mv
def T_(hh:A.handled=none)(hd:(d == sysModules)=false)(dd:s.heap.DictAt (strKind prog w) d vs ep)(hn:vs.length<=sizeLine)(hQ : ∀ s' acc c',Moved [s.heap.objs.size,s.heap.objs.size + 1] (fun a b=>b=a) { s with heap:=s.heap.push { cls:=.type "list",data:=.seq #[] } } s'->s'.heap.get? s.heap.objs.size=some { cls:=.type "list",dict:=none,data:=.seq acc c',slots:=#[] } ->
   ItemsOf (fun i v=>∃k x,vs[i]? = some (k,x)/\(strKind prog w).is k v=true) acc vs.length->Q (.ref s.heap.objs.size) s'):
  wpAny (model prog w) A (call (.type "list") [.ref d]) Q E s:=by
 have ld:d<s.heap.objs.size:=dd.lt_size;refine callType_codes (Q₁:=fun obj aH=>obj=.ref s.heap.objs.size/\aH={ s with heap:=s.heap.push { cls:=.type "list",data:=.seq #[] } }) F.called_list (F.typeCall_list_1 _) F.entry_list_init
  (code_list_new _ ⟨rfl,rfl⟩) fun obj aH bq=>?_
 obtain⟨rfl,rfl⟩:=bq;have hS:(s.heap.push { cls:=.type "list",data:=.seq #[] }).get? s.heap.objs.size=some { cls:=.type "list",data:=.seq #[] }:=Yl _ rfl;refine⟨⟨_,hS,rfl⟩,F.args_list_init_2 _ _,?_⟩;show wpAny _ A.in1.in1 (do let old <- Builtin.List.listItems (.ref s.heap.objs.size);Builtin.List.listUpdate (.ref s.heap.objs.size) (fun _=>#[]);letGo old.toList.reverse;Builtin.List.listExtendWith (.ref s.heap.objs.size) (.ref d) .none) _ _ _;refine Yb ?_;unfold Builtin.List.listItems;refine Yb (rB hS rfl (Yd ?_));show wpAny _ A.in1.in1 (updateSeq s.heap.objs.size (fun _=>#[])>>=fun _=>letGo (#[]:Array Value).toList.reverse>>=fun _=>Builtin.List.listExtendWith (.ref s.heap.objs.size) (.ref d) .none) _ _ _;refine Yb (m7 hS rfl ?_);have mq:=YB (Obj.mapSeq (fun _=>(#[]:Array Value))) hS rfl;have cJ:∀b o,b≠s.heap.objs.size->(s.heap.push { cls:=.type "list",data:=.seq #[] }).get? b=some o->((s.heap.push { cls:=.type "list",data:=.seq #[] }).update s.heap.objs.size (Obj.mapSeq (fun _=>(#[]:Array Value)))).get? b=some o :=
  fun b o hb e=>(YC _ _ (Ne.symm hb)).trans e
 have sz:((s.heap.push { cls:=.type "list",data:=.seq #[] }).update s.heap.objs.size (Obj.mapSeq (fun _=>(#[]:Array Value)))).objs.size=s.heap.objs.size+1:=by simp[Heap.update,Heap.push]
 refine Yb (qb ?_);refine T9 (A:=A.in1) (s:={ s with heap:=(s.heap.push { cls:=.type "list",data:=.seq #[] }).update s.heap.objs.size (Obj.mapSeq (fun _=>(#[]:Array Value))) }) (c:=_) hh hd (jR ld) ((yc dd).at' fun o e=>cJ _ _ (Yn ld) e) hn mq fun s' acc c' mv here got=>?_;have m0:Moved [s.heap.objs.size,s.heap.objs.size+1] (fun a b:Array GenState=>b=a) { s with heap:=s.heap.push { cls:=.type "list",data:=.seq #[] } } { s with heap:=(s.heap.push { cls:=.type "list",data:=.seq #[] }).update s.heap.objs.size (Obj.mapSeq (fun _=>(#[]:Array Value))) } :=
  Moved.then_heap (wr:=[s.heap.objs.size,s.heap.objs.size+1]) (G:=fun a b=>b=a) (s:={ s with heap:=s.heap.push { cls:=.type "list",data:=.seq #[] } }) (s':={ s with heap:=s.heap.push { cls:=.type "list",data:=.seq #[] } }) (Moved.refl (G:=fun a b=>b=a) (fun _=>rfl)) (Yj _) fun b o hb e=>cJ b o (fun h=>hb (by rw[h];exact lE)) e
 have Ua:Moved [s.heap.objs.size,s.heap.objs.size+1] (fun a b:Array GenState=>b=a) { s with heap:=(s.heap.push { cls:=.type "list",data:=.seq #[] }).update s.heap.objs.size (Obj.mapSeq (fun _=>(#[]:Array Value))) } s':=by
  rw[<- sz];exact mv
 exact⟨rfl,hQ s' acc c' (Moved.trans (fun _ _ _ h1 h2=>h2.trans h1) m0 Ua) here got⟩
end
def MN:∀ {xs:List V} {us:List Value},xs.length=us.length->(∀(i:Nat) x u,xs[i]? = some x->us[i]? = some u->aZ x u)->Z3 xs us
 | [],[],_,_=>.nil
 | x::xs,u::us,hl,h=>.cons (h 0 x u rfl rfl) (MN (by simpa using hl) fun i a b ha hb=>h (i+1) a b (by simpa using ha) (by simpa using hb))
section
def MO(P:Program)(w:World):List V->Hp->VK->Prop:=fun vs H Q=>∃d ep aq,vs=[.ref d]/\H d=some (DQ P w d ep aq)/\∀l,H l=none->Q (.ref l) (upd H l (.lst (aq.map fun p=>.str p.1)))
def MP(hc:X.calm=true):cf X (.type "list") (MO X.prog X.w):=by
 intro pins s σ H xs us Q I r h;obtain⟨d,ep,aq,rfl,hq,q⟩:=h;obtain⟨u,rfl,ru⟩:=r.one;cases ru;obtain⟨h0,hz,vs,r,dd⟩:=d5 I hq;have hl:aq.length=vs.length:=Paired.length r;refine T_ (I.ok.hd hc) h0 dd (by rw[<- hl];exact hz) fun s' acc c' mv here got=>?_;have e':=KI mv;have sz:(s.heap.push { cls:=.type "list",data:=.seq #[] }).objs.size=s.heap.objs.size+1:=Array.size_push ..;have kp:∀b o,s.heap.get? b=some o->s'.heap.get? b=some o:=fun b o z=>mv.heap b o (by
  have:=Ym z;simp only[Yo,YG,eZ,not_or];exact⟨Yn this,Yn (YV this)⟩) (Ye _ z)
 have rv:Z3 (aq.map fun p=>V.str p.1) acc.toList:=by
  refine MN (by rw[Yc,hl];exact got.1.symm) fun i x u hx hu=>?_;rw[Yi]at hx;obtain⟨p,hp,rfl⟩:=YO.mp hx;rw[nX]at hu;obtain⟨k,y,h1,h2⟩:=got.2 i u hu;obtain⟨u',h3,_⟩:=Bp r hp;rw[h1]at h3;cases h3;obtain⟨t,rfl⟩:=Value.isStrOf_shape h2;exact⟨t,rfl⟩
 have I3:Inv X pins σ (upd H s.heap.objs.size (.lst (aq.map fun p=>.str p.1))) { s with heap:=s'.heap,toks:=s'.toks } :=
  I.laid (t':=s'.toks) kp (Yj _) (show dC X.prog X.w _ s'.heap _ (.lst (aq.map fun p=>.str p.1))from⟨by rw[Yc];exact hz,acc.toList,c',rv,here⟩)
 rw[show s'={ s with heap:=s'.heap,toks:=s'.toks }from e'];exact⟨.ref s.heap.objs.size,_,I3,rfl,q _ I.fresh⟩
end
section
def MQ(P:Program)(w:World):List U->az->bH->Prop:=fun us A Q=>∃p ep kus,us=[.ref p]/\A p=some (dS P w ep kus)/\∀l,A l=none->Q (.ref l) (af A l (.lst (kus.map fK)))
def MR:hZ K (MO P w) (MQ P w):=fun vs us A H Q' Q r g h k=>by
 obtain⟨p,ep,kus,rfl,e,q⟩:=h
 obtain⟨v,rfl,r'⟩:=r.inv1
 cases r'
 obtain⟨aq,h1,rr⟩:=gc g e
 refine⟨p,ep,aq,rfl,h1,fun l hl=>k _ _ _ _ (ba.aA hl).kp (g.en hl ?_) (.ref l) (q l (g.none hl))⟩
 have:kus.map fK=(kus.map (·.1)).map U.str:=by rw[jS];rfl
 have h2:(aq.map fun p=>V.str p.1)=(aq.map (·.1)).map V.str:=by rw[jS];rfl
 rw[this,h2,rr.1]
 exact aK.c5
def ZkT:MQ P w [.ref p] A Q=∃ep kus,A p=some (dS P w ep kus)/\∀l,A l=none->Q (.ref l) (af A l (.lst (kus.map fK))):=propext ⟨fun aF=>by obtain⟨_,ep,kus,e,h⟩:=aF;cases e;exact⟨ep,kus,h⟩,fun⟨ep,kus,h⟩=>⟨p,ep,kus,rfl,h⟩⟩
def Fw:List U->Option (Str×U)
 | [.str z]=>some (z,.ay)
 | [.str z,d]=>some (z,d)
 | _=>none
def MS(P:Program)(w:World)(ao:AE)(l:AA):AE:=fun ρ A Q=>ao ρ A fun x A1=>∃a ep kus,x=.ref a/\A1 a=some (dS P w ep kus)/\l ρ A1 fun us A2=>∃z d aI cH,Fw us=some (z,d)/\A2 a=some (dS P w aI cH)/\Q ((cH.lookup z).getD d) A2
def MT{l:AA}(ho:aY K to ao)(hl:fH K t l):aY K (Mz P w to t) (MS P w ao l):=fun ρ A σ H Q' Q hs g wh k =>
 ho ρ A σ H _ _ hs g wh fun x A1 v1 H1 k1 g1 r1 aF=>by
  obtain⟨a,ep,kus,e1,e2,q⟩:=aF
  subst e1
  cases r1
  obtain⟨aq,h1,rr⟩:=gc g1 e2
  refine⟨a,ep,aq,rfl,h1,hl ρ A1 σ H1 _ _ (hs.same k1) g1 q fun us A2 vs H2 k2 g2 r2 aL=>?_⟩
  obtain⟨z,d,aI,cH,e3,e4,q2⟩:=aL
  obtain⟨cG,h2,ye⟩:=gc g2 e4
  have fin:∀dv,RU K H2 d dv->Q ((cG.lookup z).getD dv) H2:=fun dv rd=>by
   refine k _ _ _ _ (k1.trans k2) g2 ?_ q2
   cases e:cH.lookup z with
   | none=>rw[ye.miss e];exact rd
   | some u=>obtain⟨v,hv,rv⟩:=ye.look e;rw[hv];exact rv
  unfold Fw at e3
  split at e3
  .cases e3
   obtain⟨v,rfl,rv⟩:=r2.inv1
   cases rv
   exact⟨z,.ay,aI,cG,.inl ⟨rfl,rfl⟩,h2,fin _ .ay⟩
  .cases e3
   cases r2 with
   | cons rv r2 =>
    cases rv
    obtain⟨v,rfl,rv⟩:=r2.inv1
    exact⟨z,v,aI,cG,.inr rfl,h2,fin _ rv⟩
  .cases e3
def Zov{l:AA}:MS P w ao l ρ A Q=ao ρ A fun x A1=>∃a ep kus,x=.ref a/\A1 a=some (dS P w ep kus)/\l ρ A1 fun us A2=>∃z d aI cH,Fw us=some (z,d)/\A2 a=some (dS P w aI cH)/\Q ((cH.lookup z).getD d) A2:=rfl
end
def Br(P:Program)(w:World)(nt:Nat)(bE:List (Str×Nat))(wi:TI)(g:TG)(tt:TT)(tk tv:TE):TE:=fun σ H Q=>wi σ H fun J H1=>∀l,H1 l=none->∃W:Nat->Nat->St->Hp->Prop,(∃m,W 0 m (l_ nt bE σ) (upd H1 l (DQ P w l 0 []))) /\
 ∀i m τ H,W i m τ H->(J.stop i H/\Q (.ref l) H)\/(J.go i H/\∀x H',J.rJ i H x H'->g x τ H' fun aS H2=>tt aS H2 fun ok H3 =>
  if ok=true then tk aS H3 fun k H4=>tv aS H4 fun v H5=>∃z ep aq,k=.str z/\H5 l=some (DQ P w l ep aq)/\aq.length<sizeLine/\∀aI,∃m',m'<m/\W (i+1) m' aS (upd H5 l (DQ P w l aI (dg z v aq)))else ∃m',m'<m/\W (i+1) m' aS H3)
def Ub(I:Nat->Shared->Prop)(turn : ∀ n s,I n s->wpAny (model prog w) A (pyNext it) (fun r aH=>match r with
   | none=>R (.ok .next) aH
   | some v => wpAny (model prog w) A (letOwnedTupleGo target it v) (fun _ g9=>wpAny (model prog w) A (assign target env v) (fun _ fk =>
     wpAny (model prog w) A (forIn ifs true fun c r=>if r=true then do let ok <- isTrue c env (eval c env);pure (ForInStep.yield ok)else pure (ForInStep.yield r)) (fun ok iX =>
      if ok=true then wpAny (model prog w) A (eval kx env) (fun kv lW=>wpAny (model prog w) A (eval vx env) (fun vv lX =>
       wpAny (model prog w) A (dictSet D kv vv) (fun _ yf=>∃m,m<n/\I m yf) (fun _ _=>False) lX) (fun _ _=>False) lW) (fun _ _=>False) iX
      else ∃m,m<n/\I m iX) (fun _ _=>False) fk) (fun _ _=>False) g9) (fun _ _=>False) aH) (fun _ _=>False) s)(n:Nat)(h:I n s):
  codeAny (model prog w) A (.compLoop (.DictComp kx vx [⟨target,iter,ifs,0⟩] scope pos) 0 it (.ref D) env) R s:=by
 refine codeAny_loop rfl I (fun n s hI=>?_) n h;show wpAny _ A ((compTurn (.DictComp kx vx [⟨target,iter,ifs,0⟩] scope pos) 0 it (.ref D) env).onRaise (fun x=>do noteFrame x env;theTreesLotGoes x)) _ _ s;refine wpAny_noted ?_;rw[compTurn_dict];refine Yb (nY (Yb (YH (turn n s hI) (fun r aH bq=>?_) fun _ _ h'=>h'.elim)));cases r with
 | none=>exact Yd bq
 | some v =>
  refine Yb (YH bq (fun _ g9 lY=>Yb (YH lY (fun _ fk rY=>Yb (YH rY (fun ok iX lZ=>?_) fun _ _ h'=>h'.elim)) fun _ _ h'=>h'.elim)) fun _ _ h'=>h'.elim);cases ok with
  | false=>exact Yd ⟨rfl,lZ⟩
  | true =>
   exact Yb (Yb (YH lZ (fun kv lW rZ=>Yb (YT (YH rZ (fun vv lX r8=>Yb (nY (YT (YH r8 (fun _ yf Fx=>Yd ⟨rfl,Fx⟩) fun _ _ h'=>h'.elim)))) fun _ _ h'=>h'.elim))) fun _ _ h'=>h'.elim))
def MU(hc:X.calm=true)(S:Z8 X scope cl ts frs')(hi:PI X tg iter wi)(hg:∀ pins s H fp,PG (X.comp scope cl (ts++frs'.map (·.1)) pins s H fp) tg g)(ht:∀ pins s H fp,ql (X.comp scope cl (ts++frs'.map (·.1)) pins s H fp) ifs tt)(hk:∀ pins s H fp,PE (X.comp scope cl (ts++frs'.map (·.1)) pins s H fp) kx tk)(hv:∀ pins s H fp,PE (X.comp scope cl (ts++frs'.map (·.1)) pins s H fp) vx tv)(hs:∀ x,foldedSetIterable iter X.env x=pure x)(I:Inv X pins σ H s)(h:Br X.prog X.w ts.length frs' wi g tt tk tv σ H Q)(sg:∀ (C D:Addr) (H5:Hp) (s6:Shared) (m6:Str->Option Value),Inv X pins σ H5 s6->s6.heap.Ns C m6->gD X pins H5 C->(∀ h',Heap.SameBut C s6.heap h'->Inv X pins σ H5 { s6 with heap:=h' })->Q (.ref D) H5 ->
   compPost (model X.prog X.w) X.A X.xe use Qv (.ref D) C (.ok .next) s6):
  wpAny (model X.prog X.w) X.A (comprehension (.DictComp kx vx [⟨tg,iter,ifs,0⟩] scope pos) scope X.env D6 newDict false (eval iter X.env) use) Qv X.xe s:=by
 refine wpAny_comprehension_free (use:=use) (cl:=cl) rfl hs S.w_ S.kind S.names (aM (hi pins s σ H _ I h) fun v s1 h1=>aM h1 fun Ac s2 h2=>?_);obtain⟨it,fp,tn,J,H2,e,I2,T,gE,f2,q2⟩:=h2;subst e;have D7:H2 s2.heap.objs.size=none:=I2.aG.fresh (Yj _);obtain⟨W,⟨m0,w0⟩,turn⟩:=q2 _ D7;refine YR ?_;have md:∀b∈fp,b<s2.heap.objs.size:=fun b hb=>by
  obtain⟨o,e,_⟩:=T.obj _ _ gE b hb;exact Ym e
 have I3:Inv X pins σ (upd H2 s2.heap.objs.size (DQ X.prog X.w s2.heap.objs.size 0 [])) { s2 with heap:=s2.heap.push { cls:=.type "dict",data:=.dict #[] } } :=
  I2.laid (t':=s2.toks) (fun b u e=>Ye _ e) (Yj _) (o7.ok (Mn s2.heap (big I2)))
 have f3:∀b∈fp,gD X pins (upd H2 s2.heap.objs.size (DQ X.prog X.w s2.heap.objs.size 0 [])) b:=fun b hb=>⟨by rw[Zs (Yn (md b hb))];exact(f2 b hb).1,(f2 b hb).2⟩;have sh:∀b o,s2.heap.get? b=some o->(s2.heap.push { cls:=.type "dict",data:=.dict #[] }).get? b=some o:=fun b o e=>Ye _ e;have si:(s2.heap.push { cls:=.type "dict",data:=.dict #[] }).objs.size=s2.heap.objs.size+1:=YL ..;refine wpAny_newFunctionEnv S.ma (by intro y hy;simp at hy) (fun bq bX cO=>?_) S.kind;dsimp only at bX cO ⊢;generalize xl:({ s2 with heap:=s2.heap.push { cls:=.type "dict",data:=.dict #[] } }:Shared)=s3 at I3 bX cO ⊢;have j5:s3.heap=s2.heap.push { cls:=.type "dict",data:=.dict #[] }:=by rw[<- xl]
 have xm:∀b o,s3.heap.get? b=some o->bq.get? b=some o:=fun b o e=>by
  have:=cO.2 b (by rw[<- j5];exact Yn (Ym e));rw[<- j5]at this;exact this.trans (Ye _ e)
 have mf:∀b∈fp,b<s3.heap.objs.size:=fun b hb=>by
  rw[j5,si];exact YV (md b hb)
 rw[<- j5]at bX;have I4:=S.inv I3 f3 mf (tk:=s2.toks+([]:List (Str×Value)).length) bX xm;have xn:tn 0 bq:=T.keep _ _ _ gE fun b hb o e=>xm b o (by rw[j5];exact sh b o e);have iY:({ s2 with heap:=bq,toks:=s2.toks+([]:List (Str×Value)).length }:Shared)={ s3 with heap:=bq,toks:=s2.toks+([]:List (Str×Value)).length }:=by rw[<- xl]
 rw[iY];have ef:∀ {H':Hp},(∀b∈fp,H' b=none)->∀b∈fp,gD (X.comp scope cl (ts++frs'.map (·.1)) pins s3 (upd H2 s2.heap.objs.size (DQ X.prog X.w s2.heap.objs.size 0 [])) fp) [] H' b:=fun hn b hb=>by
  obtain⟨h1,h2,h3,h4,h5,h6⟩:=f3 b hb;refine⟨hn b hb,Yn (mf b hb),fun z=>?_,.inl hb,fun x c e=>h5 x c (S.g_ e),fun p hp=>h6 p (by
   have:p∈(X.pn++pins)++[]:=hp;rwa [YW]at this)⟩
  rcases Yo.mp (I3.dk _ z)with e'|e'
  .exact h2 e'
  .exact h3 e'
 have loop : codeAny (model X.prog X.w) X.A (.compLoop (.DictComp kx vx [⟨tg,iter,ifs,0⟩] scope pos) 0 (.ref it) (.ref s2.heap.objs.size) (compEnvC scope cl s3.heap.objs.size X.env))
   (compPost (model X.prog X.w) X.A X.xe use Qv (.ref s2.heap.objs.size) s3.heap.objs.size) { s3 with heap:=bq,toks:=s2.toks+([]:List (Str×Value)).length }:=by
  refine Ub (fun n s'=>∃i τ H',Inv (X.comp scope cl (ts++frs'.map (·.1)) pins s3 (upd H2 s2.heap.objs.size (DQ X.prog X.w s2.heap.objs.size 0 [])) fp) [] τ H' s'/\tn i s'.heap/\(∀b∈fp,H' b=none)/\W i n τ H') ?_ m0
   ⟨0,_,_,I4,xn,fun b hb=>(f3 b hb).1,w0⟩
  rintro n s5 ⟨i,τ,H5,I5,oq,rK,w5⟩;rcases turn i n τ H5 w5 with⟨stop,qn⟩|⟨go,step⟩
  .refine YH (T.done (X.comp scope cl (ts++frs'.map (·.1)) pins s3 (upd H2 s2.heap.objs.size (DQ X.prog X.w s2.heap.objs.size 0 [])) fp) rfl rfl rfl hc i [] s5 τ H5 (fun _ _=>False) I5 (ef rK) oq stop) (fun r s6 ⟨hr,I6⟩=>?_) fun _ _ z=>z;subst hr;obtain⟨m6,sj,_⟩:=id I6.loc;have hA:∀h',Heap.SameBut s3.heap.objs.size s6.heap h'->Inv X pins σ H5 { s6 with heap:=h' }:=fun h' hG=>Z8.after I3 f3 I6 hG;have D8:=I3.gU (b:=s3.heap.objs.size) (Yj _) (I3.aG.fresh (Yj _));exact sg _ _ H5 s6 m6 (hA s6.heap ⟨rfl,fun _ _=>rfl⟩) sj ⟨I6.free,D8.2⟩ hA qn
  .refine YH (T.item (X.comp scope cl (ts++frs'.map (·.1)) pins s3 (upd H2 s2.heap.objs.size (DQ X.prog X.w s2.heap.objs.size 0 [])) fp) rfl rfl rfl hc i [] s5 τ H5 (fun _ _=>False) I5 (ef rK) oq go) (fun r s6 ⟨u,hr,h6⟩=>?_) fun _ _ z=>z;subst hr;refine aM h6 fun _ s7 aL=>?_;obtain⟨x,H7,I7,r7,y7,sk,D9⟩:=aL;have D_:=I7.pinned (ef D9) (T.obj _ _ sk);refine aM (hg _ _ _ _ _ s7 τ H7 x u _ D_ r7 (step x H7 y7)) fun _ s8 aL=>?_;obtain⟨ju,H8,I8,q8⟩:=aL;refine aM (ht _ _ _ _ _ s8 ju H8 _ I8 q8) fun ok s9 aL=>?_;obtain⟨H9,I9,q9⟩:=aL;have again:∀ {m':Nat} {H':Hp} {s':Shared},Inv (X.comp scope cl (ts++frs'.map (·.1)) pins s3 (upd H2 s2.heap.objs.size (DQ X.prog X.w s2.heap.objs.size 0 [])) fp) ([]++uR fp s7.heap) ju H' s'->m'<n->W (i+1) m' ju H' ->
     ∃m,m<n/\∃i τ H',Inv (X.comp scope cl (ts++frs'.map (·.1)) pins s3 (upd H2 s2.heap.objs.size (DQ X.prog X.w s2.heap.objs.size 0 [])) fp) [] τ H' s'/\tn i s'.heap/\(∀b∈fp,H' b=none)/\W i m τ H':=fun {m' H' s'} I' hm w'=>by
    refine⟨m',hm,i+1,ju,H',I'.cp,T.keep _ _ _ sk fun b hb o e=>(I'.pin (b,o) (Yz _ (Yz _ (uS hb e)))).1,fun b hb=>?_,w'⟩;obtain⟨o,e,d⟩:=T.obj _ _ sk b hb;exact(I'.pin (b,o) (Yz _ (Yz _ (uS hb e)))).2.1
   cases ok with
   | false =>
    rw[if_neg Yv];rw[if_neg Yv]at q9;obtain⟨m',hm,w'⟩:=q9;exact again I9 hm w'
   | true =>
    rw[if_pos rfl];rw[if_pos rfl]at q9;refine aM (hk _ _ _ _ _ s9 ju H9 _ I9 q9) fun kv Ea aL=>?_;obtain⟨y,Eb,Ec,Ed,Uc⟩:=aL;refine aM (hv _ _ _ _ _ Ea ju Eb _ Ec Uc) fun vv R6 aL=>?_;obtain⟨y2,R7,AB,Ud,z,ep,aq,ey,hl,hz,w'⟩:=aL;subst ey;obtain⟨Ue,rfl⟩:=Ed;obtain⟨h0,Fy,vs,rr,dd⟩:=d5 AB hl;have gK:vs.length<=sizeLine:=by rw[<- Paired.length rr];exact Fy
    refine wpAny_dictSet_pairs (hsz:=gK) (strKind_is X.prog X.w z Ue) dd.dictOf fun h' jA hs=>?_;obtain⟨aI,jA⟩:=jA.dictAt;have e1:∃o,h'.get? s2.heap.objs.size=some o:=let⟨o,_,e,_⟩:=jA;⟨o,e⟩;obtain⟨m',hm,w'⟩:=w' aI;exact again (AB.write (x:=s2.heap.objs.size) (e:=s2.heap.objs.size) (by rw[hl];trivial) (.inl rfl) (fun c u hc z=>(hs.2 c hc).trans z) e1 (o7.ok ⟨⟨h0,by have:=Ff z y2 aq;lia⟩,_,rr.put dd.nodup z Ud,jA⟩)) hm w'
 have es:(s2.heap.push { cls:=.type "dict",data:=.dict #[] }).objs.size=s3.heap.objs.size:=by rw[j5]
 rw[es];exact codeAny_compStart_dict loop (T.self _ 0 _ _ _ xn loop)
def Bs(hc:X.calm=true)(S:Z8 X scope cl ts frs')(hi:PI X tg iter wi)(hg:∀pins s H fp,PG (X.comp scope cl (ts++frs'.map (·.1)) pins s H fp) tg g)(ht:∀pins s H fp,ql (X.comp scope cl (ts++frs'.map (·.1)) pins s H fp) ifs tt)(hk:∀pins s H fp,PE (X.comp scope cl (ts++frs'.map (·.1)) pins s H fp) kx tk)(hv:∀pins s H fp,PE (X.comp scope cl (ts++frs'.map (·.1)) pins s H fp) vx tv)(hs:∀x,foldedSetIterable iter X.env x=pure x:=by intro _;rfl):
  PE X (.DictComp kx vx [⟨tg,iter,ifs,0⟩] scope pos) (Br X.prog X.w ts.length frs' wi g tt tk tv):=by
 intro pins s σ H Q I h;rw[arm_eval_DictComp];exact MU hc S hi hg ht hk hv hs (use:=none) (Qv:=EP X pins σ Q) I h fun C D H5 s6 m6 I6 hn R9 hA q=>⟨m6,hn,fun h' hG=>⟨.ref D,H5,hA h' hG,rfl,q⟩⟩
def Ug(hN:X.N.Nodup)(xo:X.N[i]? = some y)(hy:Loc X.env.scope y)(Ef:swapsWith (.DictComp kx vx [⟨tg,iter,ifs,0⟩] scope pos) (some (.Name y py)) sr.line X.env=pure true)(hc:X.calm=true)(S:Z8 X scope cl ts frs')(hi:PI X tg iter wi)(hg:∀pins s H fp,PG (X.comp scope cl (ts++frs'.map (·.1)) pins s H fp) tg g)(ht:∀pins s H fp,ql (X.comp scope cl (ts++frs'.map (·.1)) pins s H fp) ifs tt)(hk:∀pins s H fp,PE (X.comp scope cl (ts++frs'.map (·.1)) pins s H fp) kx tk)(hv:∀pins s H fp,PE (X.comp scope cl (ts++frs'.map (·.1)) pins s H fp) vx tv)(hs:∀x,foldedSetIterable iter X.env x=pure x:=by intro _;rfl)(hf:X.fn y=true\/X.env.scope.names.lookup y=some .local:=by first|exact .inl rfl|exact .inr rfl|assumption):
  PS X (.Assign [.Name y py] (.DictComp kx vx [⟨tg,iter,ifs,0⟩] scope pos) sr) (wH (Br X.prog X.w ts.length frs' wi g tt tk tv) (rH i)):=by
 intro pins s σ H D I h;rw[exec_Assign_Name_used _ _ _ _ Ef];refine Yb (nY (Yb ?_));show wpAny _ X.A (do let _ <- comprehension (.DictComp kx vx [⟨tg,iter,ifs,0⟩] scope pos) scope X.env _ newDict false (eval iter X.env) (some (assign (.Name y py) X.env))) _ _ s;refine Yb (YH (MU hc S hi hg ht hk hv hs (Qv:=fun _ s'=>SP X pins D .next s') (use:=some (assign (.Name y py) X.env)) I h ?_) (fun _ s' hq=>Yd (Yd hq)) fun _ _ e=>e);intro C Da H5 s6 m6 I6 sj xp hA qn;show wpAny _ X.A (assign (.Name y py) X.env (.ref Da)) _ _ _;refine CK (C5 I6 hN xo hy (v:=.ref Da) rfl (fun s7 I7 ⟨a,sb,ha⟩=>?_) hf);have Eg:C≠a:=by
  obtain⟨_,h2,_,_,h5,_⟩:=xp;rcases ha with rfl|ha
  .exact h2
  .exact fun e=>h5 _ _ ha e.symm
 refine⟨m6,sj.sameBut sb Eg,fun h' hG=>?_⟩;obtain⟨f0,f1,f2,f3,f4,f5⟩:=xp;exact⟨_,H5,I7.turned (h':=h') (t':=s7.toks) (fun b o hb e=>(hG.2 b hb).trans e) f0 f1 f3 f4 f5,qn⟩
def Bt(P:Program)(w:World)(J:fu)(g:AG)(tt:AT)(tk tv:AE)(l:Addr)(Q:bH)(τ:a8)(A:az):Prop:=∃W:Nat->Nat->a8->az->Prop,(∃m,W 0 m τ A) /\
 ∀i m τ A,W i m τ A->(J i A none/\Q (.ref l) A)\/∃u,J i A (some u)/\g u τ A fun aS A2=>tt aS A2 fun ok A3 =>
  if ok=true then tk aS A3 fun k A4=>tv aS A4 fun v A5=>∃z ep kus,k=.str z/\A5 l=some (dS P w ep kus)/\kus.length<sizeLine/\∀aI,∃m',m'<m/\W (i+1) m' aS (af A5 l (dS P w aI (dq z v kus)))else ∃m',m'<m/\W (i+1) m' aS A3
def MV(P:Program)(w:World)(nt:Nat)(bE:List (Str×Nat))(wi:AI)(g:AG)(tt:AT)(tk tv:AE):AE:=fun ρ A Q=>wi ρ A fun J A1=>∀l,A1 l=none->Bt P w J g tt tk tv l Q (aCompStart nt bE ρ) (af A1 l (dS P w 0 []))
section
def yg{bE:List (Str×Nat)}(hi:ve K wi ai)(hg:oW K g ag)(ht:hU K tt at')(hk:aY K tk ak)(hv:aY K tv av):aY K (Br P w nt bE wi g tt tk tv) (MV P w nt bE ai ag at' ak av):=fun ρ A σ H Q' Q hs g0 wh k=>by
 refine hi ρ A σ H _ _ hs g0 wh fun aj A1 J H1 k1 g1 hj q=>?_
 intro l hl
 obtain⟨W,⟨m0,w0⟩,turn⟩:=q l (g1.none hl)
 have kl:Kp K H1 (upd H1 l (DQ P w l 0 [])):=(ba.aA hl).kp
 refine⟨fun i m τ H2=>∃oY A2,Kp K H1 H2/\HR K H2 A2/\aX K H2 oY τ/\W i m oY A2,⟨m0,_,_,kl,g1.dO kl (xZ ZC ⟨rfl,.nil⟩),(hs.same (k1.trans kl)).comp nt bE,w0⟩,?_⟩
 rintro i m τ H2 ⟨oY,A2,k2,g2,s2,w2⟩
 have nu:=k1.trans k2
 rcases turn i m oY A2 w2 with⟨h_,q⟩|⟨u,xE,q⟩
 .exact .inl ⟨hj i A2 H2 _ k2 g2 h_,k _ _ _ _ nu g2 (.ref l) q⟩
 .obtain⟨j1,j2⟩:=hj i A2 H2 _ k2 g2 xE
  refine .inr ⟨j1,fun x H3 hy=>?_⟩
  obtain⟨k3,g3,r3⟩:=j2 x H3 hy
  refine hg _ _ _ _ _ _ _ _ r3 (s2.same k3) g3 q fun nv A4 qv H4 k4 g4 s4 q4=>ht nv A4 qv H4 _ _ s4 g4 q4 fun b A5 H5 k5 g5 q5=>?_
  have xG:=k2.trans (k3.trans (k4.trans k5))
  cases b
  .refine jv (by decide) ?_
   obtain⟨m',hm,w'⟩:=(by simpa using q5:∃m',m'<m/\W (i+1) m' nv A5)
   exact⟨m',hm,_,_,xG,g5,s4.same k5,w'⟩
  .refine gH rfl (hk nv A5 qv H5 _ _ (s4.same k5) g5 (by simpa using q5) fun y A6 v6 H6 k6 g6 r6 q6=>hv nv A6 qv H6 _ _ (s4.same (k5.trans k6)) g6 q6 fun y2 A7 v7 H7 k7 g7 r7 q7=>?_)
   obtain⟨z,rfl,ep,kus,hA,hz,q7⟩:=q7
   cases r6
   obtain⟨aq,h7,rr⟩:=gc g7 hA
   refine⟨z,ep,aq,rfl,h7,by rw[<- rr.len];exact hz,fun aI=>?_⟩
   obtain⟨m',hm,w'⟩:=q7 aI
   have kp:Kp K H7 (upd H7 l (DQ P w l aI (dg z v7 aq))):=Kp.ext h7
   exact⟨m',hm,_,_,xG.trans (k6.trans (k7.trans kp)),g7.dO kp (xZ ZC ((rr.put r7).same kp)),s4.same (k5.trans (k6.trans (k7.trans kp))),w'⟩
def Uh{l:Addr}(items:List U)(T:a8->Prop)(hT:T τ)(Pv:Nat->az->Prop)(h0:Pv 0 A)(hJ:∀k A2,k<=items.length->Pv k A2->J k A2 items[k]?)(hs:∀k u τ A2,items[k]? = some u->T τ->Pv k A2->∀Cy:a8->U->U->az->Prop,(∀aS z v A5 ep kus,T aS->A5 l=some (dS P w ep kus)->kus.length<sizeLine->(∀aI,Pv (k+1) (af A5 l (dS P w aI (dq z v kus))))->Cy aS (.str z) v A5)->g u τ A2 fun aS A3=>tk aS A3 fun y A4=>tv aS A4 (Cy aS y))(hd:∀A2,Pv items.length A2->Q (.ref l) A2):Bt P w J g sy tk tv l Q τ A:=by
 refine⟨fun i m τ A2=>m=items.length-i/\i<=items.length/\T τ/\Pv i A2,⟨_,rfl,Y0 _,hT,h0⟩,?_⟩;rintro i m τ A2 ⟨rfl,hi,ht,hp⟩;have j:=hJ i A2 hi hp;by_cases bD:i<items.length
 .have hu:items[i]? = some items[i]:=Yg bD;rw[hu]at j;refine .inr ⟨_,j,hs i _ τ A2 hu ht hp (fun aS y v A5=>∃z ep kus,y=.str z/\A5 l=some (dS P w ep kus)/\kus.length<sizeLine/\∀aI,∃m',m'<items.length-i/\(m'=items.length-(i+1)/\i+1<=items.length/\T aS/\Pv (i+1) (af A5 l (dS P w aI (dq z v kus))))) ?_⟩;intro aS z v A5 ep kus ka hA hz q;exact⟨z,ep,kus,rfl,hA,hz,fun aI=>⟨items.length-(i+1),by lia,rfl,bD,ka,q aI⟩⟩
 .obtain rfl:i=items.length:=by lia
  rw[YI.mpr (Yj _)]at j;exact .inl ⟨j,hd _ hp⟩
end
def qF(v:V):Prop:=v=.ay\/∃i,v=.int i
def kZ(u:U):Prop:=u=.ay\/∃i,u=.int i
def Ui:PyData.eqv .none .none=true:=by decide +kernel
def Uj(i:Int):PyData.eqv .none (.int i)=false:=rfl
def Uk(i:Int):PyData.eqv (.int i) .none=false:=rfl
def Ul(i j:Int):PyData.eqv (.int i) (.int j)=decide (i=j):=rfl
def Um(hx:qF x)(hy:qF y)(rx:aZ x u)(ry:aZ y v):∃b:Bool,SeqAt.EqAt A s u v b/\(b=true↔x=y):=by
 rcases hx with rfl|⟨i,rfl⟩
 .cases(show u=.none from rx);rcases hy with rfl|⟨j,rfl⟩
  .cases(show v=.none from ry);exact⟨_,keq_flat PyProof.V.Flat.none PyProof.V.Flat.none,by rw[Ui];simp⟩
  .obtain⟨t,rfl⟩:=ry;exact⟨_,keq_flat PyProof.V.Flat.none (PyProof.V.Flat.int j t),by rw[Uj];simp⟩
 .obtain⟨t,rfl⟩:=rx;rcases hy with rfl|⟨j,rfl⟩
  .cases(show v=.none from ry);exact⟨_,keq_flat (PyProof.V.Flat.int i t) PyProof.V.Flat.none,by rw[Uk];simp⟩
  .obtain⟨t',rfl⟩:=ry;exact⟨_,keq_flat (PyProof.V.Flat.int i t) (PyProof.V.Flat.int j t'),by rw[Ul];simp⟩
def Uo:∀ {aq kus:List (Str×V)} {vs us:List (Str×Value)},KV aq vs->KV kus us->aq.map (·.1)=kus.map (·.1)->(∀p∈us,valueAt kb p.1=some p.2)->(∀p∈aq,qF p.2)->(∀p∈kus,qF p.2) ->
  ∃r,PySem.W.KeqHits A s kb vs r/\(r=true↔aq=kus):=by
 intro aq kus vs us h;unfold KV at h;induction h generalizing kus us with
 | nil =>
  intro k e _ _ _;cases kus with
  | nil=>exact⟨true,.nil,by simp⟩
  | cons=>simp at e
 | @cons p q ps qs h1 h2 ih =>
  intro k e hb f1 f2;cases k with
  | nil=>simp at e
  | @cons p' q' TZ qs' k1 k2 =>
   rw[Yr,Yr]at e;obtain⟨e1,e2⟩:=List.cons.inj e;obtain⟨r,hr,er⟩:=ih k2 e2 (fun p hp=>hb p (.tail _ hp)) (fun p hp=>f1 p (.tail _ hp)) (fun p hp=>f2 p (.tail _ hp));obtain⟨a,b⟩:=p;obtain⟨a',b'⟩:=p';obtain⟨c,d⟩:=q;obtain⟨c',d'⟩:=q';obtain⟨e3,r3⟩:=h1;obtain⟨e4,r4⟩:=k1;simp only at e1 e3 r3 e4 r4;subst e1 e3 e4;obtain⟨b0,hE,Up⟩:=Um (A:=A) (s:=s) (f1 _ (.head _)) (f2 _ (.head _)) r3 r4;refine⟨b0&&r,.hit (hb _ (.head _)) hE hr,?_⟩;rw[Y8,Up,er];simp
def MW(P:Program)(w:World):R2:=fun x y H Q=>∃a b ep aI aq kus,x=.ref a/\y=.ref b/\H a=some (DQ P w a ep aq)/\H b=some (DQ P w b aI kus)/\aq.map (·.1)=kus.map (·.1)/\(∀p∈aq,qF p.2)/\(∀p∈kus,qF p.2)/\∀r:Bool,(r=true↔aq=kus)->Q (.bl r) H
def Uq(hr:bV k X.A):a9 X (compareOp .Eq) (MW X.prog X.w):=by
 intro pins s σ H x y v u Q I rx ry h;obtain⟨a,b,ep,aI,aq,kus,rfl,rfl,h1,h2,ek,f1,f2,q⟩:=h;cases rx;cases ry;obtain⟨a0,_,vs,r1,d1⟩:=d5 I h1;obtain⟨b0,_,us,r2,d2⟩:=d5 I h2;have hb:∀p∈us,valueAt us p.1=some p.2:=fun p hp=>by
  obtain⟨i,hi⟩:=List.getElem?_of_mem hp;exact valueAt_of_get d2.nodup hi
 obtain⟨r,hh,er⟩:=Uo (A:=X.A.in1) (s:=s) r1 r2 ek hb f1 f2;have hlen:vs.length=us.length:=by rw[<- Paired.length r1,<- Paired.length r2];simpa using congrArg List.length ek
 refine keq_eq a0 b0 d1.dictOf d2.dictOf hr.rO (fun _=>hh) ⟨.bl r,H,I,?_,q r er⟩;rw[hlen];simp;rfl
section
def Ur(r:RU K H u v)(f:kZ u):qF v/\∀ {u':U} {v':V},RU K H u' v'->kZ u'->(v=v'↔u=u'):=by
 rcases f with rfl|⟨i,rfl⟩
 .cases r;refine⟨.inl rfl,fun r' f'=>?_⟩;rcases f' with rfl|⟨j,rfl⟩
  .cases r';simp
  .cases r';simp
 .cases r;refine⟨.inr ⟨i,rfl⟩,fun r' f'=>?_⟩;rcases f' with rfl|⟨j,rfl⟩
  .cases r';simp
  .cases r';simp
def MX:∀ {us yh:List U} {vs o8:List V},aK K H us vs->aK K H yh o8->(∀u∈us,kZ u)->(∀u∈yh,kZ u)->(∀v∈vs,qF v)/\(vs=o8↔us=yh):=by
 intro us;induction us with
 | nil =>
  intro yh vs o8 h k _ _;cases h;cases k with
  | nil=>simp
  | cons=>simp
 | cons u us ih =>
  intro yh vs o8 h k f1 f2;cases h with
  | cons h1 h2 =>
  have g:=Ur h1 (f1 _ (.head _));cases k with
  | nil =>
   refine⟨fun v hv=>?_,by simp⟩;rcases Yo.mp hv with rfl|hv
   .exact g.1
   .exact(ih h2 .nil (fun u hu=>f1 u (.tail _ hu)) (by simp)).1 v hv
  | cons k1 k2 =>
   have:=ih h2 k2 (fun u hu=>f1 u (.tail _ hu)) (fun u hu=>f2 u (.tail _ hu));refine⟨fun v hv=>?_,by simp only[wu];rw[g.2 k1 (f2 _ (.head _)),this.2]⟩;rcases Yo.mp hv with rfl|hv
   .exact g.1
   .exact this.1 v hv
theorem Fz{α β:Type}:∀ {xs ys:List (α×β)},(xs=ys↔xs.map (·.1)=ys.map (·.1)/\xs.map (·.2)=ys.map (·.2))
 | [],[]=>by simp
 | [],_::_=>by simp
 | _::_,[]=>by simp
 | (a,b)::xs,(c,d)::ys=>by
  have:=Fz (xs:=xs) (ys:=ys)
  simp only[wu,Prod.mk.injEq,Yr,this]
  constructor
  .rintro⟨⟨rfl,rfl⟩,h1,h2⟩;exact⟨⟨rfl,h1⟩,rfl,h2⟩
  .rintro⟨⟨rfl,h1⟩,rfl,h2⟩;exact⟨⟨rfl,rfl⟩,h1,h2⟩
def MY(P:Program)(w:World):fJ:=fun x y A Q=>∃a b ep aI kus aq,x=.ref a/\y=.ref b/\A a=some (dS P w ep kus)/\A b=some (dS P w aI aq)/\kus.map (·.1)=aq.map (·.1)/\(∀p∈kus,kZ p.2)/\(∀p∈aq,kZ p.2)/\∀r:Bool,(r=true↔kus=aq)->Q (.bl r) A
def Us:et K (MW P w) (MY P w):=fun x y u v A H Q' Q hu hw g h k=>by
 obtain⟨a,b,ep,aI,kus,aq,rfl,rfl,e1,e2,ek,f1,f2,q⟩:=h
 cases hu;cases hw
 obtain⟨kv,h1,r1⟩:=gc g e1
 obtain⟨kw,h2,r2⟩:=gc g e2
 have g1:∀u∈kus.map (·.2),kZ u:=fun u hu=>by obtain⟨p,hp,rfl⟩:=YS.mp hu;exact f1 p hp
 have g2:∀u∈aq.map (·.2),kZ u:=fun u hu=>by obtain⟨p,hp,rfl⟩:=YS.mp hu;exact f2 p hp
 have t1:=MX r1.2 r2.2 g1 g2
 have t2:=MX r2.2 r1.2 g2 g1
 refine⟨a,b,ep,aI,kv,kw,rfl,rfl,h1,h2,by rw[<- r1.1,<- r2.1];exact ek,fun p hp=>t1.1 _ (List.mem_map_of_mem hp),fun p hp=>t2.1 _ (List.mem_map_of_mem hp),fun r hr=>k _ _ _ _ (.refl H) g (.bl _) (q r ?_)⟩
 rw[hr,Fz,Fz,t1.2,<- r1.1,<- r2.1]
def Zrw:MY P w (.ref a) (.ref b) A Q=∃ep aI kus aq,A a=some (dS P w ep kus)/\A b=some (dS P w aI aq)/\kus.map (·.1)=aq.map (·.1)/\(∀p∈kus,kZ p.2)/\(∀p∈aq,kZ p.2)/\∀r:Bool,(r=true↔kus=aq)->Q (.bl r) A :=
 propext ⟨fun aF=>by obtain⟨_,_,ep,aI,kus,aq,x,y,h⟩:=aF;cases x;cases y;exact⟨ep,aI,kus,aq,h⟩,fun⟨ep,aI,kus,aq,h⟩=>⟨a,b,ep,aI,kus,aq,rfl,rfl,h⟩⟩
end
def Bu(K:au)(C:Addr):Bool:=match K.lookup C with
 | some ⟨_,_,.cls cd,sl⟩=>!cd.hasDel&&(sl.toList[4]?).join==some (.builtin "ValueError.__new__")&&!cd.mro.isEmpty&&cd.mro.contains (.ref C)&&cd.mro.contains (.type "ValueError")&&!cd.mro.contains (.type "AttributeError")&&!cd.mro.contains (.type "NameError") &&
   specialIn K (.ref C) "__call__" == some (some (.builtin "type.__call__"))&&instIn K (.ref C) (.type "type")==some true
 | _=>false
structure FA (M:Model) (h:Heap) (C:Addr):Prop where
 obj:∃oc od cd sl,h.get? C=some ⟨oc,od,.cls cd,sl⟩/\cd.hasDel=false/\cd.mro.isEmpty=false
 made:PySem.W.Looks M h (Bind.madeBy (.ref C)) (some "ValueError.__new__")
 base:PySem.W.Looks M h (Bind.staticBase (.ref C)) (.ref C)
 self:PySem.W.Looks M h (isSubtype (.ref C) (.ref C)) true
 up:PySem.W.Looks M h (isSubtype (.ref C) (.type "ValueError")) true
 na:PySem.W.Looks M h (isSubtype (.ref C) (.type "AttributeError")) false
 nn:PySem.W.Looks M h (isSubtype (.ref C) (.type "NameError")) false
 call:PySem.W.Looks M h (specialOf (.ref C) "__call__") (some (.builtin "type.__call__"))
 typ:PySem.W.Looks M h (isInstance (.ref C) (.type "type")) true
def Ut(X:K.In h)(e:Bu K C=true):FA M h C:=by
 unfold Bu at e;split at e
 .rename_i oc od cd sl ho;simp only[Y8,Bool.not_eq_true',beq_iff_eq]at e;obtain⟨⟨⟨⟨⟨⟨⟨⟨e2,e3⟩,e4⟩,e5⟩,e6⟩,e7⟩,e8⟩,e9⟩,sO⟩:=e;have hc:PySem.W.clsIn K C=some cd:=by unfold clsIn;rw[ho]
  have hm:PySem.W.Looks M h (mroOf (.ref C)) cd.mro:=(looks_clsIn X hc).andThen .now;obtain⟨c,l,hl⟩:∃c l,cd.mro=c::l:=by
   cases q:cd.mro with
   | nil=>rw[q]at e4;cases e4
   | cons c l=>exact⟨c,l,rfl⟩
  have made:PySem.W.Looks M h (Bind.madeBy (.ref C)) (some "ValueError.__new__"):=by
   intro A Q E s k q;unfold Bind.madeBy;refine Yb (hm A _ E s k ?_);rw[hl,zS];refine Yb (Yb (Yb (Yb (wpAny_loadPart (k _ _ (X _ _ ho)) (Yd ?_)))));dsimp only;rw[<- nX,e3];exact Yd (Yd (Yd q))
  have mr:∀ {v:Value} {b:Bool},cd.mro.contains v=b->Looks M h (isSubtype (.ref C) v) b:=fun {v b} eb=>looks_mroIn X (by unfold mroIn;rw[hc,Option.bind_some,if_neg (by rw[e4];decide),eb]);refine⟨⟨oc,od,cd,sl,X _ _ ho,e2,e4⟩,made,?_,mr e5,mr e6,mr e7,mr e8,PySem.W.looks_specialIn X e9,looks_instIn X sO⟩;intro A Q E s k q;unfold Bind.staticBase;refine Yb (hm A _ E s k ?_);rw[hl,zS];exact Yb (Yb (Yb (made A _ E s k (Yd (Yd (Yd q))))))
 .cases e
def Uu:builtinKind "ValueError.__new__"=some .builtinFn:=by kernel_rfl
def Uv:splitId "ValueError.__new__"=some ("ValueError","__new__"):=by kernel_rfl
abbrev k8(C t:Addr):Obj:={ cls:=.ref C,data:=.fields #[.ref t,.none,.none,.none,.bool false,.none] }
abbrev i4(vs:List Value):Obj:={ cls:=.type "tuple",data:=.seq vs.toArray }
section
variable{os:OsState}
def newX(Y:FA (model P w) h C)(hr:r.length<=1000)(hq:R (.ok (.ret (.ref (h.objs.size+1)))) ⟨(h.push (i4 r)).push (k8 C h.objs.size),g,d,t,os⟩):
  codeAny (model P w) A (.call (.builtin "ValueError.__new__") ⟨.ref C::r,[]⟩) R ⟨h,g,d,t,os⟩:=by
 obtain⟨⟨oc,od,cd,sl,hC,e2,e4⟩,made,base,self,up,na,nn,call,typ⟩:=Y;have X:=excClass_ValueError;refine codeAny_call_builtin_code (Code.quiet_builtin _ (by decide +kernel)) ?_;simp only[checkBuiltinCall,Uu,Uv];have here:PySem.W.Looks (model P w) h (Bind.madeHere "BaseException.__new__" (.ref C)) ():=base.andThen (made.andThen (Looks.of_pure (by kernel_rfl)));repeat (first|simp only[bne_self_eq_false,Ja,if_true,Bool.not_true,Y2,fj]|lk)
 refine codeAny_builtin_at X.newEntry ?_;unfold Builtin.«BaseException.__new__»;refine PyProof.Rows.wpAt_bind (PyProof.Rows.wpAt_owner rfl X.newEnds (PyProof.Rows.wpAt_of_any ?_));dsimp only;rw[show("ValueError.__new__".dropRight 8)="ValueError" from by decide +kernel];repeat (first|simp only[Bool.not_true,Y2,fj]|lk)
 rw[if_neg (by rw[Yq];exact Nat.not_lt.mpr (YE hr (by decide)))];refine wpAny_newObjAsIs_type (Yb ?_);unfold newObj;dsimp only;rw[if_neg (by show ¬(6>sizeLine+2);decide)];unfold newObjAsIs classHasDel;have Uw:((h.push (i4 r)).push (k8 C h.objs.size)).get? C=some ⟨oc,od,.cls cd,sl⟩:=Ye _ (Ye _ hC);refine Yb (wpAny_alloc (Yb (Yb (wpAny_load Uw (Yd ?_)))));rw[e2];refine Yd (Yd ?_);have hz:(h.push (i4 r)).objs.size=h.objs.size+1:=YL ..;rw[<- hz]at hq;exact hq
def Ux(X:K.In h)(hm:Bu K C=true)(hi:PySem.W.findIn K (.ref C) "__init__"=some (some (.ref f)))(hf:PySem.W.typeIn K (.ref f)=some (.type "function"))(hr:r.length<=1000)(hq:codeAny (model P w) (A.under (.builtin "type.__call__" ⟨.ref C::r,[]⟩)) (.call (.ref f) ⟨.ref (h.objs.size+1)::r,[]⟩) (InitBack (h.objs.size+1) R) ⟨(h.push (i4 r)).push (k8 C h.objs.size),g,d,t,os⟩):
  codeAny (model P w) A (.call (.ref C) ⟨r,[]⟩) R ⟨h,g,d,t,os⟩:=by
 have Y:FA (model P w) h C:=Ut X hm;have xo:=looks_findIn (M:=model P w) X hi;have hb:=fun self=>bind_fn (M:=model P w) X self hf;have Y':=Y;obtain⟨⟨oc,od,cd,sl,hC,e2,e4⟩,made,base,self,up,na,nn,call,typ⟩:=Y;refine codeAny_of_tree ?_;show wpAny _ _ (callAny (.ref C) _) _ _ _;refine PySem.W.nd_load hC ?_;show wpAny _ _ (callAny.viaDunder (.ref C) _) _ _ _;unfold callAny.viaDunder;refine Yb (call.at ?_);dsimp only;rw[PySem.tc_bind];refine Yb (Yd (Yb (Yd ?_)));refine Yd (a:=Fin.again (.call (.builtin "type.__call__") ⟨.ref C::r,[]⟩)) (And.intro rfl ?_);refine codeAny_call_builtin_at (Code.quiet_builtin _ (by decide +kernel)) PySem.entry_typeCall (PySem.W.check_slot PySem.tc_kind PySem.tc_split typ (PySem.W.tc_args _ _ _) ?_);unfold Builtin.«type.__call__»;have hmr:PySem.W.Looks (model P w) h (mroOf (.ref C)) cd.mro:=((Looks.ld (part:=none) hC).andThen .now).andThen .now;repeat (first|simp only[e4,Y2,fj]|with_reducible refine kJ ?_|lk)
 refine newX Y' hr ?_;have kp:∀b o,h.get? b=some o->((h.push (i4 r)).push (k8 C h.objs.size)).get? b=some o:=fun b o e=>Ye _ (Ye _ e);have hx:((h.push (i4 r)).push (k8 C h.objs.size)).get? (h.objs.size+1)=some (k8 C h.objs.size):=by
  have:=Yl (h.push (i4 r)) (o:=k8 C h.objs.size) rfl;rwa [YL]at this
 have t1:PySem.W.Looks (model P w) ((h.push (i4 r)).push (k8 C h.objs.size)) (typeOf (.ref (h.objs.size+1))) (.ref C):=(Looks.ld hx).andThen .now;have s1:=self.keeps kp;have i1:=xo.keeps kp;have b1:=(hb (.ref (h.objs.size+1))).keeps kp;unfold isInstance callSpecial? specialOf;repeat (first|with_reducible refine kJ ?_|lk)
 refine kI hq fun r s' z=>?_;rcases r with e|(v|_|_|_)<;>first|exact z|exact z.elim|skip
 obtain⟨rfl,z⟩:=z;exact Yd (Yd z)
end
end L2
set_option maxHeartbeats 4000000
namespace L2
open PySem PySem.Spec PyProof.Rows
section
def Uy(hC:s.heap.get? C=some ⟨oc,od,.cls cd,sl⟩)(up:PySem.W.Looks (model P w) s.heap (isSubtype (.ref C) (.type "ValueError")) true)(he:s.heap.get? e=some ob)(hc:ob.cls=.ref C)(hd:ob.data=.fields vs)(h0:vs[0]? = some (.ref t0))(k:Q .none { s with heap:=(s.heap.push (i4 [v])).update e (Obj.mapFields (·.setIfInBounds 0 (.ref s.heap.objs.size))) }):wpAny (model P w) A (call (.builtin "ValueError.__init__") [.ref e,v]) Q E s:=by
 have X:=excClass_ValueError;have t1:PySem.W.Looks (model P w) s.heap (typeOf (.ref e)) (.ref C):=by
  have:=(Looks.ld (M:=model P w) (part:=none) he);exact this.andThen (by rw[hc];exact .now)
 have t2:PySem.W.Looks (model P w) s.heap (isInstance (.ref e) (.type "ValueError")) true:=t1.andThen up;refine kJ (codeAny_call_builtin X.init.plain X.initEntry ?_);simp only[checkBuiltinCall,X.initKind,X.initSplit,X.initSig];refine Yb (t2.here ?_);simp only[Bool.not_true,Y2,fj];unfold Bind.checkArgs;dsimp only;unfold Bind.printed Bind.receiverType;rw[if_neg (by decide)];have tn:PySem.W.Looks (model P w) s.heap (typeNameWhole (.ref C)) cd.name.toString:=((Looks.ld (part:=none) hC).andThen .now).andThen .now;refine Yb ?_;show wpAny _ _ (typeOf (.ref e)>>=fun x=>typeNameWhole x>>=fun tp=>pure tp) _ _ _;refine Yb (t1.here (Yb (tn.here (Yd ?_))));rw[if_pos (by decide)];refine Yb (Yd ?_);show wpAny _ _ (Sem.onRaise (Bind.check _ _ _ _ []) _) _ _ _;rw[check_varPos];refine Yd ?_;unfold Builtin.«BaseException.__init__»;dsimp only;rw[if_neg (by simp)];unfold newTuple Builtin.BaseException.bexcPut;have hz:0<vs.size:=(Array.getElem?_eq_some_iff.mp h0).1;have qG:=Ye (h:=s.heap) (i4 [v]) he;refine Yb (YR (Yb (Yb (Y9 qG hd h0 (Yb (wpAny_setField qG hd hz ?_))))) (by show 1<=sizeLine;decide));exact qb (Yd k)
end
section
def Uz(M:Model)(E:Value->Shared->Prop)(v:Value)(s1:Shared):Prop :=
 ∃(a C:Addr)(ob:Obj)(vs:Array Value),v=.ref a/\s1.heap.get? a=some ob/\ob.cls=.ref C/\ob.data=.fields vs/\vs[1]? = some .none/\Looks M s1.heap (isSubtype (.ref C) (.type "BaseException")) true/\Looks M s1.heap (typeOf (.ref C)) (.type "type")/\E (.ref a) s1
def UA(hh:A.handled=none)(h:wpAny M A (eval e env) (Uz M E) E s):wpAny M A (exec (.Raise (some e) none pos) env) Q E s:=by
 show wpAny M A (do
           standAt pos;raiseStmt env (some (do let v <- eval e env;standAt pos;pure v)) none) Q E s
 refine Yb (nY ?_);unfold raiseStmt;dsimp only;refine Yb (Yb (YH h (fun v s1 q=>Yb (nY (Yd ?_))) fun _ _ z=>z));obtain⟨a,C,ob,vs,rfl,ha,hc,hd,h1,up,ty,hE⟩:=q;have t1:PySem.W.Looks M s1.heap (typeOf (.ref a)) (.ref C):=by
  have:=Looks.ld (M:=M) (part:=none) ha;exact this.andThen (by rw[hc];exact .now)
 have t2:PySem.W.Looks M s1.heap (isInstance (.ref a) (.type "BaseException")) true:=t1.andThen up;have nt:∀ {Q':Bool->Shared->Prop},Q' false s1->wpAny M A (isType (.ref a)) Q' E s1:=fun {Q'} z=>by
  simp only[isType,loadHead];refine Yb (wpAny_loadPart ha ?_);rw[hd];exact Yd z
 refine Yb (Yd ?_);dsimp only;refine Yb (YT ?_);unfold excFromValue isExcClass;refine Yb (Yb (nt ?_));simp only[Y2,fj];refine Yd ?_;simp only[Y2,fj];refine Yb (t2.here ?_);simp only[if_true];refine Yd (Yb (nt ?_));simp only[Y2,fj];unfold raisedInstance;refine Yb (Yb (t1.here (Yb (ty.here ?_))));rw[if_pos (by decide)];refine Yd ?_;unfold setFlight raiseNew;refine Yb (Yb (Y9 ha hd h1 ?_));rw[if_neg (by decide)];refine Yd (Yb (wpAny_handled ?_));rw[hh];first
  | exact wpAny_throw hE
  | exact Yb (Yd (wpAny_throw hE))
end
def MZ:(Obj.mapFields f o).dict=o.dict:=by
 obtain⟨c,d,dt,sl⟩:=o;cases dt<;>rfl
structure Bv (fs:List Addr) (h h':Heap) (e:Addr) (oe:Obj) (vs:Array Value) (T:Addr) (r:Value):Prop where
 cJ:∀b o,b≠e->b∉fs->(∀T0,vs[1]? = some (.ref T0)->b≠T0)->h.get? b=some o->h'.get? b=some o
 FC:∀b o,b≠e->(∀T0,vs[1]? = some (.ref T0)->b≠T0)->h.get? b=some o->∃sl,h'.get? b=some { o with slots:=sl }
 exc:∃vD o8,h'.get? e=some vD/\vD.cls=oe.cls/\vD.dict=oe.dict/\vD.data=.fields o8/\o8[1]? = some (.ref T)
 tb:T≠e/\(h.objs.size<=T\/vs[1]? = some (.ref T))/\∃oT ts,h'.get? T=some oT/\oT.data=.fields ts/\ts[3]? = some r
 old:∀T0,vs[1]? = some (.ref T0)->T0≠e->(∃o,h.get? T0=some o)->∃o,h'.get? T0=some o
section
variable{L e:Addr}
def M0(vE:A.frames=some (env::outer))(hl:s.heap.FunFrames B (env::outer))(hf:env.frame=some L)(he:s.heap.get? e=some oe)(hd:oe.data=.fields vs)(hz:1<vs.size)(k:∀h' T,Bv ((env::outer).filterMap (·.frame)) s.heap h' e oe vs T (rawInt L)->Q () { s with heap:=h' }):
  wpAny M A (do
         let a <- frameOf env
         let pl <- entryPlaceOf L had
         let b <- EntryCells.newEntry head a .none (rawInt L) .none pl
         setField (.ref e) 1 b) Q E s:=by
 have aR:e∉(env::outer).filterMap (·.frame):=fun hm=>by
  obtain⟨_,o,ho,nI⟩:=hl.mem hm;rw[he]at ho;cases ho;exact nI vs hd
 refine Yb (wpAny_frameOf_fun vE hl hf fun h1 kf=>Yb (wpAny_entryPlaceOf fun pl bx=>?_));unfold EntryCells.newEntry newFields;refine Yb (YR ?_ (bx.sizeOk5 _ _ _ _ _));have qG:h1.get? e=some oe:=(kf.2.1 e aR).trans he;generalize hO:({ cls:=.type "traceback",dict:=none,data:=.fields ([head,.ref L,.none,rawInt L,.none]++(if pl.isEmpty then List.replicate 6 Value.none else pl)).toArray }:Obj)=oT;have UB:oT.data=.fields ([head,.ref L,.none,rawInt L,.none]++(if pl.isEmpty then List.replicate 6 Value.none else pl)).toArray:=by rw[<- hO]
 have M1:=Ye (h:=h1) oT qG;refine wpAny_setField M1 hd hz (k _ h1.objs.size ?_);have qH:h1.objs.size≠e:=jR (Ym qG);have d3:=YX hd (·.setIfInBounds 1 (Value.ref h1.objs.size));have g3:=YB (Obj.mapFields (·.setIfInBounds 1 (Value.ref h1.objs.size))) M1 (Obj.isFreed_of_fields d3);have FD:oT.isFreed=false:=by rw[<- hO];rfl
 have t3:=(YC (h1.push oT) (Obj.mapFields (·.setIfInBounds 1 (Value.ref h1.objs.size))) (Ne.symm qH)).trans (Yl h1 FD);have keep:∀b o,b≠e->h1.get? b=some o->((h1.push oT).update e (Obj.mapFields (·.setIfInBounds 1 (Value.ref h1.objs.size)))).get? b=some o:=fun b o jT hb=>by
  rw[YC _ _ (Ne.symm jT)];exact Ye _ hb
 refine⟨fun b o jT UC _ hb=>keep b o jT ((kf.2.1 b UC).trans hb),fun b o jT _ hb=>?_,⟨_,_,g3,Obj.cls_mapFields _ _,MZ,d3,by simp[hz]⟩,⟨qH,.inl (CV (by first|exact kf.1.symm|exact kf.1)),⟨_,_,t3,UB,by simp⟩⟩,fun T0 _ FE ⟨o,ho⟩=>?_⟩
 .obtain⟨sl,hs⟩:=kf.2.2 b o hb;exact⟨sl,keep b _ jT hs⟩
 .obtain⟨sl,hs⟩:=kf.2.2 T0 o ho;exact⟨_,keep T0 _ FE hs⟩
def UD(vE:A.frames=some (env::outer))(hl:s.heap.FunFrames B (env::outer))(hf:env.frame=some L)(he:s.heap.get? e=some oe)(hd:oe.data=.fields vs)(h1:vs[1]? = some .none\/∃T oT ts v,vs[1]? = some (.ref T)/\T≠e/\s.heap.get? T=some oT/\oT.data=.fields ts/\ts[3]? = some v/\(v=.none\/v=rawInt L))(k:∀h' T,Bv ((env::outer).filterMap (·.frame)) s.heap h' e oe vs T (rawInt L)->Q () { s with heap:=h' }):wpAny M A (noteFrame (.ref e) env) Q E s:=by
 unfold noteFrame;simp only[hf];rcases h1 with h1|⟨T,oT,ts,v,h1,qH,hT,k9,h3,hv⟩
 .refine Yb (Y9 he hd h1 ?_);rw[if_neg (by decide)];exact M0 vE hl hf he hd (Array.getElem?_eq_some_iff.mp h1).1 k
 .refine Yb (Y9 he hd h1 ?_);rw[if_pos (show(Value.ref T != Value.none)=true from by simp)];refine Yb (Y9 hT k9 h3 ?_);rcases hv with rfl|rfl
  .rw[if_neg (show ¬((Value.none==rawInt L)=true)from by simp[rawInt])];refine Yb (wpAny_setField hT k9 (Array.getElem?_eq_some_iff.mp h3).1 ?_);have cJ:∀b,b≠T->(s.heap.update T (Obj.mapFields (·.setIfInBounds 3 Value.none))).get? b=s.heap.get? b:=fun b hb=>YC _ _ (Ne.symm hb);have nr:∀b o,s.heap.get? b=some o->(∀us,o.data≠.fields us)->b≠T:=fun b o hb nI q=>by
    rw[q,hT]at hb;cases hb;exact nI ts k9
   refine M0 (s:={ s with heap:=s.heap.update T (Obj.mapFields (·.setIfInBounds 3 Value.none)) }) vE (hl.of_keeps fun b o hb nI=>⟨o,(cJ b (nr b o hb nI)).trans hb,rfl⟩) hf ((cJ e (Ne.symm qH)).trans he) hd (Array.getElem?_eq_some_iff.mp h1).1 fun h' T' q=>k h' T' ?_;refine⟨fun b o x1 x2 x3 x4=>q.cJ b o x1 x2 x3 ((cJ b (x3 T h1)).trans x4),fun b o x1 x3 x4=>q.FC b o x1 x3 ((cJ b (x3 T h1)).trans x4),q.exc,⟨q.tb.1,?_,q.tb.2.2⟩,fun T0 g0 g1 _=>q.old T0 g0 g1 ?_⟩
   .have:=q.tb.2.1;rwa [Heap.size_update]at this
   .rw[h1]at g0;cases g0;exact⟨_,YB _ hT (Obj.isFreed_of_fields (YX k9 _))⟩
  .rw[if_pos (show(rawInt L==rawInt L)=true from by simp)];exact Yd (k s.heap T ⟨fun _ _ _ _ _ z=>z,fun b o _ _ z=>⟨o.slots,z⟩,⟨oe,vs,he,rfl,rfl,hd,h1⟩,⟨qH,.inr h1,oT,ts,hT,k9,h3⟩,fun _ _ _ z=>z⟩)
def UE(he:s.heap.get? e=some oe)(hd:oe.data=.fields vs)(h1:vs[1]? = some (.ref T))(qH:T≠e)(hT:s.heap.get? T=some oT)(k9:oT.data=.fields ts)(h3:ts[3]? = some v)(k:∀h',Bv fs s.heap h' e oe vs T (fr.elim .none fun f=>rawInt f)->Q () { s with heap:=h' }):wpAny M A (setFlight (.ref e) fr) Q E s:=by
 unfold setFlight;refine Yb (Y9 he hd h1 ?_);rw[if_pos (show(Value.ref T != Value.none)=true from by simp)];have hz:=(Array.getElem?_eq_some_iff.mp h3).1;refine wpAny_setField hT k9 hz (k _ ?_);have d3:=YX k9 (·.setIfInBounds 3 (fr.elim Value.none fun f=>rawInt f));have g3:=YB (Obj.mapFields (·.setIfInBounds 3 (fr.elim Value.none fun f=>rawInt f))) hT (Obj.isFreed_of_fields d3);have cJ:∀b o,(∀T0,vs[1]? = some (.ref T0)->b≠T0)->s.heap.get? b=some o->(s.heap.update T (Obj.mapFields (·.setIfInBounds 3 (fr.elim Value.none fun f=>rawInt f)))).get? b=some o:=fun b o hb Bw=>(YC _ _ (Ne.symm (hb T h1))).trans Bw;refine⟨fun b o _ _ x z=>cJ b o x z,fun b o _ x z=>⟨o.slots,cJ b o x z⟩,⟨oe,vs,(YC _ _ qH).trans he,rfl,rfl,hd,h1⟩,⟨qH,.inr h1,_,_,g3,d3,by simp[hz]⟩,fun T0 g0 _ _=>?_⟩;rw[h1]at g0;cases g0;exact⟨_,g3⟩
end
structure Bx (M:Model) (h:Heap) (C D:Addr) (b:Bool):Prop where
 nt:PySem.W.Looks M h (isInstance (.ref D) (.type "tuple")) false
 ty:PySem.W.Looks M h (isType (.ref D)) true
 ex:PySem.W.Looks M h (isSubtype (.ref D) (.type "BaseException")) true
 sb:PySem.W.Looks M h (isSubtype (.ref C) (.ref D)) b
section
def M3(he:s.heap.get? e=some ob)(hc:ob.cls=.ref C)(c:Bx M s.heap C D b)(k:Q b s):wpAny M A (excMatches (.ref e) (.ref D)) Q E s:=by
 have t1:PySem.W.Looks M s.heap (typeOf (.ref e)) (.ref C):=by
  have:=Looks.ld (M:=M) (part:=none) he;exact this.andThen (by rw[hc];exact .now)
 unfold excMatches;refine Yb (c.nt.here ?_);simp only[Y2,fj];refine Yb (Yd ?_);have hx:PySem.W.Looks M s.heap (isExcClass (.ref D)) true:=by
  unfold isExcClass;exact c.ty.andThen c.ex
 refine Yb ?_;rw[zS];refine Yb (Yb (hx.here ?_));rw[if_neg (by decide)];refine Yd ?_;dsimp only;rw[List.forIn_nil];refine Yd (Yb (t1.here (Yb ?_)));rw[zS];refine Yb (Yb (c.sb.here ?_));cases b with
 | true =>
  rw[if_pos rfl];exact Yd (Yd (Yd k))
 | false =>
  rw[if_neg (by decide)];refine Yd ?_;dsimp only;rw[List.forIn_nil];exact Yd (Yd k)
end
section
variable{rest:List ExceptHandler}
def M4(h:wpAny (model P w) (A.mark (some (.ref e))) (eval t env) (fun c s1=>c=.ref D/\(∃ ob,s1.heap.get? e=some ob/\ob.cls=.ref C)/\Bx (model P w) s1.heap C D true /\
   wpAny (model P w) (A.mark (some (.ref e))) (setFlight (.ref e) none) (fun _ s2=>wpAny (model P w) (A.mark (some (.ref e))) (storeName env n (.ref e)) (fun _ s3=>wpAny (model P w) (A.mark (some (.ref e))) (execs (b0::su) env)
    (fun f s4=>wpAny (model P w) A (do bindName env n .none;unbindBehindTheSuite env n pos) (fun _ s5=>Q f s5) E s4) (fun _ _=>False) s3) (fun _ _=>False) s2) (fun _ _=>False) s1) (fun _ _=>False) s):
  wpAny (model P w) A (handleBy (.ref e) env (.ExceptHandler (some t) (some n) (b0::su) pos::rest)) Q E s:=by
 refine wpAny_handleBy_cons (codeAny_handlers_test (YH h (fun c s1 q=>?_) fun _ _ x=>x.elim)) (by intro q;cases q);obtain⟨rfl,⟨ob,he,hc⟩,hx,hk⟩:=q;refine M3 he hc hx ?_;exact codeAny_handlers_suite_as (YH hk (fun _ s2 h2=>YH h2 (fun _ s3 h3=>YH h3 (fun f s4 h4=>h4) fun _ _ z=>z.elim) fun _ _ z=>z.elim) fun _ _ z=>z.elim)
end
def qI(H:Hp)(a:Addr):Hp:=fun b=>if b=a then none else H b
def yi:qI H a a=none:=if_pos rfl
def yj(h:b≠a):qI H a b=H b:=if_neg h
def Bz(h:H b=none):qI H a b=none:=by
 by_cases e:b=a
 .rw[e];exact yi
 .rw[yj e];exact h
section
def Inv.forget(I:Inv X pins σ H s)(h:H a=some (.ext φ)):Inv X pins σ (qI H a) s:=by
 have kp:∀b o,H b=some o->(∀ψ,o≠.ext ψ)->qI H a b=some o:=fun b o hb hn=>by
  rw[yj fun e=>by rw[e,h]at hb;cases hb;exact hn φ rfl];exact hb
 have u:=I.base;refine⟨I.ok,I.os,I.bare,⟨u.keep,u.slot,fun b o x y z=>Bz (u.free b o x y z),u.there,fun b xs z=>kp b _ (u.bK b xs z) (fun _ e=>nomatch e),fun b o v z=>kp b _ (u.cE b o v z) (fun _ e=>nomatch e),fun b ps z=>?_⟩,I.loc,I.cell,Bz I.free,fun x c z=>Bz (I.bw x c z),fun p hp=>?_,fun c v hc=>?_,I.len⟩
 .obtain⟨m,y⟩:=u.dG b ps z;exact⟨m,kp b _ y (fun _ e=>nomatch e)⟩
 .obtain⟨p1,p2,p3⟩:=I.pin p hp;exact⟨p1,Bz p2,p3⟩
 .have UG:c≠a:=fun e=>by rw[e,yi]at hc;cases hc
  rw[yj UG]at hc;exact(I.aG c v hc).dF (fun _ _ _ z=>z) (fun b z=>kp b _ z (fun _ e=>nomatch e)) fun b xs z=>kp b _ z (fun _ e=>nomatch e)
end
open PySem PySem.Spec PyProof.Rows Builtin Builtin.ObjectAttr
def BA:List Value:=[.type "ValueError",.type "Exception",.type "BaseException",.type "object"]
def FF:Value->Bool
 | .ref _=>true
 | _=>false
def FG(K:au)(C:Addr):Bool:=(clsIn K C).any fun cd=>cd.mro.contains (.type "object")&&cd.mro.dropWhile FF==BA
def UH(self:Value)(l:List Value)(h:l.dropWhile FF=BA):refuseLoop self "__setattr__" l=pure ():=by
 induction l with
 | nil=>cases h
 | cons a l ih =>
  cases a with
  | ref C =>
   rw[refuseLoop_ref];exact ih h
  | _ =>
   rw[show _::l=BA from h];exact PySem.F.store_ValueError.passes self
section
variable{K:au}
def UI(X:K.In s.heap)(I:PySem.W.InstAt s.heap x ox C od)(hp:FG K C=true)(ht:PySem.W.takerIn K C name=some none)(h : ∀ b,wpAny (model prog w) A.in1 (storeInOwnDict (.ref x) (.ref C) (.str name tk) name v b)
   (fun fin s'=>match fin with|.done f=>R (.ok f) s'|.again c'=>c'.quiet=true/\codeAny (model prog w) A c' R s') (fun e s'=>R (.error e) s') s):
  codeAny (model prog w) A (.call (.builtin "object.__setattr__") ⟨[.ref x,.str name tk,v],[]⟩) R s:=by
 have SF:=PySem.F.store_ValueError;obtain⟨cd,hc,ho⟩:=any_some hp;rw[Y8]at ho;have lO:cd.mro.dropWhile FF=BA:=by simpa using ho.2
 have ne:cd.mro.isEmpty=false:=by cases q:cd.mro with|nil=>rw[q]at lO;cases lO|cons _ _=>rfl
 have sub:PySem.W.Looks (model prog w) s.heap (isInstance (.ref x) (.type "object")) true:=I.type.andThen (looks_mroIn X (by unfold mroIn;rw[hc,Option.bind_some,if_neg (by rw[ne];decide),ho.1]));refine codeAny_call_builtin SF.slot.plain SF.entry (@PySem.W.check_slot (model prog w) _ _ s "object.__setattr__" "object" "__setattr__" (.ref x) [.str name tk,v] [] _ SF.kind SF.split sub (SF.args (.ref x) (.str name tk) v) ?_);obtain⟨attr,ha,hr⟩:=Option.bind_eq_some_iff.mp ht;have hm:PySem.W.Looks (model prog w) s.heap (mroOf (.ref C)) cd.mro:=(looks_clsIn X hc).andThen .now;have L3:PySem.W.Looks (model prog w) s.heap (storeTaker? attr) none:=by
  cases attr with
  | none=>exact .now
  | some a =>
   obtain⟨b,hb,UJ⟩:=YO.mp hr;refine(PySem.W.looks_takesIn X hb).andThen ?_;cases b
   .exact .now
   .cases UJ
 rw[osa_eq,refuse_eq];refine Yb (Yb (I.type.here (Yb (hm.here ?_))));rw[UH _ _ lO];exact Yd (Yb (I.type.here (Yb ((looks_findIn X ha).here (Yb (L3.here (h _)))))))
def UK(X:K.In s.heap)(hx:s.heap.get? x=some ox)(i5:ox.cls=.ref C)(M5:ox.dict=none)(hd:ox.data=.fields vs)(hs:PySem.W.findIn K (.ref C) "__setattr__"=some (some (.builtin "object.__setattr__")))(hp:FG K C=true)(ht:PySem.W.takerIn K C name=some none)(hh:PySem.W.hasDictIn K C=true)(h:∀h',h'.get? x=some { ox with dict:=some s.heap.objs.size }->h'.Ns1 s.heap.objs.size (fun y=>if y=name then some v else none)->(∀b o,b≠x->s.heap.get? b=some o->h'.get? b=some o)->Q () { s with heap:=h',toks:=s.toks+2 }):
  wpAny (model prog w) A (setAttr (.ref x) name v) Q E s:=by
 obtain⟨oc,odi,UL,oC⟩:=ox;dsimp only at i5 M5 hd;subst i5 M5 hd;have J:PySem.W.InstAt s.heap x ⟨.ref C,none,.fields vs,oC⟩ C none:=⟨hx,rfl,rfl,trivial⟩;refine set_plain X J hs (UI (s:={ s with toks:=s.toks+1 }) X J hp ht fun b=>?_);obtain⟨cd,hc,gB⟩:=any_some hh;refine Yb (Yd (Yb (Yb (wpAny_loadPart hx (Yb (Looks.here (s:={ s with toks:=s.toks+1 }) (looks_clsIn X hc) ?_))))));rw[gB];have sP:(s.heap.push { cls:=.type "dict",data:=.dict #[] }).get? x=some ⟨.ref C,none,.fields vs,oC⟩:=Ye _ hx;have FH:x≠s.heap.objs.size:=Yn (Ym hx);have UM:((s.heap.push { cls:=.type "dict",data:=.dict #[] }).update x fun o=>{ cls:=o.cls,dict:=some s.heap.objs.size,data:=o.data,slots:=o.slots }).get? s.heap.objs.size=some { cls:=.type "dict",data:=.dict #[] } :=
  (Heap.get?_update_ne _ _ _ _ FH.symm).trans (Heap.get?_push_at rfl rfl)
 have di:((s.heap.push { cls:=.type "dict",data:=.dict #[] }).update x fun o=>{ cls:=o.cls,dict:=some s.heap.objs.size,data:=o.data,slots:=o.slots }).Ns s.heap.objs.size (fun _=>none) :=
  ⟨_,#[],_,UM,rfl,fun e he=>absurd he (by simp),fun _=>rfl⟩
 refine Yb (wpAny_alloc' (Yb (wpAny_update' sP (Yd ?_))));show wpAny _ _ (storeInDict s.heap.objs.size (.str name _) name v) _ _ _;unfold storeInDict newKeyGuard;refine Yb (Yd (Yb (wpAny_nsSet1 (Heap.Ns1.of_empty di) fun h' uM hG=>?_)));obtain⟨oD,QQ,QR,Ds,Dt,lN⟩:=uM.count (Within.cons name v Within.nil);refine Yb (wpAny_lookBehind Ds (by rw[Dt];exact pastItsLine_dict (YE lN (by rw[List.length_cons,List.length_nil,gA];lia))) ?_);refine Yd (h h' ?_ uM fun b o hb Bw=>?_)
 .exact(hG.2 x FH).trans (YB _ sP rfl)
 .exact(hG.2 b (Yn (Ym Bw))).trans ((Heap.get?_update_ne _ _ _ _ hb).trans (Ye _ Bw))
end
structure qJ (K:au) (C f:Addr):Prop where
 makes:Bu K C=true
 init:PySem.W.findIn K (.ref C) "__init__"=some (some (.ref f))
 fn:PySem.W.isFn K (.ref f)=true
 kp:PySem.W.keepIn K (.ref C)=true
 sa:PySem.W.findIn K (.ref C) "__setattr__"=some (some (.builtin "object.__setattr__"))
 over:FG K C=true
 hd:PySem.W.hasDictIn K C=true
 up:PySem.W.mroIn K C (.type "BaseException")=some true
 UN:PySem.W.mroIn K C (.type "ValueError")=some true
 ty:PySem.W.typeIn K (.ref C)=some (.type "type")
structure BB (K:au) (F:Addr):Prop where
 ga:PySem.W.specialIn K (.ref F) "__getattribute__"=some (some (.builtin "type.__getattribute__"))
 rd:PySem.W.readsIn K F (.type "type")=true
 fc:PySem.W.findCls K (.ref F) (.type "type") "__init__"=some (.val (.builtin "ValueError.__init__"))
structure jD (K:au) (C D:Addr) (b:Bool):Prop where
 nt:PySem.W.instIn K (.ref D) (.type "tuple")=some false
 ty:PySem.W.isClsIn K D=true
 ex:PySem.W.mroIn K D (.type "BaseException")=some true
 sb:PySem.W.mroIn K C (.ref D)=some b
 kp:PySem.W.keepIn K (.ref D)=true
def XO(a C:Addr)(dx:Option Addr):HO:=.ext fun h=>∃ob vs t0,h.get? a=some ob/\ob.cls=.ref C/\ob.dict=dx/\ob.data=.fields vs/\vs[0]? = some (.ref t0)/\vs[1]? = some .none
section
def XO.ok(h1:h.get? a=some ob)(h2:ob.cls=.ref C)(h3:ob.dict=dx)(h4:ob.data=.fields vs)(h5:vs[0]? = some (.ref t0))(h6:vs[1]? = some .none):dC P w H h a (XO a C dx) :=
 ⟨⟨ob,vs,t0,h1,h2,h3,h4,h5,h6⟩,⟨ob,h1⟩,fun h1 h2 ⟨ob,vs,t0,q1,q⟩ k=>⟨ob,vs,t0,k _ q1,q⟩⟩
def XO.get(hk:cV P w H h)(e:H a=some (XO a C dx)):∃ob vs t0,h.get? a=some ob/\ob.cls=.ref C/\ob.dict=dx/\ob.data=.fields vs/\vs[0]? = some (.ref t0)/\vs[1]? = some .none:=(hk a _ e).1
end
def UO(h:H a=some o):upd H a o=H:=by
 funext b;by_cases e:b=a
 .rw[e,ZC,h]
 .rw[Zs e]
def FI(K:au)(t:TA):TE:=fun σ H Q=>t σ H fun vs H1=>∃x C g v,vs=[.ref x,v]/\H1 x=some (XO x C none)/\qJ K C g/\Q .ay H1
def FJ(K:au)(ta tv:TE)(f:Str):TS:=fun D σ H=>tv σ H fun y H1=>ta σ H1 fun x H2=>∃a C g,x=.ref a/\H2 a=some (XO a C none)/\qJ K C g/\fW K C f/\∀dx,H2 dx=none->dx≠a->D.nx σ (upd (upd H2 dx (.xd [(f,y)])) a (XO a C (some dx)))
section
def M6(b:BB X.K F)(hg:Gl X x)(hm:X.mg x=some (.ref F))(ha:PA X (e::es) t)(cR:(x == ("__debug__":Str))=false:=by decide)(jn:starEach (e::es) X.env=(false,eval e X.env)::starEach es X.env:=by rfl)(bx:(backTo pos (starEach es X.env)).any (·.1)=false:=by rfl)(ht : eval (.Call (.Attribute (.Name x p) "__init__" apos) (e::es) [] pos) X.env=(do
   let ov <- eval (.Name x p) X.env
   standAt apos.atName
   let(f,first) <- holding [ov] (getMethod ov "__init__" pl)
   callWith pos f first (backTo pos (starEach (e::es) X.env)) (backToKw pos (keywordEach [] X.env))):=by rfl):
  PE X (.Call (.Attribute (.Name x p) "__init__" apos) (e::es) [] pos) (FI X.K t):=by
 intro pins s σ H Q I h
 refine methodCall_KW (pl:=pl) (lK I hg hm ?_ cR) ht
 refine PySem.W.method_cls I.bo b.ga (PySem.W.cls_value I.bo b.rd b.fc (by decide +kernel) ?_)
 have I0:=I.tok (s.toks+1)
 refine callWith_builtin1 (aM (ha pos pins _ σ H _ I0 h) fun us s1 ⟨vs,H1,I1,r1,q1⟩=>?_) jn bx
 obtain⟨a,C,g,v,rfl,hx,c,q⟩:=q1
 cases r1 with
 | cons ra r1 =>
 cases r1 with
 | @cons _ u2 _ _ rv r1 =>
 cases r1
 cases ra
 obtain⟨ob,fs,t0,ho,hc,hd,hf,h0,h1⟩:=XO.get I1.aG hx
 obtain⟨cd,gR,_⟩:=any_some c.hd
 obtain⟨oc,od,sl,hC⟩:∃oc od sl,s1.heap.get? C=some ⟨oc,od,.cls cd,sl⟩:=by
  unfold clsIn at gR
  split at gR
  .rename_i oc od M7 sl hl
   cases gR
   exact⟨oc,od,sl,I1.bo _ _ hl⟩
  .cases gR
 have o9:=looks_mroIn (M:=model X.prog X.w) I1.bo c.UN
 refine Uy hC o9 ho hc hf h0 ⟨.ay,H1,?_,rfl,q⟩
 have hz:0<fs.size:=(Array.getElem?_eq_some_iff.mp h0).1
 have yd:=Ye (h:=s1.heap) (i4 [u2]) ho
 have g3:=YB (Obj.mapFields (·.setIfInBounds 0 (Value.ref s1.heap.objs.size))) yd (Obj.isFreed_of_fields (YX hf _))
 have:=I1.write (t':=s1.toks) (x:=a) (e:=a) (o:=XO a C none) (h':=(s1.heap.push (i4 [u2])).update a (Obj.mapFields (·.setIfInBounds 0 (.ref s1.heap.objs.size)))) (by rw[hx];exact True.intro) (.inl rfl)
  (fun b u hb q=>(YC _ _ (Ne.symm hb)).trans (Ye _ q)) ⟨_,g3⟩
  (XO.ok g3 ((Obj.cls_mapFields _ _).trans hc) (MZ.trans hd) (YX hf _) (t0:=s1.heap.objs.size) (by simp[hz]) (by rw[<- h1];simp))
 rwa [UO hx]at this
def M8(ha:PE X o ta)(hv:PE X value tv)(hs:swapsWith value (some (.Attribute o f pos')) pos.line X.env=pure false:=by rfl):PS X (.Assign [.Attribute o f pos'] value pos) (FJ X.K ta tv f):=by
 intro pins s σ H D I h;refine plainObj_wpAny_Assign_Attribute (aM (hv pins s σ H _ I h) fun u s1 ⟨y,H1,I1,ry,q⟩=>aM (ha pins s1 σ H1 _ I1 q) fun ov s2 ⟨x,H2,I2,rx,a,C,g,ex,ea,c,n,q2⟩=>?_) hs;subst ex;obtain rfl:ov=Value.ref a:=rx;obtain⟨ob,fs,t0,ho,hc,hd,hf,h0,h1⟩:=XO.get I2.aG ea;refine UK I2.bo ho hc hd hf c.sa c.over n.qi c.hd fun h' g1 g2 g3=>?_;have bD:=Ym ho;have aR:s2.heap.objs.size≠a:=jR bD;refine⟨σ,_,?_,q2 s2.heap.objs.size (I2.aG.fresh (Yj _)) aR⟩;obtain⟨oD,es',ep,hD,M9⟩:=id g2;have vE:oD.isFreed=false:=(Heap.get?_some_iff.mp hD).2;have hp:=Yl s2.heap (o:=oD) vE;have J:=I2.laid (a:=s2.heap.objs.size) (o:=.xd [(f,y)]) (h':=s2.heap.push oD) (t':=s2.toks+2) (fun b u q=>Ye _ q) (Yj _) ?_
 .refine J.write (t':=s2.toks+2) (x:=a) (e:=a) (h':=h') (by rw[Zs aR.symm,ea];exact True.intro) (.inl rfl) (fun b u hb q=>?_) ⟨_,g1⟩ (XO.ok g1 hc rfl hf h0 h1);by_cases e:b=s2.heap.objs.size
  .subst e;rw[hp]at q;cases q;exact hD
  .refine g3 b u hb ?_;rw[<- q];exact(Heap.get?_push_ne _ _ _ e).symm
 .refine⟨_,Heap.Ns1.at (h:=h') g2 fun o q=>?_,fun g=>?_⟩
  .rw[hD]at q;cases q;exact hp
  .show iL (List.lookup g [(f,y)]) (if g=f then some u else none);by_cases e:g=f
   .rw[if_pos e,List.lookup_cons,beq_iff_eq.mpr e];exact ry
   .rw[if_neg e,List.lookup_cons,Yw.mpr e];exact True.intro
end
def M_(h:Heap)(H:Hp)(n:Addr->Prop)(z:Prop)(r:Value->Prop)(a:Addr)(vs:Array Value):Prop :=
 (z/\vs[1]? = some .none)\/∃T oT ts v,vs[1]? = some (.ref T)/\T≠a/\n T/\h.get? T=some oT/\oT.data=.fields ts/\ts[3]? = some v/\H T=none/\r v
def yk(h:Heap)(H:Hp)(n:Addr->Prop)(E:XK)(z:Prop)(r:Value->Prop)(a:Addr):Prop :=
 ∃C dx ob vs,n a/\H a=none/\h.get? a=some ob/\ob.cls=.ref C/\ob.dict=some dx/\ob.data=.fields vs/\M_ h H n z r a vs/\E (.ref C) (some dx) H
def gL(P:Program)(w:World):oA:=fun outer H s E e s'=>∃a H',e=.ref a/\s'.os=s.os/\AllBare s'.gens/\Un (bE outer) [] H H' s.heap s'.heap/\cV P w H' s'.heap/\yk s'.heap H' (s.heap.objs.size<=·) E False (·=.none) a
def vF(X:Cx)(pins:List (Addr×Obj))(b:Addr):Prop:=X.bA.heap.objs.size<=b/\∀p∈X.pn++pins,p.1≠b
def k_(X:Cx)(pins:List (Addr×Obj))(σ:St)(E:XK)(z:Prop)(r:Value->Prop)(a:Addr)(s:Shared):Prop:=∃H,Inv X pins σ H s/\yk s.heap H (vF X pins) E z r a
def yl(X:Cx):Value->Prop:=fun v=>v=.none\/v=rawInt X.env.locals
def XF(X:Cx)(E:XK):Value->Shared->Prop:=fun e s=>∃a σ,e=.ref a/\k_ X [] σ E True (yl X) a s
structure nJ (X:Cx):Prop where
 st:X.stack=X.env::X.outer
 fr:X.env.frame=some X.env.locals
section
def yk.weak(f:yk h H n E z r a)(hm:∀b,n b->m b)(hz:z->z')(hr:∀v,r v->r' v):yk h H m E z' r' a:=by
 obtain⟨C,dx,ob,vs,f1,f2,f3,f4,f5,f6,st,q⟩:=f;refine⟨C,dx,ob,vs,hm _ f1,f2,f3,f4,f5,f6,?_,q⟩;rcases st with⟨x,y⟩|⟨T,oT,ts,v,t1,t2,t3,t4,t5,t6,t7,t8⟩
 .exact .inl ⟨hz x,y⟩
 .exact .inr ⟨T,oT,ts,v,t1,t2,hm _ t3,t4,t5,t6,t7,hr v t8⟩
def k_.xf{b:Prop}(f:k_ X [] σ E z r a s)(hr:∀v,r v->yl X v):XF X E (.ref a) s:=by
 obtain⟨H,I,f⟩:=f;exact⟨a,σ,rfl,H,I,f.weak (fun _ z=>z) (fun _=>trivial) hr⟩
def Inv.jE(I:Inv X pins σ H s):Inv X [] σ H s:=I.fV fun p hp=>absurd hp (by simp)
def Inv.mx(I:Inv X pins σ H s)(h:s.heap.objs.size<=b):vF X pins b:=⟨YE I.sz h,fun p hp e=>absurd (Ym (I.pin p hp).1) (by rw[e];exact Nat.not_lt.mpr h)⟩
def M'(B:nJ X)(I:Inv X pins σ H s)(f1:vF X pins a)(f2:H a=none)(f3:s.heap.get? a=some ob)(f4:ob.cls=.ref C)(f5:ob.dict=some dx)(f6:ob.data=.fields vs)(st:M_ s.heap H (vF X pins) z r a vs)(q:E (.ref C) (some dx) H)(l:Bv (bE X.stack) s.heap h' a ob vs T v'):k_ X pins σ E False (·=v') a { s with heap:=h' }:=by
 have BC:∀T0,vs[1]? = some (.ref T0)->T0≠a/\vF X pins T0/\H T0=none/\∃o ts,s.heap.get? T0=some o/\o.data=.fields ts:=fun T0 h0=>by
  rcases st with⟨_,y⟩|⟨T,oT,ts,v,t1,t2,t3,t4,t5,t6,t7,t8⟩
  .rw[y]at h0;cases h0
  .rw[t1]at h0;cases h0;exact⟨t2,t3,t7,oT,ts,t4,t5⟩
 obtain⟨ch,e_⟩:∃ch:List Addr,∀b,b∈ch↔(b=a\/vs[1]? = some (.ref b)):=by
  rcases st with⟨_,y⟩|⟨T,oT,ts,v,t1,t2,t3,t4,t5,t6,t7,t8⟩
  .exact⟨[a],fun b=>by rw[y];simp⟩
  .exact⟨[a,T],fun b=>by rw[t1];simp[eq_comm]⟩
 have ym:∀b o ts,s.heap.get? b=some o->o.data=.fields ts->b≠X.env.locals/\∀x c,X.env.cells.lookup x=some c->c≠b:=fun b o ts hb hd=>by
  refine⟨fun e=>?_,fun x c hc e=>?_⟩
  .obtain⟨m,⟨o',es,ep,ho,rr⟩,_⟩:=I.loc;rw[<- e,hb]at ho;cases ho;rw[rr.1]at hd;cases hd
  .obtain⟨v,o',ho,hv⟩:=I.cell x c hc;rw[e,hb]at ho;cases ho;rw[hv]at hd;cases hd
 have aG:cV X.prog X.w H h':=fun c v Na=>by
  have tr:∀b v,H b=some v->∀o,s.heap.get? b=some o->h'.get? b=some o:=fun b v vG o ho=>by
   refine l.cJ b o (fun e=>by rw[e,f2]at vG;cases vG) (fun m=>?_) (fun T0 h0 e=>by rw[e,(BC T0 h0).2.2.1]at vG;cases vG) ho;rw[I.fU b m]at vG;cases vG
  exact(I.aG c v Na).dF (fun b u hb ho=>hb.elim (fun e=>tr b v (e▸Na) u ho) fun e=>tr b _ e u ho) (fun _ z=>z) fun _ _ z=>z
 have gC:∀b,b∉ch->b≠a/\∀T0,vs[1]? = some (.ref T0)->b≠T0:=fun b hb=>⟨fun e=>hb ((e_ b).mpr (.inl e)),fun T0 h0 e=>hb ((e_ b).mpr (.inr (e▸h0)))⟩;have u:Un (bE X.stack) ch H H s.heap h':=⟨fun b o hb _ hf hc=>l.cJ b o (gC b hc).1 hf (gC b hc).2 hb,fun b o hb _ _ hc=>l.FC b o (gC b hc).1 (gC b hc).2 hb,fun _ _ _ n _=>n,fun b o hb hc=>?_,fun _ _ e=>e,fun _ _ _ e=>e,fun b ps e=>⟨#[],by rw[e];simp⟩⟩
 .have J:Inv X pins σ H { s with heap:=h' }:=I.call (g':=s.gens) (d':=s.drawn) (t':=s.toks) u aG I.bare fun b hb=>?_
  .obtain⟨vD,o8,g1,g2,g3,g4,g5⟩:=l.exc;obtain⟨t1,t2,oT,ts,t3,t4,t5⟩:=l.tb;exact⟨H,J,C,dx,vD,o8,f1,f2,g1,g2.trans f4,g3.trans f5,g4,.inr ⟨T,oT,ts,v',g5,t1,t2.elim (fun x=>I.mx x) fun x=>(BC T x).2.1,t3,t4,t5,t2.elim (fun x=>I.aG.fresh x) fun x=>(BC T x).2.2.1,rfl⟩,q⟩
  .rcases(e_ b).mp hb with e|e
   .have:=ym a ob vs f3 f6;subst e;exact⟨.inr f1.1,this.1,this.2,f1.2⟩
   .obtain⟨y1,y2,y3,o,ts,y4,y5⟩:=BC b e;have:=ym b o ts y4 y5;exact⟨.inr y2.1,this.1,this.2,y2.2⟩
 .obtain⟨sl,x⟩:=l.FC b o (gC b hc).1 (gC b hc).2 hb;exact⟨_,x⟩
def BD(B:nJ X)(f:k_ X pins σ E z (yl X) a s)(k:∀s',k_ X pins σ E False (·=rawInt X.env.locals) a s'->Q () s'):wpAny (model X.prog X.w) X.A (noteFrame (.ref a) X.env) Q R s:=by
 obtain⟨H,I,C,dx,ob,vs,f1,f2,f3,f4,f5,f6,st,q⟩:=f;have hF:=I.stack;rw[B.st]at hF;refine UD (B:=X.base) (I.ok.frames.trans (by rw[B.st])) hF B.fr f3 f6 ?_ fun h' T l=>k _ (M' B I f1 f2 f3 f4 f5 f6 st q (by rw[B.st];exact l));rcases st with⟨_,y⟩|⟨T,oT,ts,v,t1,t2,t3,t4,t5,t6,t7,t8⟩
 .exact .inl y
 .exact .inr ⟨T,oT,ts,v,t1,t2,t4,t5,t6,t8⟩
def vH(B:nJ X)(f:k_ X pins σ E False r a s)(k:∀s',k_ X pins σ E False (·=fr.elim .none fun f=>rawInt f) a s'->Q () s'):wpAny (model X.prog X.w) A (setFlight (.ref a) fr) Q R s:=by
 obtain⟨H,I,C,dx,ob,vs,f1,f2,f3,f4,f5,f6,st,q⟩:=f;have fb:=st;rcases st with⟨y,_⟩|⟨T,oT,ts,v,t1,t2,t3,t4,t5,t6,t7,t8⟩
 .exact y.elim
 .exact UE f3 f6 t1 t2 t4 t5 t6 fun h' l=>k _ (M' B I f1 f2 f3 f4 f5 f6 fb q l)
def Nb(B:nJ X):PassesOwn (model X.prog X.w) X.A X.env (XF X E):=by
 rintro e s ⟨a,σ,rfl,f⟩;refine BD B f fun s1 f1=>?_;have UP:=f1;obtain⟨H,I,C,dx,ob,vs,_,_,f3,_,_,f6,st,_⟩:=f1;rcases st with⟨y,_⟩|⟨T,oT,ts,v,t1,t2,t3,t4,t5,t6,t7,t8⟩
 .exact y.elim
 .refine Yb (Y9 f3 f6 t1 ?_);rw[if_neg (by simp)];refine vH B UP fun s2 f2=>f2.xf (b:=True) fun v hv=>.inr ?_;rw[hv,B.fr];rfl
def UQ(B:nJ X):rQ (gL X.prog X.w) (X.bL (XF X E)) E:=by
 rintro pins σ H s e s' I ⟨a,H',rfl,gY,hg,u,aG,f⟩;exact⟨a,σ,rfl,H',I.a_.jE.jk (ch:=[]) gY u aG hg fun b hb=>absurd hb (by simp),f.weak (fun b h=>I.a_.jE.mx h) (fun z=>z.elim) fun v hv=>.inl hv⟩
end
section
variable{K:au}
def vI:nJ (fo CX P w K mg base N qual scope f cd A outer s0 H0 E):=⟨rfl,rfl⟩
def UR(h:XF (fo (gL P w) P w K mg base N qual scope f cd A outer s0 H0 E) E e s):(fo (gL P w) P w K mg base N qual scope f cd A outer s0 H0 E).xe e s:=by
 obtain⟨a,σ,rfl,h⟩:=h;refine Yb (BD vI h fun s1 h1=>vH (A:=A.deeper (envOfC qual scope s0.heap.objs.size f cd)) vI h1 fun s2 h2=>?_);obtain⟨H,I,q⟩:=h2;exact⟨a,H,rfl,I.os,I.bare,I.base,I.aG,q.weak (fun b h=>h.1) (fun z=>z) fun _ z=>z⟩
def US{st:List Stmt}(h:dW ((fo (gL P w) P w K mg base N qual scope f cd A outer s0 H0 E).bL (XF (fo (gL P w) P w K mg base N qual scope f cd A outer s0 H0 E) E)) st t):dW (fo (gL P w) P w K mg base N qual scope f cd A outer s0 H0 E) st t:=fun pins s σ H D I hw =>
 YH (h pins s σ H D (I.bL _) hw) (fun _ _ q=>q.a_) fun _ _ q=>UR q
end
def Un.kp{K:au}(u:Un fs ex H H' h h'):Kp K H H':=⟨fun a xs q=>by
 rcases q with(q|⟨o,q⟩)|q
 .exact .inl (.inl (u.bK _ _ q))
 .exact .inl (.inr ⟨o,u.cE _ _ _ q⟩)
 .exact .inr q,fun a xs q=>by
 rcases q with⟨o,q⟩|q
 .exact .inl ⟨o,u.cE _ _ _ q⟩
 .exact .inr q,fun a o v q=>u.cE _ _ _ q⟩
def FK(K:au)(H0:Hp)(C:Addr)(sp:Sp)(E:XK)(t:TA):TS:=fun _ σ H=>t σ H fun vs H1=>Kp K H0 H1->∀x,H1 x=none ->
 sp (.ref x::vs) (upd H1 x (XO x C none)) (fun v H2=>v=.ay/\∃dx,H2 x=some (XO x C (some dx))/\E (.ref C) (some dx) (qI H2 x)) E0
def Nc(K:au)(H0:Hp)(sp:Sp)(E:XK)(t:TA):TE:=fun σ H Q=>t σ H fun vs H1=>Kp K H0 H1->sp vs H1 Q E
section
def Inv.yn(I:Inv X pins σ H s):Inv X pins σ (upd H (s.heap.objs.size+1) (XO (s.heap.objs.size+1) C none)) { s with heap:=(s.heap.push (i4 us)).push (k8 C s.heap.objs.size) }:=by
 have e2:((s.heap.push (i4 us)).push (k8 C s.heap.objs.size)).get? (s.heap.objs.size+1)=some (k8 C s.heap.objs.size):=by
  have:=Yl (s.heap.push (i4 us)) (o:=k8 C s.heap.objs.size) rfl;rwa [YL]at this
 exact I.laid (a:=s.heap.objs.size+1) (o:=XO (s.heap.objs.size+1) C none) (t':=s.toks) (fun b u q=>Ye _ (Ye _ q)) (fT _) (XO.ok e2 rfl rfl rfl (t0:=s.heap.objs.size) rfl rfl)
def Nd(hc:X.calm=true)(M:qJ X.K C f)(F:cF X.prog X.w X.K X.mg X.base aQ k f fd ps sp)(hr:bV (k+1) X.A)(hg:Gl X x)(hm:X.mg x=some (.ref C))(hb:kN X.K fd ps [])(ha:PA (X.bL (XF X E)) (e::es) t)(hp:ps.length<=1000:=by decide)(cR:(x==("__debug__":Str))=false:=by decide)(he:starEach (e::es) X.env=(false,eval e X.env)::starEach es X.env:=by rfl)(bx:(backTo pos (starEach es X.env)).any (·.1)=false:=by rfl):
  PS (X.bL (XF X E)) (.Raise (some (.Call (.Name x p) (e::es) [] pos)) none pos') (FK X.K X.iR C sp E t):=by
 intro pins s σ H D I h;refine UA (I.ok.hd hc) (kG (lK I hg hm (wm (h₀:=X.base) I.ok.mod.rE M.kp (aM (ha pos pins s σ H _ I h) fun us s1 ⟨vs,H1,I1,r,q⟩=>⟨I1.bo,?_⟩) he bx) cR));have hq:=q I1.base.kp (s1.heap.objs.size+1) (I1.aG.fresh (fT _));have I2:=Inv.yn (C:=C) (us:=us) I1;have r2:Z3 (V.ref (s1.heap.objs.size+1)::vs) (Value.ref (s1.heap.objs.size+1)::us):=.cons rfl r;have hl:(Value.ref (s1.heap.objs.size+1)::us).length=ps.length:=by
  have e:=r2.length;rw[F.len _ _ _ _ hq]at e;exact e.symm
 have UT:us.length<=1000:=by
  rw[List.length_cons]at hl;lia
 refine kJ (Ux (f:=f) I1.bo M.makes M.init (beq_iff_eq.mp M.fn) UT (kI (F.run _ X.stack _ _ ⟨Value.ref (s1.heap.objs.size+1)::us,[]⟩ (Value.ref (s1.heap.objs.size+1)::us) _ _ E0 (hr.make C us [])
  (I2.oB.make C us []) (by have:=hb _ (Value.ref (s1.heap.objs.size+1)::us) I2.bo (by rw[YW];exact hl);rwa [YW]at this) r2 hq) fun r s' gV=>?_))
 cases r with
 | error e=>exact gV.elim
 | ok fl =>
  cases fl with
  | ret u =>
   obtain⟨v,H',I3,rv,ev,dx,hx,hE⟩:=I2.after gV;subst ev;refine⟨rv,?_⟩;obtain⟨ob,fs,t0,ho,i5,hd,hf,h0,h1⟩:=XO.get I3.aG hx;exact⟨_,C,ob,fs,rfl,ho,i5,hf,h1,looks_mroIn I3.bo M.up,PySem.W.looks_typeIn I3.bo M.ty,⟨_,σ,rfl,_,I3.a_.jE.forget hx,C,dx,ob,fs,I1.a_.jE.mx (fT _),yi,ho,i5,hd,hf,.inl ⟨trivial,h1⟩,hE⟩⟩
  | next=>exact False.elim gV
  | brk=>exact False.elim gV
  | cont=>exact False.elim gV
def Nf(B:nJ X)(F:cF X.prog X.w X.K X.mg X.base (gL X.prog X.w) k f fd ps sp)(hr:bV k X.A)(hg:Gl X x)(hm:X.mg x=some (.ref f))(hk:PySem.W.keepIn X.K (.ref f)=true)(hb:kN X.K fd ps [])(ha:PA (X.bL (XF X E)) (e::es) t)(cR:(x==("__debug__":Str))=false:=by decide)(he:starEach (e::es) X.env=(false,eval e X.env)::starEach es X.env:=by rfl)(bx:(backTo pos (starEach es X.env)).any (·.1)=false:=by rfl):
  PE (X.bL (XF X E)) (.Call (.Name x p) (e::es) [] pos) (Nc X.K X.iR sp E t):=by
 intro pins s σ H Q I h;refine kG (lK I hg hm (wm (h₀:=X.base) I.ok.mod.rE hk (aM (ha pos pins s σ H _ I h) fun us s1 ⟨vs,H1,I1,r,q⟩=>⟨I1.bo,?_⟩) he bx) cR);exact Dw (X:=X.bL (XF X E)) (dvs:=[]) F hr hb .nil (UQ B) I1 r (by rw[YW];exact q I1.base.kp)
end
abbrev my:=Addr->List (Str×U)->az->Prop
abbrev vJ:=List U->az->bH->my->Prop
def mz(K:au)(H:Hp)(X':my)(E:XK):Prop:=∀C dx fs gs A' H',Kp K H H'->HR K H' A'->A' dx=none->H' dx=some (.xd gs)->cj K H' fs gs->X' C fs A'->E (.ref C) (some dx) H'
def mz.same{K:au}(h:mz K H X' E)(k:Kp K H H1):mz K H1 X' E:=fun C dx fs gs A' H' k1=>h C dx fs gs A' H' (k.trans k1)
def sQ(K:au)(bj:vJ):Sp:=fun vs H Q E=>∃us A Q' X',aK K H us vs/\HR K H A/\bj us A Q' X'/\kS K H Q' Q/\mz K H X' E
def FL(C:Addr)(f:Str)(ok:V->Prop):Sp:=fun vs H Q _=>∃x v,vs=[.ref x,v]/\ok v/\H x=some (XO x C none)/\∀dx,H dx=none->dx≠x->Q .ay (upd (upd H dx (.xd [(f,v)])) x (XO x C (some dx)))
def Ng(C:Addr)(f:Str)(ok:U->Prop)(X':my)(l:AA):AS:=fun _ ρ A=>l ρ A fun us A1=>∃u,us=[u]/\ok u/\X' C [(f,u)] A1
section
variable{K:au}
def UU(hE:mz K H0 X' E)(ho:∀u v H,RU K H u v->ok u->okV v)(hl:fH K t l):c6 K (FK K H0 C (FL C f okV) E t) (Ng C f ok X' l):=fun ρ A σ H D' D hs g h k=>by
 refine hl ρ A σ H _ _ hs g h fun us A1 vs H1 k1 g1 r1 ⟨u,e,hu,hx⟩ k0 x hn=>?_
 subst e
 cases r1 with
 | @cons _ v _ _ rv r1 =>
 cases r1
 refine⟨x,v,rfl,ho _ _ _ rv hu,ZC,fun dx hd aR=>⟨rfl,dx,ZC,?_⟩⟩
 rw[Zs aR]at hd
 have e:qI (upd (upd (upd H1 x (XO x C none)) dx (.xd [(f,v)])) x (XO x C (some dx))) x=upd H1 dx (.xd [(f,v)]):=by
  funext b;by_cases h1:b=x
  .rw[h1,yi,Zs aR.symm,hn]
  .rw[yj h1,Zs h1];by_cases h2:b=dx
   .rw[h2,ZC,ZC]
   .rw[Zs h2,Zs h1,Zs h2]
 rw[e];have sm:=ba.aA (o:=.xd [(f,v)]) hd;exact hE C dx [(f,u)] [(f,v)] A1 _ (k0.trans sm.kp) (g1.grow sm) (g1.none hd) ZC ⟨rfl,.one (rv.same sm.kp)⟩ hx
def Nh(bj:vJ)(X':my)(l:AA):AE:=fun ρ A Q=>l ρ A fun us A1=>bj us A1 Q X'
def Ni(hE:mz K H0 X' E)(hl:fH K tl l):aY K (Nc K H0 (sQ K bj) E tl) (Nh bj X' l):=fun ρ A σ H Q' Q hs hh h k =>
 hl ρ A σ H _ _ hs hh h fun us A1 vs H1 k1 g1 r1 q1 k0=>⟨us,A1,Q',X',r1,g1,q1,fun z A3 v3 H3 k3 h3 r3 q3=>k _ _ _ _ (k1.trans k3) h3 r3 q3,hE.same k0⟩
end
section
variable{K:au}
def iW.yo{st:Stmt}{as:my->AS}(F:iW K x qual st f fd)(hs:ZQ st=sc)(hb:kP st=body)(S:gW N ps (ZQ st))(cW:gW N ps sc->∀ (bg:Value) (A:Around) (outer:List Env) (s:Shared) (H:Hp) (E:XK) (X':my),bV k (A.deeper (envOfC qual sc s.heap.objs.size f bg))->mz K H X' E ->
   ∃t,dW ((fo (gL P w) P w K mg base N qual sc f bg A outer s H E).bL (XF (fo (gL P w) P w K mg base N qual sc f bg A outer s H E) E)) body t/\c6 K t (as X'))(iM:∀us A Q X',bj us A Q X'->us.length=ps.length/\as X' { nx:=fun _ A'=>Fg Q .ay A',rt:=Fg Q } (aStart N us) A):cF P w K mg base (gL P w) (k+1) f fd ps (sQ K bj):=by
 subst hs hb;obtain⟨oc,od,kV,doc,pm,an,bg,ct,oC,rfl,lk,gR⟩:=F.ex;refine JV lk gR S (fun vs H Q E ⟨us,A,Q',X',r,g,h,_⟩=>?_) fun A outer s H vs Q E hr ⟨us,A',Q',X',r,g,h,k,kx⟩=>?_
 .rw[<- r.length];exact(iM us A Q' X' h).1
 .obtain⟨t,ht,ha⟩:=cW S bg A outer s H E X' hr kx;exact⟨t,US ht,ha _ _ _ _ _ _ (aX.start N r) g (iM us A' Q' X' h).2 ⟨fun ρ A σ H' k' g' s' ⟨A3,e,q'⟩=>k _ _ _ _ k' (g'.ext e) .ay q',fun u A v H' k' g' r' ⟨A3,e,q'⟩=>k _ _ _ _ k' (g'.ext e) r' q',fun _ _ _ _ _ _ _ q=>q.elim,fun _ _ _ _ _ _ _ q=>q.elim⟩⟩
end
def jD.at{K:au}(c:jD K C D b)(x:K.In h):Bx M h C D b:=by
 refine⟨looks_instIn x c.nt,?_,looks_mroIn x c.ex,looks_mroIn x c.sb⟩;intro A Q E s k q;have t:=c.ty;unfold PySem.W.isClsIn clsIn at t;split at t
 .rename_i oc od cd sl hl;simp only[isType,loadHead];exact Yb (wpAny_loadPart (k _ _ (x _ _ hl)) (Yd q))
 .cases t
abbrev Cx.jF(X:Cx)(a:Addr):Cx:={ X with A:=X.A.mark (some (.ref a)),calm:=false,xe:=fun _ _=>False }
def XE(X:Cx)(pins:List (Addr×Obj))(σ:St)(E:XK):Value->Shared->Prop:=fun ev s'=>∃H1 s1,Inv X pins σ H1 s1/\gL X.prog X.w X.stack H1 s1 E ev s'
abbrev TX:=St->Hp->VK->XK->Prop
def Nj(X:Cx)(e:Expr)(tx:TX):Prop :=
 ∀(pins:List (Addr×Obj))(s:Shared)(σ:St)(H:Hp)(Q:VK)(E:XK),Inv X pins σ H s->tx σ H Q E->wpAny (model X.prog X.w) X.A (eval e X.env) (EP X pins σ Q) (XE X pins σ E) s
section
def Inv.jF(I:Inv X pins σ H s):Inv (X.jF a) pins σ H s:=⟨{ I.ok with hd:=fun z=>nomatch z },I.os,I.bare,I.base,I.loc,I.cell,I.free,I.bw,I.pin,I.aG,I.len⟩
def Inv.eH(I:Inv (X.jF a) pins σ H s)(ok:X.Ok):Inv X pins σ H s:=⟨ok,I.os,I.bare,I.base,I.loc,I.cell,I.free,I.bw,I.pin,I.aG,I.len⟩
def SP.eH(ok:X.Ok)(h:SP (X.jF a) pins Dn fl s'):SP X pins Dn fl s':=by
 cases fl with
 | next=>obtain⟨aU,H',I,q⟩:=h;exact⟨aU,H',I.eH ok,q⟩
 | brk=>obtain⟨aU,H',I,q⟩:=h;exact⟨aU,H',I.eH ok,q⟩
 | cont=>obtain⟨aU,H',I,q⟩:=h;exact⟨aU,H',I.eH ok,q⟩
 | ret u=>obtain⟨v,aU,H',I,r,q⟩:=h;exact⟨v,aU,H',I.eH ok,r,q⟩
end
abbrev AX:=a8->az->bH->my->Prop
def Nk(K:au)(tx:TX)(ax:AX):Prop:=∀ρ A σ H Q' X' Q E,aX K H ρ σ->HR K H A->ax ρ A Q' X'->kS K H Q' Q->mz K H X' E->tx σ H Q E
section
def ZnM:Ng C f ok X' l D ρ A=l ρ A fun us A1=>∃u,us=[u]/\ok u/\X' C [(f,u)] A1:=rfl
def Znr:Nh bj X' l ρ A Q=l ρ A fun us A1=>bj us A1 Q X':=rfl
end
section
variable{St:Nat->Heap->Prop}
abbrev Nl(I S:Addr)(d:Value):Code:=.builtin "min.loop" ⟨[.ref I,.none,.ref S],[(Str.ofString "default",d)]⟩
def BE:(toString "min"++toString ".loop":String)="min.loop":=by decide
def UW(W:Walks prog w A.in1 I fp wr n P St)(hc:CmpOf prog w A.in1 .Lt P bt)(nS:S∉fp)(g:Nat):∀(j:Nat)(s:Shared)(b0:Value)(c:Nat),j+1+g=n->St (j+1) s.heap->P (argBest bt j) b0->s.heap.get? S=some (seqObj "list" #[b0,b0] c) ->
  (∀v h' tk,P (argBest bt (n-1)) v->(∀b o,b∉wr->b≠S->s.heap.get? b=some o->h'.get? b=some o)->R (.ok (.ret v)) { s with heap:=h',toks:=tk })->codeAny (model prog w) A (Nl I S d) R s:=by
 have nW:S∉wr:=fun h=>nS (W.sub _ h);induction g with
 | zero =>
  intro j s b0 c e st pb eS q;refine m5 F.entry_min_loop ?_;rw[pX F.plain_min_loop _];refine Yb (rB eS rfl (Yb (zU (W.done s _ _ (e▸st) fun h1 t1 k1=>Yb (m7 (k1 S _ nW eS) rfl (Yb (qb (Yd ?_))))))));exact q b0 _ t1 (by rw[<- e];exact pb) fun b o x y z=>(YC _ _ (Ne.symm y)).trans (k1 b o x z)
 | succ g ih =>
  intro j s b0 c e st pb eS q;refine m5 F.entry_min_loop ?_;rw[pX F.plain_min_loop _];refine Yb (rB eS rfl (Yb (zU (W.item (j+1) s _ _ (by lia) st fun v h1 t1 p1 BF k1=>?_))));have vK:=k1 S _ nW eS;refine Yb (Yd ?_);show wpAny _ A.in1 (tryCatch (holding [v,v] (richCompare .Lt v b0>>=_)) _>>=_) _ _ _;refine Yb (zU (YT (Yb (hc (j+1) (argBest bt j) v b0 _ _ _ p1 pb (Yb (YT (rj (Yb (qb (Yd ?_))))))))));cases hb:bt (j+1) (argBest bt j)with
  | true =>
   refine Yb (m7 vK rfl (Yb (qb ?_)));rw[BE];refine Yd ⟨m8 F.plain_min_loop _,ih (j+1) _ v _ (by lia) (W.frame _ _ _ BF fun b m o z=>(YC _ _ (fun h:S=b=>nS (h▸m))).trans z) (by rw[argBest,hb];exact p1) (YB _ vK rfl) fun v' h2 t2 p2 k2=>q v' h2 t2 p2 fun b o x y z=>k2 b o x y ((YC _ _ (Ne.symm y)).trans (k1 b o x z))⟩
  | false =>
   refine Yb (qb ?_);rw[BE];exact Yd ⟨m8 F.plain_min_loop _,ih (j+1) _ b0 c (by lia) BF (by rw[argBest,hb];exact pb) vK fun v' h2 t2 p2 k2=>q v' h2 t2 p2 fun b o x y z=>k2 b o x y (k1 b o x z)⟩
def UX(W:Walks prog w A.in1 I fp wr n P St)(hc:CmpOf prog w A.in1 .Lt P bt)(nS:S∉fp)(st:St 0 s.heap)(eS:s.heap.get? S=some (seqObj "list" #[] c))(q:∀v h' tk,(n=0/\v=d\/0<n/\P (argBest bt (n-1)) v)->(∀b o,b∉wr->b≠S->s.heap.get? b=some o->h'.get? b=some o)->R (.ok (.ret v)) { s with heap:=h',toks:=tk }):codeAny (model prog w) A (Nl I S d) R s:=by
 have nW:S∉wr:=fun h=>nS (W.sub _ h);refine m5 F.entry_min_loop ?_;rw[pX F.plain_min_loop _];refine Yb (rB eS rfl (Yb (zU ?_)));by_cases hn:n=0
 .exact W.done s _ _ (hn▸st) fun h1 t1 k1=>Yb (qc (Yd (q d h1 t1 (.inl ⟨hn,rfl⟩) fun b o x _ z=>k1 b o x z)))
 .refine W.item 0 s _ _ (by lia) st fun v h1 t1 p1 BF k1=>Yb (Yd (Yb ?_));have vK:=k1 S _ nW eS;refine m7 vK rfl ?_;rw[BE];refine Yd ⟨m8 F.plain_min_loop _,UW W hc nS (n-1) 0 _ v _ (by lia) (W.frame _ _ _ BF fun b m o z=>(YC _ _ (fun h:S=b=>nS (h▸m))).trans z) p1 (YB _ vK rfl) fun v' h2 t2 p2 k2=>q v' h2 t2 (.inr ⟨by lia,p2⟩) fun b o x y z=>k2 b o x y ((YC _ _ (Ne.symm y)).trans (k1 b o x z))⟩
end
def UY(a v:Value):argsOk "min" ⟨[a],[(Str.ofString "default",v)]⟩:=by unfold argsOk;kernel_rfl
def Nm(K:au):V->Hp->VK->Prop:=fun x H Q=>∃p ns,x=.ref p/\aV K H p (List.map V.int ns)/\(ns=[]->Q .ay H)/\∀m,m∈ns->(∀x∈ns,m<=x)->Q (.int m) H
def Nn(K:au)(te:TE):TE:=fun σ H Q=>te σ H fun x H1=>Nm K x H1 Q
section
def UZ(I:Inv X pins σ H s)(hh:B.in1.handled=none)(hl:aV X.K H l (ns.map V.int))(h0:∀s',Inv X pins σ H s'->ns=[]->Q .none s')(h1:∀s' m t,Inv X pins σ H s'->m∈ns->(∀x∈ns,m<=x)->Q (.int m t) s'):wpAny (model X.prog X.w) B (call (.builtin "min") [.ref l] [(Str.ofString "default",.none)]) Q E s:=by
 obtain⟨its,rv,pl,hz⟩:=I.list hl;have hlen:its.toArray.size=ns.length:=by have:=rv.length;simp at this;simp;lia
 have hp:l<s.heap.objs.size:=by obtain⟨o,n,e,_⟩:=pl;exact Ym e
 refine kmk_tree F.kind_min F.plain_min F.entry_min (UY _ _) (show _ from ?_);show wpAny _ B.in1 (Builtin.Builtins.bindParams "min" ["key","default"] 0 ⟨[],[(Str.ofString "default",.none)]⟩>>=_) _ E s;refine Yb (wy (show Builtin.Builtins.bindParams "min" ["key","default"] 0 ⟨[],[(Str.ofString "default",.none)]⟩=pure [none,some .none]from rfl) (Yb (Yd (Yb (uG pl.isList (Yb (CU (show _ from ?_) (Y0 _))))))));rw[BE];have U0:l≠s.heap.objs.size:=Yn hp;have kk:∀ {b:Addr} {ob:Obj} {x:Obj} {y:Obj},s.heap.get? b=some ob->((s.heap.push x).push y).get? b=some ob:=fun e=>Ye _ (Ye _ e);refine Yd ⟨m8 F.plain_min_loop _,UX (d:=.none) (wz hh s.heap.objs.size l U0 its.toArray) (bt:=fun i j=>decide (MM.fq ns i<MM.fq ns j)) (fun i j vi vj s' Q' E' hi hj hq=>?_) ?_ ⟨⟨_,Ye _ (Yl _ rfl),rfl,rfl⟩,pl.isList.at fun o e=>kk e⟩ (Yl _ rfl) fun v h' tk hv hk=>?_⟩
 .obtain⟨_,t,rfl⟩:=u9 rv hi;obtain⟨_,t',rfl⟩:=u9 rv hj;exact HT.gX _ _ _ _ _ _ _ _ _ _ hq
 .rw[YL];intro hm;rcases Yo.mp hm with e|hm
  .exact absurd e (Nat.succ_ne_self _)
  .exact absurd hp (by rw[<- Yp.mp hm];exact Nat.not_lt.mpr (fT _))
 .have I':Inv X pins σ H { s with heap:=h',toks:=tk }:=I.kept (t':=tk) fun b o e=>hk b o (by simp;exact Yn (Ym e)) (fun z=>absurd (Ym e) (by rw[z,YL];exact Nat.not_lt.mpr (fT _))) (kk e);rw[hlen]at hv;rcases hv with⟨hn,rfl⟩|⟨hn,hv⟩
  .exact h0 _ I' (wk.mp hn)
  .obtain⟨hi,t,rfl⟩:=u9 rv hv;refine h1 _ _ _ I' (KH hi) fun x hx=>?_;obtain⟨j,hj,rfl⟩:=Zip hx;exact Ek ns (ns.length-1) j (by lia)
def Np(K:au)(hK:X.K=K)(hc:X.calm=true)(hg:Gl X "min")(hm:X.mg "min"=none)(he:PE X e te)(jn:starEach [e] X.env=[(false,eval e X.env)]:=by rfl):PE X (.Call (.Name "min" p) [e] [⟨some "default",.Constant .none kj p2,p3⟩] pos) (Nn K te):=by
 subst hK;intro pins s σ H Q I h;refine kG (og I hg hm (show bootBuiltins "min"=some (.builtin "min") by decide +kernel) (show _ from ?_) (by decide) (by decide));have U1:PA X [e] (oz te oy):=Za he Zg jn;have h':oz te oy σ H (fun vs H1=>match vs with|[x]=>Nm X.K x H1 Q|_=>False):=h;refine callWith_kw (aM (U1 pos pins s σ H _ I h') fun us s1 ⟨vs,H1,I1,r1,q1⟩=>?_) (by rw[jn];rfl) (by rw[jn];rfl) rfl rfl;dsimp only at q1;split at q1
 .obtain⟨u,rfl,ru⟩:=r1.one;obtain⟨l,ns,rfl,hl,q0,q⟩:=q1;cases ru;show wpAny _ _ (evalAll [(do let v <- eval (.Constant .none kj p2) X.env;standAt pos;pure v)]) _ _ s1;refine wpAny_evalAll_cons (Yb (Constant_none (Yb (nY (Yd (wpAny_evalAll_nil ?_))))));show wpAny _ _ (call (.builtin "min") [.ref l] [(Str.ofString "default",.none)]) _ _ _;exact UZ I1 (show X.A.in1.handled=none from I.ok.hd hc) hl (fun s' I' hn=>⟨.ay,H1,I',rfl,q0 hn⟩) fun s' m t I' hm hx=>⟨.int m,H1,I',⟨_,rfl⟩,q m hm hx⟩
 .exact q1.elim
end
def Nq(ae:AE):AE:=fun ρ A Q=>ae ρ A fun x A1=>∃p ns,x=.ref p/\A1 p=some (.lst (List.map U.int ns))/\(ns=[]->Q .ay A1)/\∀m,m∈ns->(∀x∈ns,m<=x)->Q (.int m) A1
def Nr{K:au}(h:aY K te ae):aY K (Nn K te) (Nq ae):=fun ρ A σ H Q' Q hs g wh k =>
 h ρ A σ H _ _ hs g wh fun x A1 v H1 k1 g1 r1 aF=>by
  obtain⟨p,ns,e,hp,q0,q⟩:=aF
  subst e
  cases r1
  obtain⟨vs,h1,r⟩:=g1.list hp
  rw[r.ints]at h1
  exact⟨p,ns,rfl,aV.of h1,fun hn=>k _ _ _ _ k1 g1 .ay (q0 hn),fun m hm hx=>k _ _ _ _ k1 g1 (.int m) (q m hm hx)⟩
def ZnB:Nq ae ρ A Q=ae ρ A fun x A1=>∃p ns,x=.ref p/\A1 p=some (.lst (List.map U.int ns))/\(ns=[]->Q .ay A1)/\∀m,m∈ns->(∀x∈ns,m<=x)->Q (.int m) A1:=rfl
section
variable{X:Cx}(P:Program)(w:World)(hP:X.prog=P)(hw:X.w=w)
include hP hw
def Nt:j0 X (Fj P w):=by subst hP hw;exact sM
def U2:a9 X (compareOp .In) (Fh P w):=by subst hP hw;exact Bn
def U3:a9 X (compareOp .NotIn) (Fi P w):=by subst hP hw;exact Fl
end
def U4:builtinKind "BaseException.__getattribute__"=some .slot:=by kernel_rfl
def U5:splitId "BaseException.__getattribute__"=some ("BaseException","__getattribute__"):=by kernel_rfl
def Nu(x y:Value):slotArgs "__getattribute__" 1 ⟨[x,y],[]⟩=pure (x,[y]):=by
 unfold slotArgs;simp
section
variable{K:au}
def Nv(X:K.In s.heap)(I:PySem.W.InstAt s.heap x ox C od)(o9:PySem.W.mroIn K C (.type "BaseException")=some true)(h:wpAny (model prog w) A.in1 (Builtin.«object.__getattribute__» ⟨[.ref x,.str name tk],[]⟩) (fun fin s'=>match fin with|.done f=>R (.ok f) s'|.again c'=>c'.quiet=true/\codeAny (model prog w) A c' R s') (fun e s'=>R (.error e) s') s):
  codeAny (model prog w) A (.call (.builtin "BaseException.__getattribute__") ⟨[.ref x,.str name tk],[]⟩) R s:=by
 have sub:PySem.W.Looks (model prog w) s.heap (isInstance (.ref x) (.type "BaseException")) true:=I.type.andThen (looks_mroIn X o9);exact codeAny_call_builtin F.excAttr_ValueError.ga.plain F.entry_bexc_ga (@PySem.W.check_slot (model prog w) _ _ s "BaseException.__getattribute__" "BaseException" "__getattribute__" (.ref x) [.str name tk] [] _ U4 U5 sub (F.args_bexc_ga (.ref x) (.str name tk)) h)
def U6(X:K.In s.heap)(I:PySem.W.InstAt s.heap x ox C od)(o9:PySem.W.mroIn K C (.type "BaseException")=some true)(hf:PySem.W.findObj K C od name=some (.value v))(h:R (.ok (.ret v)) s):
  codeAny (model prog w) A (.call (.builtin "BaseException.__getattribute__") ⟨[.ref x,.str name tk],[]⟩) R s:=by
 refine Nv X I o9 ?_;obtain⟨hh,gg,d,t,os⟩:=s;have L0:=I.type (M:=model prog w);have L1:=looks_find (M:=model prog w) X I hf;unfold Builtin.«object.__getattribute__»;rw[Nu];refine Yb (Yd ?_);dsimp only;exact Yb (Yd (Yb (L0.at (Yb (L1.at (Yd h))))))
def Nw{expr fill:Bool}(X:K.In s.heap)(I:PySem.W.InstAt s.heap x ox C od)(yp:PySem.W.findIn K (.ref C) "__getattribute__"=some (some (.builtin "BaseException.__getattribute__")))(hk:PySem.W.findIn K (.ref C) "__getattr__"=some none)(h:codeAny (model prog w) A (.call (.builtin "BaseException.__getattribute__") ⟨[.ref x,.str name tk],[]⟩) (fun r s'=>match r with|.ok (.ret v)=>wpAny (model prog w) A (handedOut v) Q E s'|_=>False) s):
  wpAny (model prog w) A (getAttrBy (.ref x) (.str name tk) fill expr) Q E s:=by
 obtain⟨hh,gg,d,t,os⟩:=s;have L0:=I.type (M:=model prog w);have L1:=looks_findIn (M:=model prog w) X yp;have L2:=looks_findIn (M:=model prog w) X hk;have f3:=F.excAttr_ValueError.ga.bind (.ref x);have U7:(expr&&onTheHeap (Value.builtin "BaseException.__getattribute__"))=false:=by cases expr<;>rfl
 have BG:(Value.builtin "BaseException.__getattribute__" == Value.builtin "object.__getattribute__")=false:=by decide +kernel
 have sP:(onTheHeap (Value.ref C)&&Value.builtin "BaseException.__getattribute__" == Value.builtin "object.__getattribute__")=false:=by rw[BG];rfl
 unfold getAttrBy;refine YT (Yb (L0.at (Yb (L1.at ?_))));dsimp only;rw[sP];simp only[Y2,fj];unfold getAttrByItsOwn hookBefore;rw[show onTheHeap (Value.ref C)=true from rfl,if_pos rfl];refine Yb (L2.at (Yb ?_));unfold callGetattribute;rw[U7];simp only[Y2,fj];unfold boundAndCalled;rw[f3];refine p9 (YT (Yb (Yd ?_)));show wpAny _ _ (call (.builtin "BaseException.__getattribute__") [.ref x,.str name tk]) _ _ _;refine kJ (kI h fun r s' z=>?_);rcases r with e|(v|_|_|_)<;>first|exact z|exact z.elim
def U8(X:K.In s.heap)(I:PySem.W.InstAt s.heap x ox C od)(yp:PySem.W.findIn K (.ref C) "__getattribute__"=some (some (.builtin "BaseException.__getattribute__")))(hk:PySem.W.findIn K (.ref C) "__getattr__"=some none)(o9:PySem.W.mroIn K C (.type "BaseException")=some true)(hf:PySem.W.findObj K C od name=some (.value v))(hh:PySem.W.handedIn v=true)(h:Q v { s with toks:=s.toks+1 }):wpAny (model prog w) A (getAttr (.ref x) name expr) Q E s:=by
 unfold getAttr;refine Yb (wpAny_mkText (Nw (s:={ s with toks:=s.toks+1 }) X I yp hk (U6 (s:={ s with toks:=s.toks+1 }) X I o9 hf ?_)));show wpAny _ _ (handedOut v) _ _ _;rw[handedOut_of hh];exact Yd h
def U9(X:K.In s.heap)(I:PySem.W.InstAt s.heap x ox C (some od))(yp:PySem.W.findIn K (.ref C) "__getattribute__"=some (some (.builtin "BaseException.__getattribute__")))(hk:PySem.W.findIn K (.ref C) "__getattr__"=some none)(o9:PySem.W.mroIn K C (.type "BaseException")=some true)(FN:PySem.W.hasDictIn K C=true)(ha:PySem.W.findIn K (.ref C) "__class__"=some (some (.builtin "object.__class__")))(hn:PySem.W.specialIn K (.builtin "object.__class__") "__get__"=some (some (.builtin "getset_descriptor.__get__")))(ou:PySem.W.takesIn K (.builtin "object.__class__")=some true)(hm:PySem.W.mroIn K C (.type "object")=some true)(h:Q (some (.ref C)) { s with toks:=s.toks+1 }):wpAny (model prog w) A (getAttr? (.ref x) "__class__") Q E s:=by
 have hf:PySem.W.findObj K C (some od) "__class__"=some (.bind (.builtin "getset_descriptor.__get__") (.builtin "object.__class__")):=PySem.W.findObj_data (by obtain⟨cd,hc,_⟩:=any_some FN;rw[hc];rfl) ha hn ou;unfold getAttr? getAttrBy?;refine Yb (wpAny_mkText (Yb (p9 (Nw (s:={ s with toks:=s.toks+1 }) X I yp hk ?_))));refine Nv (s:={ s with toks:=s.toks+1 }) X I o9 ?_;obtain⟨hh,gg,d,t,os⟩:=s;have L0:=I.type (M:=model prog w);have L1:=looks_find (M:=model prog w) X I hf;unfold Builtin.«object.__getattribute__»;rw[Nu];refine Yb (Yd ?_);dsimp only;refine Yb (Yd (Yb (L0.at (Yb (L1.at ?_)))));show wpAny _ _ (holding [_] (call (.builtin "getset_descriptor.__get__") [.builtin "object.__class__",.ref x,.ref C])>>=ret) _ _ _;refine Yb (YT (kJ (PySem.W.class_get (s:=⟨hh,gg,d,t+1,os⟩) (ox:=ox) (od:=some od) X I hm (Yd ?_))));show wpAny _ _ (handedOut (.ref C)) _ _ _;rw[handedOut_of rfl];exact Yd (Yd h)
end
structure o_ (K:au) (C:Addr):Prop where
 ga:PySem.W.findIn K (.ref C) "__getattribute__"=some (some (.builtin "BaseException.__getattribute__"))
 gk:PySem.W.findIn K (.ref C) "__getattr__"=some none
 up:PySem.W.mroIn K C (.type "BaseException")=some true
 hd:PySem.W.hasDictIn K C=true
 cl:PySem.W.findIn K (.ref C) "__class__"=some (some (.builtin "object.__class__"))
 cg:PySem.W.specialIn K (.builtin "object.__class__") "__get__"=some (some (.builtin "getset_descriptor.__get__"))
 ct:PySem.W.takesIn K (.builtin "object.__class__")=some true
 ob:PySem.W.mroIn K C (.type "object")=some true
def FO{K:au}(g:o_ K C):PySem.W.KitX K (.ref x) (.ref C) (fun h=>PySem.W.InstAt h x ox C (some od)) where
 ty:=fun _ _ _ I=>I.type
 it := fun _ _ X _=>by
  obtain⟨U_,lN,_⟩:=any_some g.hd
  unfold clsIn at lN
  split at lN
  .rename_i c' d' M7 C3 ho
   intro A' Q' E' s' k q
   unfold isType loadHead
   exact Yb (wpAny_loadPart (k _ _ (X _ _ ho)) (Yd q))
  .cases lN
 ne := fun h tp dd its n sl X U'=>by
  obtain⟨U_,lN,_⟩:=any_some g.hd
  refine Bool.eq_false_iff.mpr fun q=>?_
  have e:C=tp:=Value.ref.inj (beq_iff_eq.mp q)
  subst e
  unfold clsIn at lN
  split at lN
  .rename_i c' d' M7 C3 ho
   have z:=(X _ _ ho).symm.trans U'
   cases z
  .cases lN
 ca:=fun X I k=>U9 X I g.ga g.gk g.up g.hd g.cl g.cg g.ct g.ob k
def XT(a C dx:Addr):HO:=.ext fun h=>∃ob vs,h.get? a=some ob/\ob.cls=.ref C/\ob.dict=some dx/\ob.data=.fields vs
section
def XT.ok(h1:h.get? a=some ob)(h2:ob.cls=.ref C)(h3:ob.dict=some dx)(h4:ob.data=.fields vs):dC P w H h a (XT a C dx) :=
 ⟨⟨ob,vs,h1,h2,h3,h4⟩,⟨ob,h1⟩,fun h1 h2 ⟨ob,vs,q1,q⟩ k=>⟨ob,vs,k _ q1,q⟩⟩
def XT.get(hk:cV P w H h)(e:H a=some (XT a C dx)):∃ob vs,h.get? a=some ob/\ob.cls=.ref C/\ob.dict=some dx/\ob.data=.fields vs:=(hk a _ e).1
def XT.inst(hk:cV P w H h)(e:H a=some (XT a C dx))(d:H dx=some (.xd fs)):∃(ob od:Obj)(mA:Str->Option Value),PySem.W.InstAt h a ob C (some od)/\(∀name,lookIn name od=some (mA name))/\∀f,iL (fs.lookup f) (mA f):=by
 obtain⟨ob,vs,h1,h2,h3,h4⟩:=XT.get hk e;obtain⟨mA,n,r⟩:=hk dx _ d;obtain⟨od,ho,hl⟩:=JD n;refine⟨ob,od,mA,⟨h1,h2,?_,?_⟩,hl,r⟩
 .unfold notCls;rw[h4]
 .rw[h3];exact ho
end
def Nx(K:au)(ta:TE)(f:Str):TE:=fun σ H Q=>ta σ H fun x H1=>∃a C dx fs v,x=.ref a/\H1 a=some (XT a C dx)/\H1 dx=some (.xd fs)/\o_ K C/\fW K C f/\fs.lookup f=some v/\Q v H1
def Ny(K:au):List V->Hp->VK->Prop:=fun xs H Q=>∃a C dx fs c b,xs=[.ref a,c]/\H a=some (XT a C dx)/\H dx=some (.xd fs)/\o_ K C /\
 ((∃D,c=.ref D/\PySem.W.kitOne K (.ref C) (.ref D)=some b)\/(∃T,c=.ty T/\PySem.W.kitOne K (.ref C) (.type T)=some b)\/∃(p:Addr)(cs:List Addr),c=.ref p/\bf K H p (cs.map V.ref)/\kitAny K (.ref C) (cs.map Value.ref)=some b)/\Q (.bl b) H
section
def BH(he:PE X e ta)(hb:attributeBase e f X.env (eval e X.env)=eval e X.env):PE X (.Attribute e f pos) (Nx X.K ta f):=by
 intro pins s σ H Q I h;refine JI hb (aM (he pins s σ H _ I h) fun u s1 aL=>?_);obtain⟨x,H1,I1,rx,a,C,dx,fs,v,ex,ea,ed,g,n,l,q⟩:=aL;subst ex;obtain rfl:u=Value.ref a:=rx;obtain⟨ob,od,mA,J,hl,r⟩:=XT.inst I1.aG ea ed;obtain⟨u,hu,ru⟩:=iL.some_of (v:=v) (o:=mA f) (by rw[<- l];exact r f);exact U8 I1.bo J g.ga g.gk g.up (findObj_own g.hd n rfl (by rw[hl,hu])) (JH ru) ⟨v,H1,I1.tok _,ru,q⟩
def yq:cf X (.builtin "isinstance") (Ny X.K):=by
 intro pins s σ H xs us Q I r h;obtain⟨a,C,dx,fs,c,b,rfl,ea,ed,g,hc,q⟩:=h;obtain⟨u,v,rfl,ru,rv⟩:=r.two;cases ru;obtain⟨ob,od,mA,J,hl,_⟩:=XT.inst I.aG ea ed;rcases hc with⟨D,rfl,hc⟩|⟨T,rfl,hc⟩|⟨p,cs,rfl,ht,hc⟩
 .cases rv;exact Y6 (FO g) I.bo J hc (fun z=>nomatch z) fun tk=>⟨.bl b,H,I.tok tk,rfl,q⟩
 .cases rv;exact Y6 (FO g) I.bo J hc (fun z=>nomatch z) fun tk=>⟨.bl b,H,I.tok tk,rfl,q⟩
 .cases rv;obtain⟨its,r',pl,_⟩:=I.tuple ht;have e:=E5 r';subst e;have hp:∃dd n sl,s.heap.get? p=some ⟨.type "tuple",dd,.seq (cs.map Value.ref).toArray n,sl⟩:=by
   obtain⟨⟨oc,Tt,da,sl⟩,ho,hc,n,hd⟩:=(show IsTup s.heap p (cs.map Value.ref).toArray from by first|exact pl|exact pl.isTup|(obtain⟨o,n,e,c,_,d,_⟩:=pl;exact⟨o,e,c,n,d⟩));cases hc;cases hd;exact⟨_,n,_,ho⟩
  obtain⟨dd,n,sl,hp⟩:=hp;exact kia_tup (FO g) I.bo J hp hc (fun z=>nomatch z) fun tk=>⟨.bl b,H,I.tok tk,rfl,q⟩
end
def oX(C dx:Addr):AO:=.cJ fun K H a=>H a=some (XT a C dx)
def fM(fs:List (Str×U)):AO:=.cJ fun K H a=>∃gs,H a=some (.xd gs)/\cj K H fs gs
section
variable{K:au}
def Va(h:H a=some (XT a C dx)):RO K H a (oX C dx):=⟨⟨_,h⟩,h,fun H1 H2 h1 _ e=>e.trans h1⟩
def Vb(h:H a=some (.xd gs))(r:cj K H fs gs):RO K H a (fM fs):=⟨⟨_,h⟩,⟨gs,h,r⟩,fun H1 H2 ⟨gs,h1,r1⟩ k e=>⟨gs,e.trans h1,r1.same k⟩⟩
def Nz(K:au)(ae:AE)(f:Str):AE:=fun ρ A Q=>ae ρ A fun x A1=>∃a C dx fs u,x=.ref a/\A1 a=some (oX C dx)/\A1 dx=some (fM fs)/\o_ K C/\fW K C f/\fs.lookup f=some u/\Q u A1
def BI(he:aY K te ae):aY K (Nx K te f) (Nz K ae f):=fun ρ A σ H Q' Q hs g w k =>
 he ρ A σ H _ _ hs g w fun x A1 v H1 k1 g1 r1 aF=>by
  obtain⟨a,C,dx,fs,u,e,h1,h2,h3,h4,h5,q⟩:=aF
  subst e
  cases r1
  obtain⟨_,q1,_⟩:=g1 a _ h1
  obtain⟨_,⟨gs,q2,rf⟩,_⟩:=g1 dx _ h2
  obtain⟨v,hv,rv⟩:=rf.look h5
  exact⟨a,C,dx,gs,v,rfl,q1,q2,h3,h4,hv,k _ _ _ _ k1 g1 rv q⟩
def Vc(K:au):List U->az->bH->Prop:=fun us A Q=>∃a C dx fs c b,us=[.ref a,c]/\A a=some (oX C dx)/\A dx=some (fM fs)/\o_ K C /\
 ((∃D,c=.ref D/\PySem.W.kitOne K (.ref C) (.ref D)=some b)\/(∃T,c=.ty T/\PySem.W.kitOne K (.ref C) (.type T)=some b)\/∃cs:List Addr,c=.tup (cs.map U.ref)/\kitAny K (.ref C) (cs.map Value.ref)=some b)/\Q (.bl b) A
def yr : hZ K (Ny K) (Vc K):=fun xs us A H Q' Q r g h k=>by
 obtain⟨a,C,dx,fs,c,b,rfl,h1,h2,h3,hc,q⟩:=h
 cases r with
 | cons r1 r=>cases r with
  | @cons _ v _ _ r2 r =>
   cases r;cases r1
   obtain⟨_,q1,_⟩:=g a _ h1
   obtain⟨_,⟨gs,q2,rf⟩,_⟩:=g dx _ h2
   refine⟨a,C,dx,gs,v,b,rfl,q1,q2,h3,?_,k _ _ _ _ (.refl H) g (.bl b) q⟩
   rcases hc with⟨D,rfl,hc⟩|⟨T,rfl,hc⟩|⟨cs,rfl,hc⟩
   .cases r2;exact .inl ⟨D,rfl,hc⟩
   .cases r2;exact .inr (.inl ⟨T,rfl,hc⟩)
   .cases r2 with
    | tup ht hs =>
     have:=hs.refs
     subst this
     exact .inr (.inr ⟨_,cs,rfl,ht,hc⟩)
end
section
def Inv.ig(I:Inv X pins σ H s)(hn:H a=none)(nw:vF X pins a)(ho:s.heap.get? a=some ob)(h2:ob.cls=.ref C)(h3:ob.dict=some dx)(hd:ob.data=.fields vs):Inv X pins σ (upd H a (XT a C dx)) s:=by
 have ne:∀b o,H b=some o->b≠a:=fun b o h e=>by rw[e,hn]at h;cases h
 have kp:∀b o,H b=some o->upd H a (XT a C dx) b=some o:=fun b o h=>by rw[Zs (ne b o h)];exact h
 have u:=I.base;have nL:X.env.locals≠a:=fun e=>by
  obtain⟨m,⟨o',es,ep,gQ,rr⟩,_⟩:=I.loc;rw[e,ho]at gQ;cases gQ;rw[rr.1]at hd;cases hd
 have nC:∀x c,X.env.cells.lookup x=some c->c≠a:=fun x c hc e=>by
  obtain⟨v,o',gQ,hv⟩:=I.cell x c hc;rw[e,ho]at gQ;cases gQ;rw[hv]at hd;cases hd
 refine⟨I.ok,I.os,I.bare,⟨u.keep,u.slot,fun b o x y z=>?_,u.there,fun b xs z=>kp b _ (u.bK b xs z),fun b o v z=>kp b _ (u.cE b o v z),fun b ps z=>?_⟩,I.loc,I.cell,by rw[Zs nL];exact I.free,fun x c z=>by rw[Zs (nC x c z)];exact I.bw x c z,fun p hp=>?_,fun c v hc=>?_,I.len⟩
 .rw[Zs fun e=>absurd (Ym x) (by rw[e];exact Nat.not_lt.mpr nw.1)];exact u.free b o x y z
 .obtain⟨m,y⟩:=u.dG b ps z;exact⟨m,kp b _ y⟩
 .obtain⟨p1,p2,p3⟩:=I.pin p hp;exact⟨p1,by rw[Zs (nw.2 p hp)];exact p2,p3⟩
 .by_cases e:c=a
  .subst e;rw[ZC]at hc;cases hc;exact XT.ok ho h2 h3 hd
  .rw[Zs e]at hc;exact(I.aG c v hc).dF (fun _ _ _ z=>z) (fun b z=>kp b _ z) fun b xs z=>kp b _ z
def BJ(I:Inv X pins σ H s)(hN:X.N.Nodup)(hi:X.N[i]? = some x)(hk:X.env.kindOf x=some .local)(h:∀s',Inv X pins (σ.set i none) H s'->Q () s'):wpAny M A (do bindName X.env x .none;unbindBehindTheSuite X.env x pos) Q E s:=by
 obtain⟨m,hn,hl⟩:=id I.loc;have rG:(X.env.scope.kind==.class||(X.env.scope.kind==.module&&X.env.locals != X.env.globals))=false:=by rw[I.ok.kind];rfl
 have n9:i<σ.length:=by rw[I.len];exact(Yh.mp hi).1
 have lJ:=I.lJ;refine wpAny_nameGoes_keeps hk hn rG fun h' v uM hs=>?_;obtain⟨oL,_,_,m9,_⟩:=id hn;refine h _ ⟨I.ok,I.os,I.bare,⟨fun b o e n hb hx=>(hs.2 b (Yn (YJ (Ym e) I.ok.above))).trans (I.base.keep b o e n hb hx),fun b o e n hb hx=>?_,I.base.free,fun b o e hx=>?_,I.base.bK,I.base.cE,I.base.dG⟩,⟨_,uM,fun j y v' e1 e2 e3=>?_⟩,fun y c e=>?_,I.free,I.bw,fun p hp=>?_,fun b ob e=>?_,by simpa using I.len⟩
 .obtain⟨sl,e1⟩:=I.base.slot b o e n hb hx;exact⟨sl,(hs.2 b (Yn (YJ (Ym e) I.ok.above))).trans e1⟩
 .obtain⟨o',e1⟩:=I.base.there b o e hx;exact⟨o',(hs.2 b (Yn (YJ (Ym e) I.ok.above))).trans e1⟩
 .by_cases hj:j=i
  .subst hj;rw[zG n9]at e2;cases e2
  .rw[zK (Ne.symm hj)]at e2;obtain⟨u',r',q⟩:=hl j y v' e1 e2 e3;refine⟨u',r',?_⟩;rcases q with⟨k,e⟩|⟨k,c,e,z⟩
   .refine .inl ⟨k,?_⟩;have:y≠x:=fun e=>hj (jU hN e1 (e▸hi));simp[this,e]
   .exact .inr ⟨k,c,e,z.sameBut hs (lJ y c e)⟩
 .obtain⟨w',z⟩:=I.cell y c e;exact⟨w',z.sameBut hs (lJ y c e)⟩
 .obtain⟨e,n,ne,nf,d⟩:=I.pin p hp;exact⟨(hs.2 p.1 ne).trans e,n,ne,nf,d⟩
 .refine(I.aG b ob e).dF (fun c w' hc q=>(hs.2 c ?_).trans q) (fun _ q=>q) fun _ _ q=>q;rintro rfl;rcases hc with rfl|hc
  .rw[I.free]at e;cases e
  .rw[I.free]at hc;cases hc
end
def kM.bS(D:kM)(j:Nat):kM:={ nx:=fun σ H=>D.nx (σ.set j none) H,rt:=D.rt,bk:=fun σ H=>D.bk (σ.set j none) H,ct:=fun σ H=>D.ct (σ.set j none) H }
section
def SP.bS(hN:X.N.Nodup)(hj:X.N[j]? = some n)(hk:X.env.kindOf n=some .local)(h:SP X pins (Dn.bS j) fl s'):
  wpAny M A (do bindName X.env n .none;unbindBehindTheSuite X.env n hp) (fun _ s5=>SP X pins Dn fl s5) E s':=by
 cases fl with
 | next=>obtain⟨aU,H',I,q⟩:=h;exact BJ I hN hj hk fun s5 I5=>⟨_,H',I5,q⟩
 | brk=>obtain⟨aU,H',I,q⟩:=h;exact BJ I hN hj hk fun s5 I5=>⟨_,H',I5,q⟩
 | cont=>obtain⟨aU,H',I,q⟩:=h;exact BJ I hN hj hk fun s5 I5=>⟨_,H',I5,q⟩
 | ret u=>obtain⟨v,aU,H',I,r,q⟩:=h;exact BJ I hN hj hk fun s5 I5=>⟨v,_,H',I5,r,q⟩
end
def oO.bS(D:oO)(j:Nat):oO:={ nx:=fun ρ A=>D.nx (ρ.set j none) A,rt:=D.rt,bk:=fun ρ A=>D.bk (ρ.set j none) A,ct:=fun ρ A=>D.ct (ρ.set j none) A }
section
variable{K:au}
def aX.unset:∀ {ρ:a8} {σ:St} (i:Nat),aX K H ρ σ->aX K H (ρ.set i none) (σ.set i none)
 | _,_,_,.nil=>.nil
 | _,_,0,.skip r=>.skip r
 | _,_,i+1,.skip r=>.skip (aX.unset i r)
 | _,_,0,.cons h r=>.skip r
 | _,_,i+1,.cons h r=>.cons h (aX.unset i r)
def oP.bS(h:oP K H D' D)(j:Nat):oP K H (D'.bS j) (D.bS j) :=
 ⟨fun _ _ _ _ k g r q=>h.nx _ _ _ _ k g (aX.unset j r) q,h.rt,fun _ _ _ _ k g r q=>h.bk _ _ _ _ k g (aX.unset j r) q,fun _ _ _ _ k g r q=>h.ct _ _ _ _ k g (aX.unset j r) q⟩
def HR.newX(g:HR K H A)(hd:H dx=some (.xd gs))(r:cj K H fs gs)(ha:H a=Option.none):HR K (upd H a (XT a C dx)) (af (af A dx (fM fs)) a (oX C dx)):=by
 have g1:HR K H (af A dx (fM fs)):=fun b o e=>by
  by_cases h:b=dx
  .subst h;rw[Zd]at e;cases e;exact Vb hd r
  .rw[Zn h]at e;exact g b o e
 exact g1.dO (ba.aA ha).kp (Va ZC)
def Zqx{D:oO}:D.bS j={ nx:=fun ρ A=>D.nx (ρ.set j none) A,rt:=D.rt,bk:=fun ρ A=>D.bk (ρ.set j none) A,ct:=fun ρ A=>D.ct (ρ.set j none) A }:=rfl
def Zq5:Nz K ae f ρ A Q=ae ρ A fun x A1=>∃a C dx fs u,x=.ref a/\A1 a=some (oX C dx)/\A1 dx=some (fM fs)/\o_ K C/\fW K C f/\fs.lookup f=some u/\Q u A1:=rfl
end
abbrev yt:=kM->St->Hp->XK->Prop
def FP(X:Cx)(yu:List Stmt)(t:yt):Prop :=
 ∀(pins:List (Addr×Obj))(s:Shared)(σ:St)(H:Hp)(D:kM)(E:XK),Inv X pins σ H s->t D σ H E->wpAny (model X.prog X.w) X.A (execs yu X.env) (SP X pins D) (XE X pins σ E) s
def NA(tx:TX):yt:=fun D σ H E=>tx σ H (fun _ H'=>D.nx σ H') E
def NB(K:au)(D:Addr)(j:Nat)(tb:yt)(th:TS):TS:=fun Dn σ H=>tb Dn σ H fun c sR H'=>∃C dx,c=.ref C/\sR=some dx/\jD K C D true /\
 ∀a,H' a=none->th (Dn.bS j) (σ.set j (some (.ref a))) (upd H' a (XT a C dx))
section
def NC(he:Nj X e tx)(hs:swapsWith e none pos.line X.env=pure false:=by rfl):FP X [.Expr e pos] (NA tx):=by
 intro pins s σ H D E I h;exact CO (wpAny_Expr_any (aM (he pins s σ H _ E I h) fun v s1 ⟨x,H1,I1,r1,q1⟩=>rq ⟨σ,H1,I1,q1⟩) I.quiet hs)
def Vd(B:nJ X)(hN:X.N.Nodup)(hj:X.N[j]? = some n)(hk:X.env.kindOf n=some .local)(hb:FP X yu tb)(hg:Gl X x)(hm:X.mg x=some (.ref D))(FQ:∀a,dW (X.jF a) (b0::su) th)(cR:(x==("__debug__":Str))=false:=by decide):
  PS X (.Try yu [.ExceptHandler (some (.Name x px)) (some n) (b0::su) hp] [] [] pos) (NB X.K D j tb th):=by
 intro pins s σ H Dn I h;refine wpAny_Try_except (YH (hb pins s σ H _ _ I h) (fun fl s1 q1=>?_) fun ev s1 hx=>?_)
 .cases fl with
  | next=>exact rq q1
  | brk=>exact q1
  | cont=>exact q1
  | ret u=>exact q1
 .obtain⟨H1,s0,I0,a,H',rfl,gY,FT,u,aG,f⟩:=hx;have I1:=I0.jk (ch:=[]) gY u aG FT fun b hb=>absurd hb (by simp);have f1:k_ X pins σ _ False (yl X) a s1:=⟨H',I1,f.weak (fun b hb=>I0.mx hb) (fun z=>z) fun v hv=>.inl hv⟩;refine BD B f1 fun s2 f2=>vH B f2 fun s3 f3=>?_;have ND:=f3;obtain⟨H3,I3,C,dx,ob,vs,g1,g2,g3,g4,g5,g6,st,C',NF,ec,ed,kL,q⟩:=f3;cases ec;cases ed;refine M4 (C:=C) (lK (X:=X.jF a) I3.jF hg hm ⟨rfl,⟨ob,g3,g4⟩,kL.at I3.bo,vH B ND fun s4 f4=>?_⟩ cR);obtain⟨H4,I4,C4,Ve,Vf,Vg,n4,yw,o4,c4,d4,w4,_,Vh,FU,FV,FW,_,q⟩:=f4;cases FV;cases FW;have I5:=I4.ig yw n4 o4 c4 d4 w4;exact z7 (v:=.ref a) I5 hN hj (.inl hk) rfl (fun s5 I6=>YH (FQ a pins s5 _ _ (Dn.bS j) I6.jF (q a yw)) (fun f s' z=>(z.eH I.ok).bS hN hj hk) fun _ _ z=>False.elim z) (.inr hk)
end
abbrev BK:=oO->a8->az->my->Prop
def FX(K:au)(tb:yt)(ab:BK):Prop:=∀ρ A σ H D' X' D E,aX K H ρ σ->HR K H A->ab D' ρ A X'->oP K H D' D->mz K H X' E->tb D σ H E
def NG(ax:AX):BK:=fun D ρ A X'=>ax ρ A (fun _ A'=>D.nx ρ A') X'
def NH(K:au)(D:Addr)(j:Nat)(ab:BK)(ah:AS):AS:=fun Dn ρ A=>ab Dn ρ A fun C fs A'=>jD K C D true /\
 ∀a dx,A' a=none->A' dx=none->a≠dx->ah (Dn.bS j) (ρ.set j (some (.ref a))) (af (af A' dx (fM fs)) a (oX C dx))
section
variable{K:au}
def NI(hx:Nk K tx ax):FX K (NA tx) (NG ax):=fun ρ A σ H D' X' D E hs g w k kx =>
 hx ρ A σ H _ _ _ _ hs g w (fun u A' v H' k' g' r' q=>k.nx _ _ _ _ k' g' (hs.same k') q) kx
def Vi(hx:FX K tb ab)(hh:c6 K th ah):c6 K (NB K D j tb th) (NH K D j ab ah):=fun ρ A σ H D' Dn hs g w k =>
 hx ρ A σ H _ _ _ _ hs g w k fun C dx fs gs A' H' k' g' n' d' rf ⟨c,q⟩=>⟨C,dx,rfl,rfl,c,fun a ha=>by
  have aR:a≠dx:=fun e=>by rw[e,d']at ha;cases ha
  have sm:=ba.aA (o:=XT a C dx) ha
  have k2:=k'.trans (sm.kp (K:=K))
  exact hh _ _ _ _ _ _ (aX.set (.ref a) j (hs.same k2)) (g'.newX d' rf ha) (q a dx (g'.none ha) n' aR) ((k.same k2).bS j)⟩
def Zte:NG ax Dn ρ A X'=ax ρ A (fun _ A'=>Dn.nx ρ A') X':=rfl
def Zqa:NH K D j ab ah Dn ρ A=(ab Dn ρ A fun C fs A'=>jD K C D true /\
 ∀a dx,A' a=none->A' dx=none->a≠dx->ah (Dn.bS j) (ρ.set j (some (.ref a))) (af (af A' dx (fM fs)) a (oX C dx))):=rfl
end
def BL:V->Prop:=fun v=>∃z:Str,v=.str z/\z.length<=1000
def Vj:U->Prop:=fun u=>∃z:Str,u=.str z/\z.length<=1000
def Vk{K:au}(u:U)(v:V)(H:Hp)(r:RU K H u v)(h:Vj u):BL v:=by
 obtain⟨n,rfl,h⟩:=h;cases r;exact⟨n,rfl,h⟩
def Vl(h1:t1.length<=4000)(h2:t2.length<=4000)(y v:V)(H:Hp)(Q:VK)(hv:BL v)(q:∀z,Q (.str z) H):LS (Bi (tC (.str t1)) (Bi (LR (m_ 1)) (Bi (tC (.str t2)) LQ))) [some y,some v] H Q:=by
 obtain⟨z,rfl,hz⟩:=hv;have L:∀ {z:Str},z.length<=13000->z.length<=sizeLine:=fun h=>YE h (by rw[gA];decide);have e0:Str.empty.length=0:=rfl;refine⟨_,rfl,L (by rw[Str.length_append];lia),_,rfl,z,rfl,L (by lia),_,rfl,L (by rw[Str.length_append,Str.length_append];lia),_,rfl,L (by rw[Str.length_append,Str.length_append,Str.length_append];lia),L (by rw[Str.length_append,Str.length_append,Str.length_append];lia),q _⟩
section
variable{K:au}
def Vm{st:Stmt}(X:qJ K C g)(n:fW K C fl)(hp:ps.length=2)(hN:N=ps)(hf:∀ (y v:V) (H:Hp) (Q:VK),okV v->(∀ z,Q (.str z) H)->tf [some y,some v] H Q)(h : ∀ bg A outer s H E,bV 0 (A.deeper (envOfC qual sc s.heap.objs.size f bg))->dW (fo aQ P w K mg base N qual sc f bg A outer s H E).nc (kP st)
   (z9 (z_ (FI K (oz (m_ 0) (oz tf oy)))) (FJ K (m_ 0) (m_ 1) fl)))(Fn:iW K x qual st f fd)(hs:ZQ st=sc)(S:gW N ps (ZQ st)):
  cF P w K mg base aQ 1 f fd ps (FL C fl okV):=by
 have FY:∀a b:V,L2.start N [a,b]=[some a,some b]:=fun a b=>by
  unfold L2.start;rw[hN,hp];rfl
 refine Fn.D1 hs rfl S (fun vs H Q E aF=>by obtain⟨x,v,e,_⟩:=aF;rw[e,hp];rfl) fun _ bg A outer s H vs Q E hr ⟨y,v,e,hv,hx,q⟩=>⟨_,h bg A outer s H E hr,?_⟩;subst e;rw[FY];exact⟨_,rfl,hf (.ref y) v H _ hv fun z=>⟨y,C,g,_,rfl,hx,X,⟨_,rfl,_,rfl,y,C,g,rfl,hx,X,n,fun dx hd aR=>q dx hd aR⟩⟩⟩
end
def Vn(t:SetTable)(es:Array (Int×Value))(h:Int)(x:Value):(layNew t es h x).2.1.led=t.led:=by
 unfold layNew;split
 .dsimp only;unfold SetTable.orStandIn;split
  .rfl
  .rfl
 .rfl
def Vo(t:SetTable)(es:Array (Int×Value))(n:Nat):(relayAll t es n).2.1.led=t.led/\(t.plain=false->(relayAll t es n).2.1.plain=false):=by
 unfold relayAll;split
 .rename_i t' order e;dsimp only;split
  .unfold SetTable.relaid SetTable.laid at e;obtain⟨ow,_,e⟩:=Option.bind_eq_some_iff.mp e;cases e;exact⟨rfl,id⟩
  .exact⟨rfl,fun _=>rfl⟩
 .exact⟨rfl,fun _=>rfl⟩
def cT(P:Program)(w:World)(h:Heap)(a:Addr)(ks:List Str):Prop :=
 ∃o es ep t,h.get? a=some o/\o.ExactSet/\o.data=.set es ep t/\ElemsOf (strKind P w) es.toList/\(∃l:List (Str×Tok),es.toList.map (·.2)=strValues l/\(l.map (·.1)).Perm ks)/\es.size<scanBound/\t.fits es.size=true /\
  (w.params.followText "set-order"=true\/t.led=true)/\(es.size=0\/t.plain=false)
variable{P:Program}{w:World}{A:Around}{E:Value->Shared->Prop}{s:Shared}{a:Addr}{ks:List Str}{h:Heap}
def NJ:Value.isStrOf z (.str x tk)=decide (x=z):=by
 show(x==z)=_;by_cases e:x=z<;>simp[e]
def cT.typeIs(hS:cT P w s.heap a ks):s.TypeIs (.ref a) "set":=let⟨o,_,_,_,e,x,_⟩:=hS;⟨o,e,x.1⟩
def FZ{es:List (Int×Value)}(h:es.map (·.2)=strValues l)(z:Str):(∃e∈es,Value.isStrOf z e.2=true)↔z∈l.map (·.1):=by
 constructor
 .rintro⟨e,he,hz⟩;have h1:e.2∈strValues l:=h▸List.mem_map_of_mem he;obtain⟨p,hp,e2⟩:=YS.mp h1;rw[<- e2,NJ,zP]at hz;exact YS.mpr ⟨p,hp,hz⟩
 .intro hz;obtain⟨p,hp,rfl⟩:=YS.mp hz;have h1:Value.str p.1 p.2∈es.map (·.2):=h▸YS.mpr ⟨p,hp,rfl⟩;obtain⟨e,he,e2⟩:=YS.mp h1;exact⟨e,he,by rw[e2,NJ];exact YA rfl⟩
def F0{es es':List (Int×Value)}(h:es.map (·.2)=strValues l)(p:es'.Perm es):∃l',es'.map (·.2)=strValues l'/\l'.Perm l:=by
 induction p generalizing l with
 | nil=>cases l with
  | nil=>exact⟨[],rfl,.nil⟩
  | cons=>cases h
 | @cons x l1 l2 p ih=>cases l with
  | nil=>cases h
  | cons y l =>
   injection h with h1 h2
   obtain⟨l',e,q⟩:=ih h2;exact⟨y::l',by rw[Yr,e,show x.2=Value.str y.1 y.2 from h1];rfl,q.cons y⟩
 | @swap x y l1=>cases l with
  | nil=>cases h
  | cons u l=>cases l with
   | nil=>injection h with h1 h2;cases h2
   | cons v l =>
    injection h with h1 h2
    injection h2 with h2 h3
    exact⟨v::u::l,by rw[Yr,Yr,show x.2=Value.str u.1 u.2 from h1,show y.2=Value.str v.1 v.2 from h2,h3];rfl,.swap ..⟩
 | trans p q pd pe =>
  obtain⟨l1,e1,q1⟩:=pe h;obtain⟨l2,e2,q2⟩:=pd e1;exact⟨l2,e2,q2.trans q1⟩
def NK(ho:h.get? a=some o)(hd:o.data=.set es ep t):
  (h.update a (Obj.putSet es' t')).get? a=some { o with data:=.set es' (ep+1) t' }:=by
 rw[<- putSet_of es' t' hd];exact YB _ ho (by rw[putSet_of es' t' hd];rfl)
def NL{g:Bool->Sem Unit}(hg:∀b s1 Q1,Q1 () s1->wpAny (model P w) A (g b) Q1 E s1)(ho:s.heap.get? a=some o)(hx:o.ExactSet)(hd:o.data=.set es ep t)(he:ElemsOf (strKind P w) dE.toList)(hl:dE.toList.map (·.2)=strValues l)(hp:(l.map (·.1)).Perm gM)(hb:dE.size<scanBound)(hf:t2.fits dE.size=true)(h1:w.params.followText "set-order"=true\/t2.led=true)(h2:t2.plain=false)(k:∀h',Heap.SameBut a s.heap h'->cT P w h' a gM->R (some true) { s with heap:=h' }):
  wpAny (model P w) A (do
   storeSet a dE t2
   if(!dm&&t2.tooFull)=true then do
     g (relayAll t2 dE (SetTable.grown dE.size)).2.2
     storeSet a (relayAll t2 dE (SetTable.grown dE.size)).1 (relayAll t2 dE (SetTable.grown dE.size)).2.1
     pure (some true)
    else pure (some true)) R E s:=by
 refine Yb (wpAny_storeSet_of ho hd ?_ (fits_of_scanBound hb));have g1:=NK (es':=dE) (t':=t2) ho hd;have sb:=lD s.heap a (Obj.putSet dE t2);split
 .have pr:=relayAll_perm t2 dE (SetTable.grown dE.size);have fr:=relayAll_fits t2 dE (SetTable.grown dE.size);obtain⟨le,pl⟩:=Vo t2 dE (SetTable.grown dE.size);generalize relayAll t2 dE (SetTable.grown dE.size)=Z at pr fr le pl ⊢;obtain⟨NM,t3,gv⟩:=Z;dsimp only at pr fr le pl ⊢;have sz:NM.size=dE.size:=by rw[<- Array.length_toList,pr.length_eq,Array.length_toList]
  obtain⟨l2,e2,p2⟩:=F0 hl pr;refine Yb (hg _ _ _ (Yb (wpAny_storeSet_of g1 rfl (Yd (k _ (sb.trans (lD _ a _)) ?_)) (fits_of_scanBound (sz▸hb)))));exact⟨_,NM,_,t3,NK g1 rfl,hx,rfl,he.perm pr,⟨l2,e2,(p2.map _).trans hp⟩,sz▸hb,fr,by rw[le];exact h1,.inr (pl h2)⟩
 .exact Yd (k _ sb ⟨_,dE,_,t2,g1,hx,rfl,he,⟨l,hl,hp⟩,hb,hf,h1,.inr h2⟩)
def fO(ks:List Str)(z:Str):List Str:=if z∈ks then ks else ks++[z]
def NN(hS:cT P w s.heap a ks)(hr:ks.length+1<scanBound)(k:∀h' b,Heap.SameBut a s.heap h'->cT P w h' a (fO ks z)->Q b { s with heap:=h' }):
  wpAny (model P w) A (setAddHashed a (.str z tk) ((strKind P w).hash z)) Q E s:=by
 obtain⟨o,es,ep,t,ho,hx,hd,he,⟨l,hl,hp⟩,hb,hf,h1,h2⟩:=hS;have ot:(strKind P w).is z (.str z tk)=true:=strKind_is P w z tk;have hsz:es.size=ks.length:=by
  have:=congrArg List.length hl;rw[Yc,Array.length_toList]at this;rw[this,strValues,Yc,<- Yc (f:=(·.1)),hp.length_eq]
 unfold setAddHashed setAddHashedIn;refine YT (Yb (wpAny_setState_of ho hd hf ?_));dsimp only;rw[byScan_of (knd:=strKind P w) (x:=.str z tk) rfl hb he];simp only[↓reduceIte];unfold setAddByScan;refine Yb (Yb (qc (Yb (wpAny_setScan_of ot ho hd hf he ?_))));cases hq:List.findIdx? (fun e=>(strKind P w).is z e.2) es.toList with
 | some j =>
  dsimp only;obtain⟨hj,Vp,_⟩:=List.findIdx?_eq_some_iff_getElem.mp hq;have hz:z∈ks:=hp.mem_iff.mp ((FZ hl z).mp ⟨_,uI hj,Vp⟩);refine Yd (Yd ?_);have:=k s.heap false (Heap.SameBut.refl a s.heap) (by unfold fO;rw[if_pos hz];exact⟨o,es,ep,t,ho,hx,hd,he,⟨l,hl,hp⟩,hb,hf,h1,h2⟩);exact this
 | none =>
  dsimp only;have hz:z∉ks:=fun m=>by
   obtain⟨e,me,hh⟩:=(FZ hl z).mpr (hp.mem_iff.mpr m);have:=List.findIdx?_eq_none_iff.mp hq e me;rw[show(strKind P w).is z e.2=true from hh]at this;cases this
  have pm:=layNew_perm t es ((strKind P w).hash z) (.str z tk);have ft:=layNew_fits t es ((strKind P w).hash z) (.str z tk);have ld:=Vn t es ((strKind P w).hash z) (.str z tk);generalize layNew t es ((strKind P w).hash z) (.str z tk)=L at pm ft ld ⊢;obtain⟨dE,t1,dm,gv⟩:=L;dsimp only at pm ft ld ⊢;rw[Array.toList_push]at pm;have kf:dE.size=es.size+1:=by rw[<- Array.length_toList,pm.length_eq,Yt,Array.length_toList];rfl
  have cB:(es.toList++[((strKind P w).hash z,Value.str z tk)]).map (·.2)=strValues (l++[(z,tk)]):=by rw[Ys,hl];simp[strValues]
  obtain⟨l1,e1,q1⟩:=F0 cB pm;have q2:(l1.map (·.1)).Perm (fO ks z):=by
   refine(q1.map _).trans ?_;unfold fO;rw[if_neg hz,Ys];exact hp.append_right _
  have NO:dE.size<scanBound:=by rw[kf,hsz];exact hr
  have qG:ElemsOf (strKind P w) dE.toList:=(he.push ot rfl).perm pm;have gw:∀(b:Bool)(s1:Shared)(Q1:Unit->Shared->Prop),Q1 () s1->wpAny (model P w) A (match b with|true=>rule "set.scan.the-table-gave-way" | false=>pure ()) Q1 E s1:=fun b s1 Q1 q=>by
   cases b
   .exact Yd q
   .exact qc q
  refine Yb (gw _ _ _ ?_);split
  .refine Yb ?_;rw[hashByValue_scannable 8 rfl];refine Yd ?_;refine NL (P:=P) (w:=w) (fun b s1 Q1 q=>gw b s1 Q1 q) ho hx hd qG e1 q2 NO (SetTable.fits_plain_off ft) (by rcases h1 with h1|h1;exact .inl h1;exact .inr (ld.trans h1)) rfl fun h' sb lb=>?_;exact Yd (k h' true sb lb)
  .rename_i bx;refine Yb (Yd ?_);simp only[↓reduceIte];refine NL (P:=P) (w:=w) (fun b s1 Q1 q=>gw b s1 Q1 q) ho hx hd qG e1 q2 NO ft (by rcases h1 with h1|h1;exact .inl h1;exact .inr (ld.trans h1)) (by simpa using bx) fun h' sb lb=>?_;exact Yd (k h' true sb lb)
def Vq(hS:cT P w s.heap a ks)(hr:ks.length+1<scanBound)(k:∀h',Heap.SameBut a s.heap h'->cT P w h' a (fO ks z)->Q .none { s with heap:=h',toks:=s.toks+1 }):
  wpAny (model P w) A (call (.builtin "set.add") [.ref a,.str z tk]) Q E s:=by
 refine YZ F.slot_set_add hS.typeIs F.entry_set_add ?_ (F.args_set_add_2 _ _);unfold Builtin.«set.add» Builtin.Frozenset.oneOther;simp only[List.isEmpty_nil,bind_assoc];unfold Builtin.Frozenset.addrOf setAdd;refine Yb (Yd (Yb (Yd (Yb (YT (Yb ((strKind P w).pyHash (strKind_is P w z tk) ?_)))))));exact NN (s:={ s with toks:=s.toks+1 }) hS hr fun h' b sb lb=>Yd ⟨_,rfl,k h' sb lb⟩
abbrev i6(w:World):Obj:={ cls:=.type "set",dict:=none,data:=.set #[] 0 (.fresh 0 0 (!w.params.followText "set-order")) }
variable{P:Program}{w:World}{A:Around}{E:Value->Shared->Prop}{s:Shared}{a:Addr}{ks:List Str}{h:Heap}
def NP(e:h.get? a=some (i6 w)):cT P w h a []:=by
 refine⟨_,#[],0,_,e,⟨rfl,rfl,rfl⟩,rfl,fun x hx=>absurd hx (by simp),⟨[],rfl,.nil⟩,by decide,?_,?_,.inl rfl⟩
 .cases w.params.followText "set-order" <;> rfl
 .cases e:w.params.followText "set-order"
  .exact .inr rfl
  .exact .inl rfl
def NQ(hc:checkBuiltinCall "set.__new__" ⟨.type "set"::r,[]⟩=pure ())(k:Q1 (.ref s.heap.objs.size) { s with heap:=s.heap.push (i6 w) }):
  codeAny (model P w) A (.call (.builtin "set.__new__") ⟨.type "set"::r,[]⟩) (wants Q1 E) s:=by
 refine codeAny_of_tree ?_;show wpAny _ A.in1 (do
             checkBuiltinCall "set.__new__" ⟨.type "set"::r,[]⟩;again (.builtin "set.__new__" ⟨.type "set"::r,[]⟩)) _ _ s
 refine Yb (wy hc (Yd ⟨m8 F.plain_set_new _,m5 F.entry_set_new ?_⟩));rw[pX F.plain_set_new _];unfold Builtin.«set.__new__» Builtin.Frozenset.newClass;have sb:=sub_set_self;obtain⟨hp,g,d,tk,os⟩:=s;dsimp only;wp_walk;refine wpAny_askSetting (Yd ?_);dsimp only;simp only[newObj];exact Yb (wpAny_alloc (Yd (Yd k)))
def Vr(k:Q (.ref s.heap.objs.size) { s with heap:=s.heap.push (i6 w) }):wpAny (model P w) A (call (.type "set") []) Q E s:=by
 obtain⟨c,tl,F1⟩:=F.called_set.mro;have q1:=F.called_set.made;have q2:=F.called_set.sub;refine kJ (codeAny_of_tree ?_);show wpAny _ _ (callAny (.type "set") ⟨[],[]⟩) _ _ _;refine Yd ⟨Code.quiet_builtin _ (by decide +kernel),m5 F.entry_type_call ?_⟩;rw[Around.under_plain (weight_type_call_type "set" [] []) rfl];have q3:=F.called_set.notType;have q4:=F.called_set.canCreate;have q5:=F.typeCall_set_0;repeat (any_goals (first|assumption|wp_step))
 refine kI (NQ (P:=P) (w:=w) (r:=[]) (E:=E) (Q1:=fun ob s1=>ob=.ref s.heap.objs.size/\s1={ s with heap:=s.heap.push (i6 w) }) F.newCall_set_0 ⟨rfl,rfl⟩) fun r s1 hr=>?_;cases r with
 | error e=>exact hr
 | ok fl =>
  cases fl with
  | ret ob =>
   obtain⟨rfl,rfl⟩:=hr;have hT:Shared.TypeIs { s with heap:=s.heap.push (i6 w) } (.ref s.heap.objs.size) "set":=⟨_,Yl _ rfl,rfl⟩;have q6:=F.called_set.init.lookup;have q7:=F.called_set.init.bind (.ref s.heap.objs.size);have hS:(s.heap.push (i6 w)).get? s.heap.objs.size=some (i6 w):=Yl _ rfl;repeat (any_goals (first|assumption|wp_step))
   refine kI (codeAny_call_builtin (R:=wants (fun r s2=>r=.none/\Q (.ref s.heap.objs.size) s2) E) F.called_set.init.plain F.entry_set_init (check_set_init hT ?_)) fun r2 s2 sS=>?_
   .unfold Builtin.«set.__init__» noKeywords;wp_walk;exact⟨rfl,k⟩
   .cases r2 with
    | error e=>exact sS
    | ok f2 =>
     cases f2 with
     | ret r =>
      obtain⟨rfl,hq⟩:=sS;repeat (any_goals (first|assumption|wp_step))
     | _=>exact sS.elim
  | _=>exact hr.elim
def NR(ks:List Str)(z:Str):(fO ks z).length<=ks.length+1:=by unfold fO;split<;>simp
def ij(zs:List Str)(i:Nat):List Str:=(zs.take i).foldl fO []
theorem BM(zs:List Str):∀i,(ij zs i).length<=i
 | 0=>by simp[ij]
 | i+1=>by
  unfold ij
  rcases Nat.lt_or_ge i zs.length with h|h
  .rw[List.take_succ_eq_append_getElem h,List.foldl_append]
   exact YE (NR _ _) (Nat.succ_le_succ (BM zs i))
  .rw[nV (by lia),<- nV h]
   exact Nat.le_succ_of_le (BM zs i)
def NS(h:zs[i]? = some z):ij zs (i+1)=fO (ij zs i) z:=by
 obtain⟨hl,e⟩:=Yh.mp h;unfold ij;rw[List.take_succ_eq_append_getElem hl,List.foldl_append,e];rfl
section
variable{St:Nat->Shared->Prop}
def cT.moved(hS:cT P w s.heap a ks)(hm:Moved wr G s s')(hn:a∉wr):cT P w s'.heap a ks:=by
 obtain⟨o,es,ep,t,ho,r⟩:=hS;exact⟨o,es,ep,t,hm.heap a _ hn ho,r⟩
def Vs(W:WalksS P w A.in1 I fp wr G n Pv St)(S:Addr)(hf:S∉fp)(zs:List Str)(hz:zs.length=n)(hv:∀i v,Pv i v->∃z t,zs[i]? = some z/\v=.str z t)(hb:n+1<scanBound):
  ∀(k i:Nat)(s:Shared),n-i=k->i<=n->St i s->cT P w s.heap S (ij zs i)->(∀s',Moved (S::wr) G s s'->cT P w s'.heap S (ij zs n)->R (.ok (.ret .none)) s') ->
   codeAny (model P w) A (.builtin "set.update.loop" ⟨[.ref S,.ref I],[]⟩) R s:=by
 have hw:S∉wr:=fun x=>hf (W.sub _ x);have su:∀b∈wr,b∈S::wr:=fun b x=>m3 _ x;intro k;induction k with
 | zero =>
  intro i s hk hi st hS hR;obtain rfl:i=n:=by lia
  refine m5 F.entry_set_update_loop ?_;rw[pX F.plain_set_update_loop _];show wpAny _ A.in1 (pyNext (.ref I)>>=_) _ _ s;exact Yb (W.done s _ _ st fun s' hm=>Yd (hR s' (hm.mono su) (hS.moved hm hw)))
 | succ k ih =>
  intro i s hk hi st hS hR;have lt:i<n:=by lia
  refine m5 F.entry_set_update_loop ?_;rw[pX F.plain_set_update_loop _];show wpAny _ A.in1 (pyNext (.ref I)>>=_) _ _ s;refine Yb (W.item i s _ _ lt st fun v s' pv fb hm=>?_);obtain⟨z,t,ez,rfl⟩:=hv i v pv;have hl:=BM zs i;have jC:=hS.moved hm hw;refine Yb (YT ?_);unfold setAdd;refine YT (Yb ((strKind P w).pyHash (strKind_is P w z t) ?_));refine NN (s:={ s' with toks:=s'.toks+1 }) jC (by lia) fun h' b sb nH=>?_;rw[<- NS ez]at nH;refine Yd ⟨m8 F.plain_set_update_loop _,ih (i+1) _ (by lia) lt (W.frame _ s' _ _ fb (fT _) fun b hb o e=>?_) nH fun s2 hm2 Fv=>?_⟩
  .rw[sb.2 b (fun x:b=S=>hf (x▸hb))];exact e
  .refine hR s2 (Moved.trans W.gtrans ((hm.mono su).then_heap (fT _) fun b o hb e=>?_) hm2) Fv;rw[sb.2 b (fun x:b=S=>hb (x▸lE))];exact e
end
variable{P:Program}{w:World}{A:Around}{E:Value->Shared->Prop}{s:Shared}{a:Addr}{ks:List Str}{h:Heap}
def Vt(hh:A.handled=none)(hl:s.heap.IsList l its)(hv:∀(i:Nat)(v:Value),its[i]? = some v->∃z t,zs[i]? = some z/\v=.str z t)(hz:zs.length=its.size)(hb:its.size+1<scanBound)(k:∀(h':Heap)(tk:Nat),s.toks<=tk->cT P w h' s.heap.objs.size (ij zs its.size)->(∀b o,b<s.heap.objs.size->s.heap.get? b=some o->h'.get? b=some o)->Q (.ref s.heap.objs.size) { s with heap:=h',toks:=tk }):
  wpAny (model P w) A (call (.type "set") [.ref l]) Q E s:=by
 obtain⟨c,tl,F1⟩:=F.called_set.mro;have q1:=F.called_set.made;have q2:=F.called_set.sub;refine kJ (codeAny_of_tree ?_);show wpAny _ _ (callAny (.type "set") ⟨[.ref l],[]⟩) _ _ _;refine Yd ⟨Code.quiet_builtin _ (by decide +kernel),m5 F.entry_type_call ?_⟩;rw[Around.under_plain (weight_type_call_type "set" [.ref l] []) rfl];have q3:=F.called_set.notType;have q4:=F.called_set.canCreate;have q5:=F.typeCall_set_1 (.ref l);repeat (any_goals (first|assumption|wp_step))
 refine kI (NQ (P:=P) (w:=w) (r:=[.ref l]) (E:=E) (Q1:=fun ob s1=>ob=.ref s.heap.objs.size/\s1={ s with heap:=s.heap.push (i6 w) }) (F.newCall_set_1 (.ref l)) ⟨rfl,rfl⟩) fun r s1 hr=>?_;cases r with
 | error e=>exact hr
 | ok fl =>
  cases fl with
  | ret ob =>
   obtain⟨rfl,rfl⟩:=hr;have hT:Shared.TypeIs { s with heap:=s.heap.push (i6 w) } (.ref s.heap.objs.size) "set":=⟨_,Yl _ rfl,rfl⟩;have q6:=F.called_set.init.lookup;have q7:=F.called_set.init.bind (.ref s.heap.objs.size);have hS:(s.heap.push (i6 w)).get? s.heap.objs.size=some (i6 w):=Yl _ rfl;repeat (any_goals (first|assumption|wp_step))
   refine kI (codeAny_call_builtin (R:=wants (fun r s2=>r=.none/\∃h' tk,s2={ s with heap:=h',toks:=tk }/\s.toks<=tk/\cT P w h' s.heap.objs.size (ij zs its.size)/\∀b o,b<s.heap.objs.size->s.heap.get? b=some o->h'.get? b=some o) E) F.called_set.init.plain F.entry_set_init (check_set_init_1 hT ?_)) fun r2 s2 sS=>?_
   .obtain⟨ol,gf,i5,nl,qK⟩:=hl;obtain⟨oc,od,UL,os⟩:=ol;simp only at i5 qK;subst i5 qK;have F2:(s.heap.push (i6 w)).get? l=some { cls:=.type "list",dict:=od,data:=.seq its nl,slots:=os }:=Ye _ gf;have z1:=F.sub_list_set;have z2:=F.sub_list_frozenset;have z3:(Value.type "list" == Value.type "dict")=false:=by decide
    have cB:(s.heap.push (i6 w)).IsList l its:=⟨_,F2,rfl,nl,rfl⟩;unfold Builtin.«set.__init__» noKeywords Builtin.Frozenset.updateFrom;generalize Vu:pyIter=PI;wp_walk;subst Vu;refine uG cB (Yb (wpAny_runValue ?_));have lg:l<s.heap.objs.size:=Ym gf;have h3:A.in1.in1.in1.handled=none:=by simp[hh]
    have aR:l≠(s.heap.push (i6 w)).objs.size:=by rw[YL];exact Yn (YV lg)
    have nI:s.heap.objs.size∉[(s.heap.push (i6 w)).objs.size,l]:=by
     rw[YL];simp only[Yo,YG,eZ,not_or];exact⟨Yn (lG _),jR lg⟩
    refine Vs ((wz h3 _ l aR its).toS) s.heap.objs.size nI zs hz hv hb (its.size-0) 0 _ (by lia) (Y0 _) ⟨⟨_,Yl _ rfl,rfl,rfl⟩,cB.push _⟩ (NP (Ye _ hS)) ?_;intro s' hm lb;obtain⟨h',g',d',F3,wM⟩:=s';cases(show g'=s.gens from hm.gens);cases(show d'=s.drawn from hm.drawn);cases(show wM=s.os from hm.os);refine Yd ?_;show wpAny _ _ (ret Value.none) _ _ _;refine Yd ⟨rfl,h',F3,rfl,hm.toks,lb,fun b o hb e=>hm.heap b o ?_ (Ye _ (Ye _ e))⟩
    .rw[YL];simp only[Yo,YG,eZ,not_or];exact⟨Yn hb,Yn (YV hb)⟩
   .cases r2 with
    | error e=>exact sS
    | ok f2 =>
     cases f2 with
     | ret r =>
      obtain⟨rfl,h',tk,rfl,ht,lb,Vv⟩:=sS;repeat (any_goals (first|assumption|wp_step))
      exact k _ _ ht lb Vv
     | _=>exact sS.elim
  | _=>exact hr.elim
namespace SI
def sT:entryFor table "set.__iter__"=some Builtin.«frozenset.__iter__»:=entryFor_alias (id':="frozenset.__iter__") (by kernel_rfl) rfl (by decide +kernel) (by kernel_rfl)
def gh:entryFor table "set_iterator.__next__"=some Builtin.«set_iterator.__next__»:=entryFor_of_tree (by kernel_rfl)
def bG:Slot "set_iterator" "__next__" "set_iterator.__next__":=by
 refine .of (owner:="set_iterator") (n:="__next__") ?_ (by decide +kernel) (by decide +kernel) (by decide +kernel) ?_ ?_
 .rw[typeLookup_type,zH];kernel_rfl
 .first|exact .inl (by decide +kernel)|exact .inr (by decide +kernel)
 .rw[isSubtype_type];kernel_rfl
def ow:Manifest.owners.lookup (String.ofList ['r','o','t','a','r','e','t','i','_','t','e','s'].reverse)=some Manifest.sig_set_iterator:=by kernel_rfl
def gi(a:Value):argsOk "set_iterator.__next__" ⟨[a],[]⟩:=by
 unfold argsOk;rw[signature?_of (id:="set_iterator.__next__") (n:=['_','_','t','x','e','n','_','_']) (o:=['r','o','t','a','r','e','t','i','_','t','e','s']) (by kernel_rfl) ow];kernel_rfl
end SI
section
def Vw(hn:n≠0)(h:∀i d,i<n->Q i { s with drawn:=d }):wpAny M A (choose src n) Q E s:=fun Γ p hΓ=>by
 unfold choose
 rw[Sem.wp_choose]
 exact⟨hn,by rw[Sem.wp_pure];exact h _ _ (uK _ (Nat.pos_of_ne_zero hn))⟩
def NT{α:Type}{xs:List α}{x:α}(h:xs[i]? = some x):(x::xs.eraseIdx i).Perm xs:=by
 obtain⟨hl,e⟩:=Yh.mp h;rw[List.eraseIdx_eq_take_drop_succ,<- e];have:xs=xs.take i++xs[i]::xs.drop (i+1):=by rw[List.getElem_cons_drop,CD]
 exact List.perm_middle.symm.trans (by rw[<- this])
def NU:∀(n:Nat)(xs:List α)(s:Shared)(Q:List α->Shared->Prop),xs.length=n->(∀ys d,ys.Perm xs->Q ys { s with drawn:=d })->wpAny M A (drawOrder n xs) Q E s
 | 0, xs,s,Q,hn,h=>by
  have:=wk.mp hn
  subst this
  exact Yd (h [] s.drawn .nil)
 | n+1,[],s,Q,hn,h=>by cases hn
 | n+1,x::xs,s,Q,hn,h=>by
  unfold drawOrder
  refine Yb (Vw (by simp) fun i d hi=>?_)
  obtain⟨y,hy⟩:∃y,(x::xs)[i]? = some y:=⟨_,Yg hi⟩
  rw[hy]
  dsimp only
  refine Yb (NU n _ _ _ (by rw[List.length_eraseIdx,if_pos hi];simpa using hn) fun ys d' hp=>?_)
  exact Yd (h (y::ys) d' ((hp.cons y).trans (NT hy)))
end
theorem NV(next:Nat->Nat):∀(n k:Nat)(l:List α)(out:Array α),l.length=n->(pickOrder.go next n k l out).toList.Perm (out.toList++l)
 | 0, k,l,out,hn=>by
  rw[wk.mp hn]
  simp[pickOrder.go]
 | n+1,k,l,out,hn=>by
  unfold pickOrder.go
  have bD:next k % l.length<l.length:=uK _ (by lia)
  obtain⟨y,hy⟩:∃y,l[next k % l.length]? = some y:=⟨_,Yg bD⟩
  rw[hy]
  dsimp only
  refine(NV next n (k+1) _ _ (by rw[List.length_eraseIdx,if_pos bD,hn];rfl)).trans ?_
  rw[Array.toList_push,wq]
  exact List.Perm.append_left _ (NT hy)
def BN(next:Nat->Nat)(xs:Array α):(pickOrder next xs).toList.Perm xs.toList:=by
 unfold pickOrder;exact(NV next _ 0 xs.toList #[] (by simp)).trans (by simp)
def Vx(j:Nat):SetTable.below #[j] 0=0:=by
 simp[SetTable.below,SetTable.below.go]
def Vy(j:Nat):SetTable.below #[j] (j+1)=1:=by
 simp[SetTable.below,SetTable.below.go]
def gN(h:Heap)(I:Addr)(f:Value)(i:Nat)(a:Addr)(n ep:Nat):Prop:=∃o,h.get? I=some o/\o.cls=.type "set_iterator"/\o.data=.fields #[f,.int i 0,.ref a,.int n 0,.int ep 0]
variable{P:Program}{w:World}{A:Around}{E:Value->Shared->Prop}{s:Shared}{I a:Addr}{i n ep:Nat}{o:Obj}{es:Array (Int×Value)}{t:SetTable}
def gN.typeIs(h:gN s.heap I f i a n ep):s.TypeIs (.ref I) "set_iterator":=let⟨o,e,c,_⟩:=h;⟨o,e,c⟩
def NW{j nx:Nat}(hit:gN s.heap I (.int j 0) i a n ep)(ho:s.heap.get? a=some o)(hd:o.data=.set es ep t)(hf:t.fits es.size=true)(hn:es.size=n)(hx:∀(A':Around)(E':Value->Shared->Prop)(Q':Option (Value×Nat)->Shared->Prop),Q' (some (x,nx)) s->wpAny (model P w) A' (setNext a j i ep) Q' E' s)(k:∀h',gN h' I (.int nx 0) (i+1) a n ep->Heap.SameBut I s.heap h'->Q (some x) { s with heap:=h' }):wpAny (model P w) A (pyNext (.ref I)) Q E s:=by
 obtain⟨oi,hi,hc,ik⟩:=id hit;unfold pyNext;refine Yb (p9 (Y5 (name:=Str.ofString "__next__") hit.typeIs SI.bG (YZ SI.bG hit.typeIs SI.gh ?_ (SI.gi _))));unfold Builtin.«set_iterator.__next__»;refine Yb (Yd ?_);dsimp only;refine Yb (wpAny_fieldsOf hi ik ?_);dsimp only;refine Yb (wpAny_setEntries_of ho hd hf ?_);rw[if_neg (by rw[hn];simp)];rw[show((j:Int)).toNat=j from rfl,show((i:Int)).toNat=i from rfl,show((ep:Int)).toNat=ep from rfl];refine Yb (hx _ _ _ ?_);dsimp only;refine Yb (wpAny_setField hi ik (by simp) ?_);have g1:=YB (Obj.mapFields (·.setIfInBounds 0 (rawInt (nx:Int)))) hi (Obj.isFreed_of_fields (YX ik _));have d1:=YX ik (·.setIfInBounds 0 (rawInt (nx:Int)));refine Yb (wpAny_setField g1 d1 (by simp) ?_);have g2:=YB (Obj.mapFields (·.setIfInBounds 1 (rawInt ((i:Int)+1)))) g1 (Obj.isFreed_of_fields (YX d1 _));have d2:=YX d1 (·.setIfInBounds 1 (rawInt ((i:Int)+1)));refine Yd ⟨x,rfl,Yd (k _ ⟨_,g2,(Obj.cls_mapFields ..).trans ((Obj.cls_mapFields ..).trans hc),?_⟩ ((lD ..).trans (lD ..)))⟩;rw[d2];simp[rawInt]
def NX{j:Nat}(hh:A.handled=none)(hit:gN s.heap I (.int j 0) i a n ep)(ho:s.heap.get? a=some o)(hd:o.data=.set es ep t)(hf:t.fits es.size=true)(hn:es.size=n)(hx:∀(A':Around)(E':Value->Shared->Prop)(Q':Option (Value×Nat)->Shared->Prop),Q' none s->wpAny (model P w) A' (setNext a j i ep) Q' E' s)(k:∀h',Heap.ExtBut I s.heap h'->Q none { s with heap:=h' }):wpAny (model P w) A (pyNext (.ref I)) Q E s:=by
 obtain⟨oi,hi,hc,ik⟩:=id hit;unfold pyNext;refine Yb (p9 (Y5 (name:=Str.ofString "__next__") hit.typeIs SI.bG (YZ SI.bG hit.typeIs SI.gh ?_ (SI.gi _))));unfold Builtin.«set_iterator.__next__»;refine Yb (Yd ?_);dsimp only;refine Yb (wpAny_fieldsOf hi ik ?_);dsimp only;refine Yb (wpAny_setEntries_of ho hd hf ?_);rw[if_neg (by rw[hn];simp)];rw[show((j:Int)).toNat=j from rfl,show((i:Int)).toNat=i from rfl,show((ep:Int)).toNat=ep from rfl];refine Yb (hx _ _ _ ?_);dsimp only;refine Yb (wpAny_setField hi ik (by simp) ?_);refine Yb ?_;simp only[newExc,newTuple];refine Yb (YR ?_ (by size_fits));refine Yb (m:=firstArgMember _ _) (wy (a:=Value.none) (by first|rfl|(simp only[firstArgMember];rfl)) ?_);refine YR ?_ (by size_fits);simp only[raiseNew];refine Yb (wpAny_handled ?_);rw[show A.in1.handled=none from hh];refine Yb (Yd (wpAny_throw ?_));refine Yb (rn (T:="StopIteration") (b:=true) ⟨_,Yl _ rfl,rfl⟩ isSubtype_stop ?_);exact Yd (k _ (((lD ..).extBut.push _).push _))
def Vz{pl:List Nat}(hit:gN s.heap I (.ref T) i a n ep)(ht:∃oT m,s.heap.get? T=some oT/\oT.data=.seq (pl.map fun(z:Nat)=>rawInt (z:Int)).toArray m)(ho:s.heap.get? a=some o)(hd:o.data=.set es ep t)(hf:t.fits es.size=true)(hn:es.size=n)(hp:pl[i]? = some q)(hx:es[q]? = some (hs,x))(k:∀h',gN h' I (.ref T) (i+1) a n ep->Heap.SameBut I s.heap h'->Q (some x) { s with heap:=h' }):wpAny (model P w) A (pyNext (.ref I)) Q E s:=by
 obtain⟨oi,hi,hc,ik⟩:=id hit;obtain⟨oT,m,hT,k9⟩:=ht;unfold pyNext;refine Yb (p9 (Y5 (name:=Str.ofString "__next__") hit.typeIs SI.bG (YZ SI.bG hit.typeIs SI.gh ?_ (SI.gi _))));unfold Builtin.«set_iterator.__next__»;refine Yb (Yd ?_);dsimp only;refine Yb (wpAny_fieldsOf hi ik ?_);dsimp only;refine Yb (wpAny_setEntries_of ho hd hf ?_);rw[if_neg (by rw[hn];simp)];refine Yb ?_;unfold seqItems?;refine Yb (wpAny_load hT ?_);rw[k9];refine Yd ?_;dsimp only;rw[show((pl.map fun(z:Nat)=>rawInt (z:Int)).toArray)[((i:Int)).toNat]? = some (.int (q:Int) 0)from by rw[show((i:Int)).toNat=i from rfl,List.getElem?_toArray,Yi,hp];rfl];dsimp only;rw[show((q:Int)).toNat=q from rfl,show((ep:Int)).toNat=ep from rfl];unfold setNextDrawn;refine Yb (Yb (wpAny_setState_of ho hd hf ?_));dsimp only;rw[if_neg (by simp),hx];refine Yd ?_;refine Yb (wpAny_setField hi ik (by simp) ?_);have g2:=YB (Obj.mapFields (·.setIfInBounds 1 (rawInt ((i:Int)+1)))) hi (Obj.isFreed_of_fields (YX ik _));have d2:=YX ik (·.setIfInBounds 1 (rawInt ((i:Int)+1)));refine Yd ⟨x,rfl,Yd (k _ ⟨_,g2,(Obj.cls_mapFields ..).trans hc,?_⟩ (lD ..))⟩;rw[d2];simp[rawInt]
def VA{pl:List Nat}(hh:A.handled=none)(hit:gN s.heap I (.ref T) i a n ep)(ht:∃oT m,s.heap.get? T=some oT/\oT.data=.seq (pl.map fun(z:Nat)=>rawInt (z:Int)).toArray m)(ho:s.heap.get? a=some o)(hd:o.data=.set es ep t)(hf:t.fits es.size=true)(hn:es.size=n)(hp:pl[i]? = none)(k:∀h',Heap.ExtBut I s.heap h'->Q none { s with heap:=h' }):wpAny (model P w) A (pyNext (.ref I)) Q E s:=by
 obtain⟨oi,hi,hc,ik⟩:=id hit;obtain⟨oT,m,hT,k9⟩:=ht;unfold pyNext;refine Yb (p9 (Y5 (name:=Str.ofString "__next__") hit.typeIs SI.bG (YZ SI.bG hit.typeIs SI.gh ?_ (SI.gi _))));unfold Builtin.«set_iterator.__next__»;refine Yb (Yd ?_);dsimp only;refine Yb (wpAny_fieldsOf hi ik ?_);dsimp only;refine Yb (wpAny_setEntries_of ho hd hf ?_);rw[if_neg (by rw[hn];simp)];refine Yb ?_;unfold seqItems?;refine Yb (wpAny_load hT ?_);rw[k9];refine Yd ?_;dsimp only;rw[show((pl.map fun(z:Nat)=>rawInt (z:Int)).toArray)[((i:Int)).toNat]? = none from by rw[show((i:Int)).toNat=i from rfl,List.getElem?_toArray,Yi,hp];rfl];dsimp only;refine Yb (wpAny_setField hi ik (by simp) ?_);have g1:=YB (Obj.mapFields (·.setIfInBounds 0 (rawInt 0))) hi (Obj.isFreed_of_fields (YX ik _));have d1:=YX ik (·.setIfInBounds 0 (rawInt 0));refine Yb (wpAny_setField g1 d1 (by simp) ?_);refine Yb ?_;simp only[newExc,newTuple];refine Yb (YR ?_ (by size_fits));refine Yb (m:=firstArgMember _ _) (wy (a:=Value.none) (by first|rfl|(simp only[firstArgMember];rfl)) ?_);refine YR ?_ (by size_fits);simp only[raiseNew];refine Yb (wpAny_handled ?_);rw[show A.in1.handled=none from hh];refine Yb (Yd (wpAny_throw ?_));refine Yb (rn (T:="StopIteration") (b:=true) ⟨_,Yl _ rfl,rfl⟩ isSubtype_stop ?_);exact Yd (k _ ((((lD ..).trans (lD ..)).extBut.push _).push _))
variable{P:Program}{w:World}{A:Around}{E:Value->Shared->Prop}{s:Shared}{I a:Addr}{i n ep:Nat}{o:Obj}{es:Array (Int×Value)}{t:SetTable}
def NY(hb:w.params.followText "set-order"=true)(ho:s.heap.get? a=some o)(hd:o.data=.set es ep t)(hf:t.fits es.size=true)(k:Q (((pickOrder (w.params.setOrder a ep) es)[i]?).map fun e=>(e.2,j)) s):wpAny (model P w) A (setNext a j i ep) Q E s:=by
 unfold setNext;refine Yb (wpAny_setState_of ho hd hf ?_);dsimp only;unfold setsByText;refine Yb (Yb (wpAny_askSetting (Yd ?_)));rw[if_pos (show(model P w).w.params.followText "set-order"=true from hb),if_neg (by simp)];unfold setWalk;refine Yb (Yb (wpAny_setState_of ho hd hf ?_));dsimp only;unfold setsByText;refine Yb (Yb (wpAny_askSetting (Yd ?_)));rw[if_pos (show(model P w).w.params.followText "set-order"=true from hb)];exact Yb (wpAny_askSetting (Yd (Yd k)))
def NZ(hb:w.params.followText "set-order"=false)(ho:s.heap.get? a=some o)(hd:o.data=.set es ep t)(hf:t.fits es.size=true)(hl:t.led=true)(h1:es.size<=1)(k:Q (match es[SetTable.below t.place j]?,t.place[SetTable.below t.place j]? with|some (_,x),some q=>some (x,q+1)|_,_=>none) s):wpAny (model P w) A (setNext a j i ep) Q E s:=by
 unfold setNext;refine Yb (wpAny_setState_of ho hd hf ?_);dsimp only;unfold setsByText;refine Yb (Yb (wpAny_askSetting (Yd ?_)));rw[if_neg (show ¬(model P w).w.params.followText "set-order"=true from by rw[show(model P w).w.params.followText "set-order"=false from hb];decide)];have VB:(!t.plain&&decide (es.size>1))=false:=by rw[Yu (by lia),CT]
 show wpAny _ _ (if(!t.plain&&decide (es.size>1))=true then _ else _) _ _ _;rw[if_neg (by rw[VB];decide)];show wpAny _ _ ((if(!t.led&&!es.isEmpty)=true then _ else pure ())>>=_) _ _ _;rw[if_neg (by rw[hl];simp)];exact Yb (Yd (Yd k))
namespace SI
def yx:entryFor table "set_iterator.__iter__"=some Builtin.«dict_keyiterator.__iter__»:=entryFor_alias (id':="dict_keyiterator.__iter__") (by kernel_rfl) rfl (by decide +kernel) (by kernel_rfl)
def qL:Slot "set_iterator" "__iter__" "set_iterator.__iter__":=by
 refine .of (owner:="set_iterator") (n:="__iter__") ?_ (by decide +kernel) (by decide +kernel) (by decide +kernel) ?_ ?_
 .rw[typeLookup_type,zH];kernel_rfl
 .first|exact .inl (by decide +kernel)|exact .inr (by decide +kernel)
 .rw[isSubtype_type];kernel_rfl
def yy(a:Value):argsOk "set_iterator.__iter__" ⟨[a],[]⟩:=by
 unfold argsOk;rw[signature?_of (id:="set_iterator.__iter__") (n:=['_','_','r','e','t','i','_','_']) (o:=['r','o','t','a','r','e','t','i','_','t','e','s']) (by kernel_rfl) ow];kernel_rfl
end SI
def F4(hit:gN s.heap I f i a n ep)(k:Q (.ref I) s):wpAny (model P w) A (pyIter (.ref I)) Q E s:=by
 refine wpAny_pyIter_slot hit.typeIs SI.qL (YZ SI.qL hit.typeIs SI.yx ?_ (SI.yy _));show wpAny _ _ (ret (.ref I)) _ _ s;exact Yd ⟨_,rfl,"set_iterator",_,hit.typeIs,SI.bG.lookup,k⟩
def gN.at(x:gN h I f i a n ep)(e:∀o,h.get? I=some o->h'.get? I=some o):gN h' I f i a n ep:=let⟨o,g,r⟩:=x;⟨o,e o g,r⟩
abbrev vL:Array GenState->Array GenState->Prop:=fun a b=>b=a
def F5(sb:Heap.SameBut I s.heap h'):Moved [I] vL s { s with heap:=h' }:=⟨fun b o hb e=>by rw[sb.2 b (fun z=>hb (by simp[z]))];exact e,rfl,rfl,rfl,Yj _⟩
def F6(sb:Heap.ExtBut I s.heap h'):Moved [I] vL s { s with heap:=h' }:=⟨fun b o hb e=>sb b o (fun z=>hb (by simp[z])) e,rfl,rfl,rfl,Yj _⟩
def VC(hh:A.handled=none)(hb:w.params.followText "set-order"=true)(aR:a≠I)(hd:o.data=.set es ep t)(hf:t.fits es.size=true)(hn:es.size=n):
  WalksS P w A I [I,a] [I] vL n (fun i v=>((pickOrder (w.params.setOrder a ep) es).toList.map (·.2))[i]? = some v) (fun i s=>gN s.heap I (.int (0:Nat) 0) i a n ep/\s.heap.get? a=some o) where
 sub:=fun b hb=>by simp at hb;simp[hb]
 grefl:=fun _=>rfl
 gtrans:=fun _ _ _ h1 h2=>h2.trans h1
 frame:=fun i s h' tk st _ hk=>⟨st.1.at fun o e=>hk I (by simp) o e,hk a (by simp) _ st.2⟩
 item:=fun i s Q E hi st k=>by
  have hz:(pickOrder (w.params.setOrder a ep) es).size=n:=by rw[<- Array.length_toList,(BN _ es).length_eq,Array.length_toList,hn]
  obtain⟨x,hx⟩:∃x,(pickOrder (w.params.setOrder a ep) es)[i]? = some x:=⟨_,q_ (by lia)⟩
  refine NW (x:=x.2) (nx:=0) st.1 st.2 hd hf hn (fun A' E' Q' q=>NY hb st.2 hd hf (by rw[hx];exact q)) fun h' hit sb=>k x.2 _ (by rw[Yi,nX,hx];rfl) ⟨hit,by rw[<- st.2];exact sb.2 a aR⟩ (F5 sb)
 done:=fun s Q E st k=>by
  have hz:(pickOrder (w.params.setOrder a ep) es).size=n:=by rw[<- Array.length_toList,(BN _ es).length_eq,Array.length_toList,hn]
  exact NX hh st.1 st.2 hd hf hn (fun A' E' Q' q=>NY hb st.2 hd hf (by rw[Array.getElem?_eq_none (by lia)];exact q)) fun h' sb=>k _ (F6 sb)
 self:=fun i s Q E st q=>F4 st.1 q
def VD(hh:A.handled=none)(hb:w.params.followText "set-order"=false)(aR:a≠I)(hd:o.data=.set es ep t)(hf:t.fits es.size=true)(hl:t.led=true)(h1:es.size<=1)(hn:es.size=n):
  WalksS P w A I [I,a] [I] vL n (fun i v=>(es.toList.map (·.2))[i]? = some v) (fun i s=>∃j:Nat,gN s.heap I (.int j 0) i a n ep/\s.heap.get? a=some o/\(i=0->j=0)/\(i=1->∃q,t.place=#[q]/\j=q+1)) where
 sub:=fun b hb=>by simp at hb;simp[hb]
 grefl:=fun _=>rfl
 gtrans:=fun _ _ _ h1 h2=>h2.trans h1
 frame:=fun i s h' tk ⟨j,st,gE,r⟩ _ hk=>⟨j,st.at fun o e=>hk I (by simp) o e,hk a (by simp) _ gE,r⟩
 item := fun i s Q E hi aF k=>by
  obtain⟨j,st,gE,r0,r1⟩:=aF
  obtain rfl:i=0:=by lia
  obtain rfl:=r0 rfl
  have vM:t.place.size=1:=by
   simp only[SetTable.fits,Y8,beq_iff_eq]at hf;lia
  obtain⟨q,hq⟩:∃q,t.place=#[q]:=⟨t.place[0],by apply Array.ext;simp[vM];intro i h1 h2;simp at h2;simp[h2]⟩;obtain⟨x,hx⟩:∃x,es[0]? = some x:=⟨_,q_ (by lia)⟩;refine NW (x:=x.2) (nx:=q+1) st gE hd hf hn (fun A' E' Q' z=>NZ hb gE hd hf hl h1 (by rw[hq,Vx,hx];exact z)) fun h' hit sb=>k x.2 _ (by rw[Yi,nX,hx];rfl) ⟨q+1,hit,by rw[<- gE];exact sb.2 a aR,fun z=>absurd z (by decide),fun _=>⟨q,hq,rfl⟩⟩ (F5 sb)
 done := fun s Q E aF k=>by
  obtain⟨j,st,gE,r0,r1⟩:=aF;refine NX hh st gE hd hf hn (fun A' E' Q' z=>NZ hb gE hd hf hl h1 ?_) fun h' sb=>k _ (F6 sb);rcases Nat.eq_zero_or_pos n with e|e
  .rw[Array.getElem?_eq_none (by lia)];exact z
  .obtain⟨q,hq,rfl⟩:=r1 (by lia);rw[hq,Vy,Array.getElem?_eq_none (by lia)];exact z
 self:=fun i s Q E ⟨j,st,_⟩ q=>F4 st q
def VE{pl:List Nat}(hh:A.handled=none)(aR:a≠I)(VF:T≠I)(hT:oT.data=.seq (pl.map fun(z:Nat)=>rawInt (z:Int)).toArray m)(hp:pl.Perm (List.range n))(hd:o.data=.set es ep t)(hf:t.fits es.size=true)(hn:es.size=n):
  WalksS P w A I [I,a,T] [I] vL n (fun i v=>(pl.map fun q=>(es.getD q (0,.none)).2)[i]? = some v) (fun i s=>gN s.heap I (.ref T) i a n ep/\s.heap.get? a=some o/\s.heap.get? T=some oT) where
 sub:=fun b hb=>by simp at hb;simp[hb]
 grefl:=fun _=>rfl
 gtrans:=fun _ _ _ h1 h2=>h2.trans h1
 frame:=fun i s h' tk st _ hk=>⟨st.1.at fun o e=>hk I (by simp) o e,hk a (by simp) _ st.2.1,hk T (by simp) _ st.2.2⟩
 item:=fun i s Q E hi st k=>by
  have hl:pl.length=n:=by rw[hp.length_eq,uF]
  obtain⟨q,hq⟩:∃q,pl[i]? = some q:=⟨_,Yg (by lia)⟩
  have N0:q<es.size:=by rw[hn];exact p0.mp (hp.mem_iff.mp (Yk hq))
  refine Vz (q:=q) (hs:=(es[q]).1) (x:=(es[q]).2) st.1 ⟨oT,m,st.2.2,hT⟩ st.2.1 hd hf hn hq (by rw[q_ N0]) fun h' hit sb=>k _ _ (by rw[Yi,hq];simp[Array.getD,N0]) ⟨hit,by rw[<- st.2.1];exact sb.2 a aR,by rw[<- st.2.2];exact sb.2 T VF⟩ (F5 sb)
 done:=fun s Q E st k=>by
  have hl:pl.length=n:=by rw[hp.length_eq,uF]
  exact VA hh st.1 ⟨oT,m,st.2.2,hT⟩ st.2.1 hd hf hn (Y1 (by lia)) fun h' sb=>k _ (F6 sb)
 self:=fun i s Q E st q=>F4 st.1 q
variable{P:Program}{w:World}{A:Around}{E:Value->Shared->Prop}{s:Shared}{I a:Addr}{i n ep:Nat}{o:Obj}{es:Array (Int×Value)}{t:SetTable}{ks:List Str}
def F7(P:Program)(w:World)(s:Shared)(a:Addr)(vs:List Value)(I:Addr)(s':Shared):Prop :=
 ∃(fp:List Addr)(St:Nat->Shared->Prop)(l:List Value),(∀A:Around,A.handled=none->WalksS P w A I fp [I] vL l.length (fun i v=>l[i]? = some v) St)/\St 0 s'/\l.Perm vs/\(∀b o,s.heap.get? b=some o->s'.heap.get? b=some o)/\s'.gens=s.gens/\s'.os=s.os/\s'.toks=s.toks/\(∀b∈fp,b=a\/s.heap.objs.size<=b)/\(∀b∈fp,b<s'.heap.objs.size)/\s.heap.objs.size<=I/\s.heap.objs.size<=s'.heap.objs.size/\s'.TypeIs (.ref I) "set_iterator"
abbrev F8(f:Value)(a:Addr)(n ep:Nat):Obj:={ cls:=.type "set_iterator",data:=.fields #[f,rawInt 0,.ref a,rawInt n,rawInt ep] }
def VG(es:Array (Int×Value)):(List.range es.size).map (fun q=>(es.getD q (0,.none)).2)=es.toList.map (·.2):=by
 apply I_
 .simp
 .intro i h1 h2;simp at h1;simp[Array.getD,h1]
def VH{pl:List Nat}(ho:s.heap.get? a=some o)(hd:o.data=.set es ep t)(hf:t.fits es.size=true)(hp:pl.Perm (List.range es.size)):
  F7 P w s a (es.toList.map (·.2)) (s.heap.objs.size+1) { s with heap:=(s.heap.push { cls:=.type "tuple",data:=.seq (pl.map fun(z:Nat)=>rawInt (z:Int)).toArray }).push (F8 (.ref s.heap.objs.size) a es.size ep),drawn:=d }:=by
 have lg:a<s.heap.objs.size:=Ym ho;have hsz:(s.heap.push { cls:=.type "tuple",data:=.seq (pl.map fun(z:Nat)=>rawInt (z:Int)).toArray }).objs.size=s.heap.objs.size+1:=YL ..;have hl:(pl.map fun q=>(es.getD q (0,.none)).2).length=es.size:=by rw[Yc,hp.length_eq,uF]
 refine⟨[s.heap.objs.size+1,a,s.heap.objs.size],fun i s'=>gN s'.heap (s.heap.objs.size+1) (.ref s.heap.objs.size) i a es.size ep/\s'.heap.get? a=some o/\s'.heap.get? s.heap.objs.size=some { cls:=.type "tuple",data:=.seq (pl.map fun(z:Nat)=>rawInt (z:Int)).toArray },pl.map fun q=>(es.getD q (0,.none)).2,fun A hA=>?_,⟨?_,Ye _ (Ye _ ho),Ye _ (Yl _ rfl)⟩,(hp.map _).trans (by rw[VG]),fun b o e=>Ye _ (Ye _ e),rfl,rfl,rfl,?_,?_,fT _,?_,?_⟩
 .rw[hl];exact VE hA (Yn (YV lg)) (Yn (lG _)) rfl hp hd hf rfl
 .rw[<- hsz];exact⟨_,Yl _ rfl,rfl,rfl⟩
 .intro b hb;simp only[Yo,YG,eZ]at hb;rcases hb with rfl|rfl|rfl
  .exact .inr (fT _)
  .exact .inl rfl
  .exact .inr (Yj _)
 .intro b hb;simp only[Yo,YG,eZ]at hb;rw[YL,hsz];rcases hb with rfl|rfl|rfl
  .exact lG _
  .exact YV (YV lg)
  .exact YV (lG _)
 .rw[YL,hsz];exact Nat.le_succ_of_le (fT _)
 .rw[<- hsz];exact⟨_,Yl _ rfl,rfl⟩
def VI(ho:s.heap.get? a=some o)(hd:o.data=.set es ep t)(hf:t.fits es.size=true)(h1:w.params.followText "set-order"=true\/t.led=true)(h2:es.size=0\/t.plain=false)(hc:¬(!w.params.followText "set-order" && (!t.plain&&decide (es.size>1)))=true):
  F7 P w s a (es.toList.map (·.2)) s.heap.objs.size { s with heap:=s.heap.push (F8 (rawInt 0) a es.size ep) }:=by
 have lg:a<s.heap.objs.size:=Ym ho;have N1:∀b∈[s.heap.objs.size,a],b=a\/s.heap.objs.size<=b:=fun b hb=>by
  simp only[Yo,YG,eZ]at hb;rcases hb with rfl|rfl
  .exact .inr (Yj _)
  .exact .inl rfl
 have F9:∀b∈[s.heap.objs.size,a],b<(s.heap.push (F8 (rawInt 0) a es.size ep)).objs.size:=fun b hb=>by
  rw[YL];simp only[Yo,YG,eZ]at hb;rcases hb with rfl|rfl
  .exact lG _
  .exact YV lg
 cases hb:w.params.followText "set-order" with
 | true =>
  have hl:((pickOrder (w.params.setOrder a ep) es).toList.map (·.2)).length=es.size:=by rw[Yc,(BN _ es).length_eq,Array.length_toList]
  refine⟨[s.heap.objs.size,a],fun i s'=>gN s'.heap s.heap.objs.size (.int (0:Nat) 0) i a es.size ep/\s'.heap.get? a=some o,(pickOrder (w.params.setOrder a ep) es).toList.map (·.2),fun A hA=>?_,⟨⟨_,Yl _ rfl,rfl,rfl⟩,Ye _ ho⟩,(BN _ es).map _,fun b o e=>Ye _ e,rfl,rfl,rfl,N1,F9,Yj _,by rw[YL];exact fT _,⟨_,Yl _ rfl,rfl⟩⟩;rw[hl];exact VC hA hb (Yn lg) hd hf rfl
 | false =>
  have r_:t.led=true:=by
   rcases h1 with h|h
   .rw[hb]at h;cases h
   .exact h
  have kf:es.size<=1:=by
   rcases h2 with h|h
   .lia
   .rw[hb,h]at hc;simp at hc;lia
  refine⟨[s.heap.objs.size,a],fun i s'=>∃j:Nat,gN s'.heap s.heap.objs.size (.int j 0) i a es.size ep/\s'.heap.get? a=some o/\(i=0->j=0)/\(i=1->∃q,t.place=#[q]/\j=q+1),es.toList.map (·.2),fun A hA=>?_,⟨0,⟨_,Yl _ rfl,rfl,rfl⟩,Ye _ ho,fun _=>rfl,fun z=>absurd z (by decide)⟩,.refl _,fun b o e=>Ye _ e,rfl,rfl,rfl,N1,F9,Yj _,by rw[YL];exact fT _,⟨_,Yl _ rfl,rfl⟩⟩;rw[Yc,Array.length_toList];exact VD hA hb (Yn lg) hd hf r_ kf rfl
def VJ(ho:s.heap.get? a=some o)(hx:o.ExactSet)(hd:o.data=.set es ep t)(hf:t.fits es.size=true)(hz:es.size<scanBound)(h1:w.params.followText "set-order"=true\/t.led=true)(h2:es.size=0\/t.plain=false)(k:∀I s',F7 P w s a (es.toList.map (·.2)) I s'->Q (.ref I) s'):wpAny (model P w) A (pyIter (.ref a)) Q E s:=by
 have hT:s.TypeIs (.ref a) "set":=⟨o,ho,hx.1⟩;refine wpAny_pyIter_slot hT F.slot_set_iter (YZ F.slot_set_iter hT SI.sT ?_ (F.args_set_iter_1 _));unfold Builtin.«frozenset.__iter__»;refine Yb (m:=Builtin.Frozenset.slot0 "__iter__" _) (Yd ?_);unfold Builtin.Frozenset.sizeOf;refine Yb (Yb (wpAny_setEntries_of ho hd hf (Yd ?_)));refine Yb ?_;unfold setDrawn;refine Yb (wpAny_setState_of ho hd hf ?_);dsimp only;unfold setsByText;refine Yb (Yb (wpAny_askSetting (Yd (Yd ?_))));show wpAny _ _ (if(!w.params.followText "set-order" && (!t.plain&&decide (es.size>1)))=true then _ else _) _ _ _;by_cases hc:(!w.params.followText "set-order" && (!t.plain&&decide (es.size>1)))=true
 .rw[if_pos hc];refine Yb (NU _ _ _ _ (by simp) fun pl d hp=>?_);unfold newTuple;refine Yb (YR ?_ ?_)
  .refine Yb (wpAny_setEpoch_of (o:=o) (Ye _ ho) hd hf ?_);unfold newFields;refine Yb (YR ?_ (by size_fits));refine Yd ⟨_,rfl,"set_iterator",_,⟨_,Yl _ rfl,rfl⟩,SI.bG.lookup,k _ _ ?_⟩;have:=VH (P:=P) (w:=w) (d:=d) ho hd hf hp;have hsz:(s.heap.push { cls:=.type "tuple",data:=.seq (pl.map fun(z:Nat)=>rawInt (z:Int)).toArray }).objs.size=s.heap.objs.size+1:=YL ..;rw[<- hsz]at this;exact this
  .show(pl.map fun(i:Nat)=>rawInt (i:Int)).toArray.size<=sizeLine;rw[Yq,Yc,hp.length_eq,uF];exact fits_of_scanBound hz
 .rw[if_neg hc];refine Yb (Yd (Yb (wpAny_setEpoch_of ho hd hf ?_)));unfold newFields;refine Yb (YR ?_ (by size_fits));exact Yd ⟨_,rfl,"set_iterator",_,⟨_,Yl _ rfl,rfl⟩,SI.bG.lookup,k _ _ (VI ho hd hf h1 h2 hc)⟩
variable{P:Program}{w:World}{A:Around}{E:Value->Shared->Prop}{s:Shared}{I a:Addr}{ks:List Str}
def cT.sU(hS:cT P w h a ks):cT P w (h.push ob) a ks:=by
 obtain⟨o,es,ep,t,ho,r⟩:=hS;exact⟨o,es,ep,t,Ye _ ho,r⟩
def VL(h:ItemsOf (fun i v=>l[i]? = some v) acc l.length):acc.toList=l:=by
 apply CN;intro i;rw[nX];rcases Nat.lt_or_ge i l.length with g|g
 .have:=h.2 i (acc[i]'(by rw[h.1];exact g)) (by rw[q_]);rw[this,q_]
 .rw[Y1 g,Array.getElem?_eq_none (by rw[h.1];exact g)]
def VM(p:vs.Perm (strValues l)):∃l',vs=strValues l'/\l'.Perm l:=by
 have e:∀us:List Value,(us.map fun v=>((0:Int),v)).map (·.2)=us:=fun us=>by rw[jS];exact List.map_id _
 obtain⟨l',h1,h2⟩:=F0 (es':=vs.map fun v=>((0:Int),v)) (es:=(strValues l).map fun v=>((0:Int),v)) (l:=l) (e _) (p.map _);exact⟨l',(e vs).symm.trans h1,h2⟩
def VN(hh:A.handled=none)(hS:cT P w s.heap a ks)(k:∀s' (l:List (Str×Tok)),(l.map (·.1)).Perm ks->(∀b o,s.heap.get? b=some o->s'.heap.get? b=some o)->s'.gens=s.gens->s'.os=s.os->s.toks<=s'.toks->s.heap.objs.size<=s'.heap.objs.size->Q (strValues l) s'):wpAny (model P w) A (collect (.ref a)) Q E s:=by
 have jC:cT P w (s.heap.push { cls:=.type "list",data:=.seq ([]:List Value).toArray }) a ks:=hS.sU;obtain⟨o,es,ep,t,ho,hx,hd,he,⟨l,hl,hp⟩,hz,hf,h1,h2⟩:=jC;have lg:a<s.heap.objs.size:=let⟨_,_,_,_,e,_⟩:=hS;Ym e;have hT:∀s1:Shared,s1.heap.get? a=some o->s1.TypeIs (.ref a) "set":=fun s1 e=>⟨o,e,hx.1⟩;unfold collect;refine Yb (wpAny_runValue (m5 F.entry_proto_collect ?_));rw[pX F.plain_proto_collect _];show wpAny _ A.in1 (newList []>>=fun z=>again (.builtin "list.__iadd__" ⟨[z,.ref a],[]⟩)) _ _ s;refine Yb (YR ?_);refine Yd ⟨m8 IW _,m5 F.entry_list_iadd ?_⟩;rw[pX IW _];show wpAny _ A.in1 (Builtin.List.listExtendWith (.ref s.heap.objs.size) (.ref a) (.ref s.heap.objs.size)) _ _ _;unfold Builtin.List.listExtendWith;refine Yb (p_ (hT _ ho) ?_);have z1:Builtin.List.listSameRef (.ref s.heap.objs.size) (.ref a)=false:=by simp[Builtin.List.listSameRef,jR lg]
 have z2:(Value.type "set" == Value.type "list")=false:=by decide
 have z3:(Value.type "set" == Value.type "tuple")=false:=by decide
 simp only[z1,z2,z3,Bool.or_false,Y2,fj];refine Yb (VJ ho hx hd hf hz h1 h2 fun I s' hm=>?_);obtain⟨fp,St,vs,W,st,pv,hk,hg,gY,ou,VO,F9,hI,hsz,hIt⟩:=hm;have gQ:=hk _ _ ho;refine Yb (YT ?_);unfold Builtin.List.listLengthHint;refine Yb (zR (hT _ gQ) F.slot_set_len.lookup ?_);wp_delta;refine Yb (rn (b:=true) (hT _ gQ) (by rw[isSubtype_type];kernel_rfl) ?_);show wpAny _ A.in1 (typeOf (Value.ref a)>>=_) _ _ _;refine Yb (p_ (hT _ gQ) ?_);refine Yd ?_;rw[if_pos (by decide)];refine Yb (qc ?_);generalize hH:s.heap.push { cls:=.type "list",data:=.seq ([]:List Value).toArray }=H at *;have N3:H.objs.size=s.heap.objs.size+1:=by rw[<- hH,YL]
 have cL:s'.heap.get? s.heap.objs.size=some { cls:=.type "list",data:=.seq ([]:List Value).toArray }:=hk _ _ (hH▸Yl _ rfl);have nI:s.heap.objs.size∉fp:=fun m=>by
  rcases VO _ m with e|e
  .exact jR lg e
  .exact absurd e (by show ¬H.objs.size<=_;rw[N3];exact Nat.not_succ_le_self _)
 have ff:vs.length<=sizeLine:=by
  rw[pv.length_eq,Yc,Array.length_toList];exact fits_of_scanBound hz
 refine Yb ?_;show wpAny _ A.in1 (updateSeq s.heap.objs.size (fun z=>z.push .none)>>=fun _=>updateSeq s.heap.objs.size (fun z=>z.pop)) _ _ _;refine Yb (m7 cL rfl ?_);have u1:=YB (Obj.mapSeq (fun z=>z.push Value.none)) cL rfl;refine m7 u1 rfl ?_;have u2:=YB (Obj.mapSeq (fun z=>z.pop)) u1 rfl;have cJ:∀b o,b≠s.heap.objs.size->s'.heap.get? b=some o->((s'.heap.update s.heap.objs.size (Obj.mapSeq (fun z=>z.push Value.none))).update s.heap.objs.size (Obj.mapSeq (fun z=>z.pop))).get? b=some o:=fun b o hb e=>by
  rw[YC _ _ (Ne.symm hb),YC _ _ (Ne.symm hb)];exact e
 have gE:=(W A.in1 hh).frame 0 s' ((s'.heap.update s.heap.objs.size (Obj.mapSeq (fun z=>z.push Value.none))).update s.heap.objs.size (Obj.mapSeq (fun z=>z.pop))) s'.toks st (Yj _) fun b hb o e=>cJ b o (fun z=>nI (z▸hb)) e;refine Yd ⟨m8 CG _,CF (W A.in1 hh) ff _ nI _ vs.length 0 _ _ _ rfl (Y0 _) gE u2 (ItemsOf.nil _) fun s2 acc c hm nH F_=>?_⟩;show wpAny _ A (load s.heap.objs.size>>=_) _ _ s2;refine Yb (wpAny_load nH ?_);obtain⟨l',e1,p1⟩:=VM (hl▸pv);have ea:=VL F_;refine Yd ?_;rw[ea,e1];refine k s2 l' ((p1.map _).trans hp) (fun b o e=>?_) (hm.gens.trans hg) (hm.os.trans gY) (by rw[<- ou];exact hm.toks) (nZ (Ym nH));have BO:b<s.heap.objs.size:=Ym e;refine hm.heap b o (fun m=>?_) (cJ b o (Yn BO) (hk b o (hH▸Ye _ e)));rcases Yo.mp m with z|z
 .exact Yn BO z
 .have:=Yp.mp z;rw[this]at BO;exact absurd hI (by show ¬H.objs.size<=I;rw[N3];exact Nat.not_le_of_lt (YV BO))
variable{P:Program}{w:World}{A:Around}{E:Value->Shared->Prop}{s:Shared}{I a:Addr}{ks:List Str}
def F':∀l:List (Str×Tok),StrsAre (strValues l) (l.map (·.1))
 | []=>.nil
 | p::l=>.cons p.1 p.2 (F' l)
def VP(hh:A.handled=none)(hS:cT P w s.heap a ks)(qM:ks.length<64)(k:∀s' D (out:Array Value) (zs:List Str) n,s.heap.objs.size<=D->StrsAre out.toList zs->zs.Perm ks->sortedS zs=true->s'.heap.get? D=some (seqObj "list" out n)->(∀b o,s.heap.get? b=some o->s'.heap.get? b=some o)->s'.gens=s.gens->s'.os=s.os->s.toks<=s'.toks->Q (.ref D) s'):
  wpAny (model P w) A (call (.builtin "sorted") [.ref a]) Q E s:=by
 refine Calls.call_function_entry kind_sorted plain_sorted entry_sorted (args_sorted1 _) ?_;unfold Builtin.«sorted»;refine Yb (m:=checkCount "sorted" 1 1 _) (Yd ?_);refine Yb (VN hh hS fun s1 l hp hk hg gY ou pf=>?_);have jC:=F' l;have hlen:(strValues l).length<64:=by
  rw[strValues,Yc,<- Yc (f:=(·.1)),hp.length_eq];exact qM
 refine Yb (CU ?_ (by exact YE (nZ hlen) (by decide)));have m9:(s1.heap.push (seqObj "list" (strValues l).toArray 0)).get? s1.heap.objs.size=some (seqObj "list" (strValues l).toArray 0):=Yl _ rfl;refine Yb (YT (YZ slot_list_sort ⟨_,m9,rfl⟩ entry_list_sort (list_sort_treeK strKind_oneLt m9 jC.keysOf (fun v1 v2 r e=>keyKind_strs (by rw[<- e];exact jC)) hlen fun fb a1 a2=>⟨_,rfl,?_⟩) (args_list_sort _)));obtain⟨zs,b1,b2,b3⟩:=sorted_out_str jC a1 a2;obtain⟨n,hn⟩:=sortedHeap_at (out:=(arrOf fb).map (·.2)) m9;refine Yd ⟨_,rfl,k _ s1.heap.objs.size _ zs n pf b1 (b2.trans hp) b3 hn (fun b o e=>?_) hg gY ou⟩;have e1:=hk b o e;have lt:=Ym e1;show(sortedHeap (s1.heap.push (seqObj "list" (strValues l).toArray 0)) s1.heap.objs.size (strValues l) _).get? b=some o;rw[sortedHeap_old (Yn lt) (by rw[size_push'];exact YV lt)];exact Ye _ e1
def jG(P:Program)(w:World)(a:Addr)(ks:List Str):HO:=.ext fun h=>cT P w h a ks
def Ga(q:cT P w h a ks):dC P w H h a (jG P w a ks) :=
 ⟨q,let⟨o,_,_,_,e,_⟩:=q;⟨o,e⟩,fun h1 h2 ⟨o,es,ep,t,e,r⟩ k=>⟨o,es,ep,t,k o e,r⟩⟩
section
def N4(P:Program)(w:World):List V->Hp->VK->Prop:=fun xs H Q=>xs=[]/\∀p,H p=none->Q (.ref p) (upd H p (jG P w p []))
def N5:cf X (.type "set") (N4 X.prog X.w):=by
 intro pins s σ H xs us Q I r h;obtain⟨rfl,q⟩:=h;cases r;exact Vr ⟨.ref s.heap.objs.size,_,I.laid (t':=s.toks) (fun _ _ e=>Ye _ e) (Yj _) (Ga (NP (Yl _ rfl))),rfl,q _ I.fresh⟩
def Gb(P:Program)(w:World):List V->Hp->VK->Prop:=fun xs H Q=>∃l zs,xs=[.ref l]/\H l=some (.lst (zs.map V.str))/\zs.length+1<scanBound/\∀p,H p=none->Q (.ref p) (upd H p (jG P w p (ij zs zs.length)))
def N6(hc:X.calm=true):cf X (.type "set") (Gb X.prog X.w):=by
 intro pins s σ H xs us Q I r h;obtain⟨l,zs,rfl,hl,hz,q⟩:=h;obtain⟨u,rfl,ru⟩:=r.one;cases ru;obtain⟨hle,its,n,rv,hlen,e⟩:=I.ei hl;rw[Yc]at hlen;obtain⟨tl,e1,e2⟩:=Bh rv;subst e1;have hsz:(strValues tl).toArray.size=zs.length:=by rw[Yq,<- hlen]
 refine Vt (I.ok.hd hc) (its:=(strValues tl).toArray) (zs:=zs) ⟨_,e,rfl,n,rfl⟩ (fun i v hv=>?_) hsz.symm (by rw[hsz];exact hz) fun h' tk ht hS hk=>⟨.ref s.heap.objs.size,_,I.laid (t':=tk) (fun b o z=>hk b o (Ym z) z) (Yj _) (Ga (by rw[hsz]at hS;exact hS)),rfl,q _ I.fresh⟩;rw[List.getElem?_toArray,strValues,Yi]at hv;obtain⟨p,hp,rfl⟩:=YO.mp hv;exact⟨p.1,p.2,by rw[<- e2,Yi,hp];rfl,rfl⟩
def VQ(d:Drawn)(I:Inv X pins σ H s):Inv X pins σ H { s with drawn:=d }:=⟨I.ok,I.os,I.bare,I.base,I.loc,I.cell,I.free,I.bw,I.pin,I.aG,I.len⟩
def Ge:∀ {vs:List Value} {zs:List Str},StrsAre vs zs->Z3 (zs.map V.str) vs
 | _,_,.nil=>.nil
 | _,_,.cons y t h=>.cons ⟨t,rfl⟩ (Ge h)
def Gf(P:Program)(w:World):List V->Hp->VK->Prop:=fun xs H Q=>∃a ks,xs=[.ref a]/\H a=some (jG P w a ks)/\ks.length<64/\∀D zs,H D=none->zs.Perm ks->sortedS zs=true->Q (.ref D) (upd H D (.lst (zs.map V.str)))
def Gg(hc:X.calm=true):cf X (.builtin "sorted") (Gf X.prog X.w):=by
 intro pins s σ H xs us Q I r h;obtain⟨a,ks,rfl,ha,qM,q⟩:=h;obtain⟨u,rfl,ru⟩:=r.one;cases ru;have hS:cT X.prog X.w s.heap a ks:=(I.aG a _ ha).1;refine VP (I.ok.hd hc) hS qM fun s' D out zs n hD hv hp hs hd hk hg gY ou=>?_;obtain⟨h',g',d',F3,wM⟩:=s';cases(show g'=s.gens from hg);cases(show wM=s.os from gY);refine⟨.ref D,upd H D (.lst (zs.map V.str)),?_,rfl,q D zs (I.aG.fresh hD) hp hs⟩;have I2:=I.laid (a:=D) (o:=.lst (zs.map V.str)) (h':=h') (t':=F3) hk hD ⟨by rw[Yc,hp.length_eq];exact YE (nZ qM) (by decide),out.toList,n,Ge hv,by rw[Array.toArray_toList];exact hd⟩;exact VQ d' I2
variable{o e:Expr}{es:List Expr}{t:TA}
def N7(P:Program)(w:World)(to:TE)(t:TA):TE:=fun σ H Q=>to σ H fun x H1=>∃a ks,x=.ref a/\H1 a=some (jG P w a ks)/\t σ H1 fun vs H2=>∃z gM,vs=[.str z]/\H2 a=some (jG P w a gM)/\gM.length+1<scanBound/\Q .ay (upd H2 a (jG P w a (fO gM z)))
def N8(ho:PE X o to)(ha:PA X (e::es) t)(h1:attributeBase o "add" X.env (eval o X.env)=eval o X.env:=by rfl)(h2:((backTo aW (starEach (e::es) X.env)).all (fun x=>!x.1)&&(backToKw aW (keywordEach [] X.env)).all (fun x=>x.1.isSome)&&decide ((e::es).length+([]:List Keyword).length+(if([]:List Keyword).isEmpty then 0 else 1)<30))=true:=by rfl)(h3:(apos.endLine==aW.line)=true:=by rfl)(h4:starEach (e::es) X.env=(false,eval e X.env)::starEach es X.env:=by rfl)(h5:(backTo aW (starEach es X.env)).any (·.1)=false:=by rfl):
  PE X (.Call (.Attribute o "add" apos) (e::es) [] aW) (N7 X.prog X.w to t):=by
 intro pins s σ H Q I h;refine wpAny_Call_method_late h1 h2 h3 rfl (aM (ho pins s σ H _ I h) fun v s1 aL=>?_);obtain⟨x,H1,I1,r1,a,ks,ex,sN,q1⟩:=aL;subst ex;cases r1;have hS:cT X.prog X.w s1.heap a ks:=(I1.aG a _ sN).1;refine⟨"set","set.add",F.plainAttrs_set,F.slot_set_add,F.type_set_add,hS.typeIs,fun b z=>?_,?_⟩
 .cases z;obtain⟨ob,_,_,_,eo,hx,_⟩:=hS;exact⟨ob,eo,hx.2.1⟩
 .have hA:=ha aW pins s1 σ H1 _ I1 q1;rw[h4]at hA ⊢;refine rh (by show(false||(backTo aW (starEach es X.env)).any (·.1))=false;rw[h5]<;>rfl) (Calls.evalArgs_plain (aM hA fun us s2 aL=>?_));obtain⟨vs,H2,I2,r2,z,gM,ev,jB,hr,q2⟩:=aL;subst ev;obtain⟨u,rfl,ru⟩:=r2.one;obtain⟨tk,rfl⟩:=ru;have nH:cT X.prog X.w s2.heap a gM:=(I2.aG a _ jB).1;refine Vq nH hr fun h' sb lb=>⟨.ay,_,?_,rfl,q2⟩;refine I2.write (x:=a) (e:=a) (by rw[jB];exact trivial) (.inl rfl) (fun b o hb ho=>(sb.2 b hb).trans ho) ?_ (Ga lb);obtain⟨ob,_,_,_,eo,_⟩:=lb;exact⟨ob,eo⟩
end
section
variable{K:au}
def tS(P:Program)(w:World)(ks:List Str):AO:=.cJ fun _ H a=>H a=some (jG P w a ks)
def HR.set{A:az}(g:HR K H A)(e:A a=some (tS P w ks)):H a=some (jG P w a ks):=(g a _ e).2.1
def N9(e:H a=some (jG P w a ks)):RO K H a (tS P w ks):=⟨⟨_,e⟩,e,fun H1 H2 h1 _ h2=>h2.trans h1⟩
def HR.newSet{A:az}(g:HR K H A)(e:H a=Option.none):HR K (upd H a (jG P w a ks)) (af A a (tS P w ks)):=g.dO (ba.aA e).kp (N9 ZC)
def N_(P:Program)(w:World):List U->az->bH->Prop:=fun us A Q=>us=[]/\∀p,A p=none->Q (.ref p) (af A p (tS P w []))
def N':hZ K (N4 P w) (N_ P w):=fun xs us A H Q' Q r g h k=>by
 obtain⟨rfl,q⟩:=h
 cases r
 exact⟨rfl,fun p hp=>k _ _ _ _ (ba.aA hp).kp (g.newSet hp) (.ref p) (q p (g.none hp))⟩
def Oa(P:Program)(w:World):List U->az->bH->Prop:=fun us A Q=>∃l zs,us=[.ref l]/\A l=some (.lst (zs.map U.str))/\zs.length+1<scanBound/\∀p,A p=none->Q (.ref p) (af A p (tS P w (ij zs zs.length)))
def Ob:hZ K (Gb P w) (Oa P w):=fun xs us A H Q' Q r g h k=>by
 obtain⟨l,zs,rfl,hl,hz,q⟩:=h
 obtain⟨v,rfl,rv⟩:=r.inv1
 cases rv
 obtain⟨vs,h1,r1⟩:=g.list hl
 exact⟨l,zs,rfl,by rw[h1,r1.strs],hz,fun p hp=>k _ _ _ _ (ba.aA hp).kp (g.newSet hp) (.ref p) (q p (g.none hp))⟩
def Oc(P:Program)(w:World):List U->az->bH->Prop:=fun us A Q=>∃a ks,us=[.ref a]/\A a=some (tS P w ks)/\ks.length<64/\∀D zs,A D=none->zs.Perm ks->sortedS zs=true->Q (.ref D) (af A D (.lst (zs.map U.str)))
def Gh:hZ K (Gf P w) (Oc P w):=fun xs us A H Q' Q r g h k=>by
 obtain⟨a,ks,rfl,ha,hz,q⟩:=h
 obtain⟨v,rfl,rv⟩:=r.inv1
 cases rv
 exact⟨a,ks,rfl,g.set ha,hz,fun D zs hD hp hs=>k _ _ _ _ (ba.aA hD).kp (g.en hD aK.c5) (.ref D) (q D zs (g.none hD) hp hs)⟩
def Od(P:Program)(w:World)(ao:AE)(l:AA):AE:=fun ρ A Q=>ao ρ A fun x A1=>∃a ks,x=.ref a/\A1 a=some (tS P w ks)/\l ρ A1 fun us A2=>∃z gM,us=[.str z]/\A2 a=some (tS P w gM)/\gM.length+1<scanBound/\Q .ay (af A2 a (tS P w (fO gM z)))
def Oe{t:TA}(ho:aY K to ao)(hl:fH K t l):aY K (N7 P w to t) (Od P w ao l):=fun ρ A σ H Q' Q hs g wh k =>
 ho ρ A σ H _ _ hs g wh fun x A1 v1 H1 k1 g1 r1 aF=>by
  obtain⟨a,ks,e1,e2,q⟩:=aF
  subst e1
  cases r1
  refine⟨a,ks,rfl,g1.set e2,hl ρ A1 σ H1 _ _ (hs.same k1) g1 q fun us A2 vs H2 k2 g2 r2 aL=>?_⟩
  obtain⟨z,gM,e3,e4,hz,q2⟩:=aL
  subst e3
  obtain⟨v,rfl,rv⟩:=r2.inv1
  cases rv
  have h4:=g2.set e4
  have kp:Kp K H2 (upd H2 a (jG P w a (fO gM z))):=Kp.ext h4
  exact⟨z,gM,rfl,h4,hz,k _ _ _ _ (k1.trans (k2.trans kp)) (g2.dO kp (N9 ZC)) .ay q2⟩
variable{A:az}
def Zvx:N_ P w [] A Q=∀p,A p=none->Q (.ref p) (af A p (tS P w [])):=propext ⟨fun h=>h.2,fun h=>⟨rfl,h⟩⟩
def ZvD:Oa P w [.ref l] A Q=∃zs,A l=some (.lst (zs.map U.str))/\zs.length+1<scanBound/\∀p,A p=none->Q (.ref p) (af A p (tS P w (ij zs zs.length))):=propext ⟨fun aF=>by obtain⟨_,zs,e,h⟩:=aF;cases e;exact⟨zs,h⟩,fun⟨zs,h⟩=>⟨l,zs,rfl,h⟩⟩
def ZiC:Oc P w [.ref a] A Q=∃ks,A a=some (tS P w ks)/\ks.length<64/\∀D zs,A D=none->zs.Perm ks->sortedS zs=true->Q (.ref D) (af A D (.lst (zs.map U.str))):=propext ⟨fun aF=>by obtain⟨_,ks,e,h⟩:=aF;cases e;exact⟨ks,h⟩,fun⟨ks,h⟩=>⟨a,ks,rfl,h⟩⟩
def ZlW:Od P w ao l ρ A Q=ao ρ A fun x A1=>∃a ks,x=.ref a/\A1 a=some (tS P w ks)/\l ρ A1 fun us A2=>∃z gM,us=[.str z]/\A2 a=some (tS P w gM)/\gM.length+1<scanBound/\Q .ay (af A2 a (tS P w (fO gM z))):=rfl
end
def Of:List V->Hp->VK->Prop:=fun xs H Q=>∃a ys,xs=[.ref a,.ty "list"]/\H a=some (.lst ys)/\Q (.bl true) H
def VR:cf X (.builtin "isinstance") Of:=by
 intro pins s σ H xs us Q I r h;obtain⟨a,ys,rfl,hH,q⟩:=h;obtain⟨u,v,rfl,ru,rv⟩:=r.two;cases ru;cases(show v=Value.type "list" from rv);obtain⟨z,its,n,rr,hl,e⟩:=I.ei hH;exact Y6 CL I.bo ⟨_,e,rfl⟩ (b:=true) (by unfold PySem.W.kitOne;rw[if_pos (by decide)]) (fun z=>nomatch z) fun tk=>⟨.bl true,H,I.tok _,rfl,q⟩
section
variable{K:au}
def Og:List U->az->bH->Prop:=fun us A Q=>∃a ys,us=[.ref a,.ty "list"]/\A a=some (.lst ys)/\Q (.bl true) A
def VS:hZ K Of Og:=fun xs us A H Q' Q r g h k=>by
 obtain⟨a,ys,rfl,e,q⟩:=h
 cases r with
 | cons r1 r=>cases r with
  | cons r2 r =>
   cases r;cases r1;cases r2
   obtain⟨vs,h1,_⟩:=g.list e
   exact⟨a,vs,rfl,h1,k _ _ _ _ (.refl H) g (.bl true) q⟩
variable{A:az}
def Zrm:Og [.ref a,.ty "list"] A Q=∃ys,A a=some (.lst ys)/\Q (.bl true) A:=propext ⟨fun aF=>by obtain⟨_,ys,e,h⟩:=aF;cases e;exact⟨ys,h⟩,fun⟨ys,h⟩=>⟨a,ys,rfl,h⟩⟩
end
def Rl.bb:Rl->List Str
 | .nothing=>[]
 | .bead _=>[]
 | .named c=>[c]
 | .or x y=>x.bb++y.bb
 | .a7 x y=>x.bb++y.bb
 | .hold _ x=>x.bb
def Rl.kids:Rl->List Rl
 | .or x y=>[x,y]
 | .a7 x y=>[x,y]
 | .hold _ x=>[x]
 | _=>[]
def Rl.bJ:∀r:Rl,r.bb.length<=r.size
 | .nothing=>by simp[Rl.bb]
 | .bead _=>by simp[Rl.bb]
 | .named _=>by simp[Rl.bb,Rl.size]
 | .or x y=>by have:=x.bJ;have:=y.bJ;simp only[Rl.bb,Rl.size,Yt];lia
 | .a7 x y=>by have:=x.bJ;have:=y.bJ;simp only[Rl.bb,Rl.size,Yt];lia
 | .hold _ x=>by have:=x.bJ;simp only[Rl.bb,Rl.size];lia
def Rl.il{r:Rl}(h:r.ci≠2):r.bb=(r.kids.map Rl.bb).flatten:=by cases r<;>simp_all [Rl.bb,Rl.kids,Rl.ci]
def Rl.cq{r x:Rl}(h:x∈r.kids):x.dep+1<=r.dep/\x.size+1<=r.size:=by
 cases r<;>simp only[Rl.kids,Yo,YG,eZ]at h<;>simp only[Rl.dep,Rl.size]
 .rcases h with rfl|rfl<;>lia
 .rcases h with rfl|rfl<;>lia
 .subst h;lia
def iO(cs:Nat->Addr)(A:az):List Addr->List Rl->Prop
 | [],[]=>True
 | a::as,r::rs=>b4 cs A a r/\iO cs A as rs
 | _,_=>False
def iO.ext{A A':az}(e:Ext A A'):∀ {as:List Addr} {rs:List Rl},iO cs A as rs->iO cs A' as rs
 | [],[],_=>trivial
 | _::_,_::_,h=>⟨h.1.ext e,h.2.ext e⟩
theorem iO.get{A:az}:∀ {as:List Addr} {rs:List Rl} {k:Nat} {a:Addr},iO cs A as rs->as[k]? = some a->∃r,rs[k]? = some r/\b4 cs A a r
 | a::as,r::rs,0,b,h,e=>by simp at e;subst e;exact⟨r,rfl,h.1⟩
 | a::as,r::rs,k+1,b,h,e=>iO.get (k:=k) h.2 e
def iO.len{A:az}:∀ {as:List Addr} {rs:List Rl},iO cs A as rs->as.length=rs.length
 | [],[],_=>rfl
 | _::_,_::_,h=>congrArg (·+1) h.2.len
structure Gi (r:Rl) (zs:List Str):Prop where
 so:sortedS zs=true
 nd:zs.Nodup
 mem:∀z,z∈zs↔z∈r.bb
 len:zs.length<=r.bb.length
def Oh:x∈fO ks z↔x∈ks\/x=z:=by
 unfold fO;split
 .rename_i h;exact⟨.inl,fun q=>q.elim id fun e=>e▸h⟩
 .simp
def Oi(h:ks.Nodup):(fO ks z).Nodup:=by
 unfold fO;split
 .exact h
 .rename_i g;rw[List.nodup_append];exact⟨h,by simp,fun a ha b hb e=>g (by rw[Yp.mp hb]at e;exact e▸ha)⟩
theorem Gj(zs:List Str):∀i,i<=zs.length->(ij zs i).Nodup/\∀x,x∈ij zs i↔x∈zs.take i
 | 0,_=>by simp[ij]
 | i+1,h=>by
  obtain⟨h1,h2⟩:=Gj zs i (by lia)
  have e:zs[i]? = some (zs[i]'(by lia)):=Yg (by lia)
  rw[NS e]
  refine⟨Oi h1,fun x=>?_⟩
  rw[Oh,h2,List.take_succ_eq_append_getElem (by lia),Yy,Yp]
def Oj:∀ {a b:List Str},a.Nodup->b.Nodup->(∀z,z∈a↔z∈b)->a.Perm b
 | [],b,_,_,h=>by
  cases b with
  | nil=>exact .nil
  | cons y b=>exact absurd ((h y).mpr lE) (by simp)
 | x :: a,b,ha,hb,h=>by
  have hx:x∈b:=(h x).mp lE
  rw[Y7]at ha
  have p1:=List.perm_cons_erase hx
  refine((Oj ha.2 (hb.erase x) fun z=>?_).cons x).trans p1.symm
  rw[hb.mem_erase_iff]
  constructor
  .exact fun hz=>⟨fun e=>ha.1 (e▸hz),(h z).mp (m3 _ hz)⟩
  .rintro⟨Fy,VT⟩
   exact(Yo.mp ((h z).mpr VT)).resolve_left Fy
open PySem PySem.Spec PySem.W PyProof.Rows
section
open Classical in
def yz (h:Heap) (d:PyData) (y:Value):Bool:=if q:∃ e as,Reads h y e as then PyData.eqv q.choose d else false
def Ol(r:Reads h y e as):yz h d y=PyData.eqv e d:=by
 have q:∃e as,Reads h y e as:=⟨e,as,r⟩;unfold yz;rw[dif_pos q];obtain⟨bs,r2⟩:=q.choose_spec;rw[(reads_det (fun _ _ z _=>z) r r2).1]
end
def Om(neg:Bool)(K:au):R2:=fun x y H Q=>∃(l:Addr)(vs:List V)(ds:List PyData)(d:PyData),y=.ref l/\H l=some (.lst vs)/\gG K H ds vs/\Rep K H d x/\(∀e∈ds,e.canLay0=true/\e.depth<=190)/\d.canLay0=true/\Q (.bl (if neg then !ds.any (fun e=>PyData.eqv e d)else ds.any fun e=>PyData.eqv e d)) H
def VU:∀(its:List Value)(ds:List PyData),its.length=ds.length->(∀(i:Nat)(y:Value),its[i]? = some y->∃e as,ds[i]? = some e/\Reads h y e as)->its.any (yz h d)=ds.any fun e=>PyData.eqv e d:=by
 intro its;induction its with
 | nil=>intro ds hl _;cases ds with|nil=>rfl|cons _ _=>simp at hl
 | cons y ys ih =>
  intro ds hl ho;cases ds with
  | nil=>simp at hl
  | cons e es =>
   obtain⟨e',as,h1,ra⟩:=ho 0 y rfl;simp at h1;subst h1;rw[List.any_cons,List.any_cons,Ol ra,ih es (by simpa using hl) fun i y' hy=>ho (i+1) y' (by simpa using hy)]
section
def VV(hr:bV (k+1) X.A)(I:Inv X pins σ H s)(rx:aZ x v)(hH:H l=some (.lst vs))(lQ:gG X.K H ds vs)(hd:Rep X.K H d x)(ho:∀e∈ds,e.canLay0=true/\e.depth<=190)(Gk:d.canLay0=true):
  ∃its:List Value,s.heap.IsList l its.toArray/\(∀y,y∈its.toArray->SeqAt.EqAt X.A.in1 s y v (yz s.heap d y))/\its.toArray.any (yz s.heap d)=ds.any fun e=>PyData.eqv e d:=by
 obtain⟨z,its,n,r,hl,e⟩:=I.ei hH;obtain⟨bs,rb⟩:=Rep.reads I hd rx;have hun:=hr.un;have one:∀ {i:Nat} {y:Value},its[i]? = some y->∃e as,ds[i]? = some e/\Reads s.heap y e as:=by
  intro i y hy;obtain⟨w,hw,rel⟩:=LC r hy;obtain⟨e,h1,h2⟩:=lQ.at hw;obtain⟨as,ra⟩:=Rep.reads I h2 rel;exact⟨e,as,h1,ra⟩
 refine⟨its,⟨_,e,rfl,_,rfl⟩,fun y hy=>?_,?_⟩
 .have fZ:y∈its:=by simpa using hy
  obtain⟨i,hi⟩:=IA.mp fZ;obtain⟨e1,as,h1,ra⟩:=one hi;have hm:=ho e1 (Yk h1);rw[Ol ra];exact SeqAt.eqAt_reads e1 d _ s _ _ _ _ ra rb hm.1 Gk (by show X.A.units+1+_<cLine;have:=hm.2;lia)
 .rw[List.any_toArray];exact VU its ds (by rw[<- r.length,lQ.len]) fun i y=>one
def VW(hr:bV (k+1) X.A):a9 X (compareOp .In) (Om false X.K):=by
 intro pins s σ H x y v u Q I rx ry h;obtain⟨l,vs,ds,d,rfl,hH,lQ,hd,ho,Gk,q⟩:=h;cases ry;obtain⟨its,h1,h2,h3⟩:=VV hr I rx hH lQ hd ho Gk;refine SeqAt.in_listAt _ h1 h2 ?_;rw[h3];exact⟨.bl _,H,I,rfl,q⟩
end
section
variable{K:au}
def Gm(neg:Bool):fJ:=fun w u A Q=>match u with
 | .ref l=>∃(xs:List U)(ds:List PyData)(d:PyData),A l=some (.lst xs)/\ic A xs ds/\DU A w d/\(∀e∈ds,e.canLay0=true/\e.depth<=190)/\d.canLay0=true/\Q (.bl (if neg then !ds.any (fun e=>PyData.eqv e d)else ds.any fun e=>PyData.eqv e d)) A
 | _=>False
def VX:et K (Om neg K) (Gm neg):=fun x y u w A H Q' Q hu hw g h k=>by
 unfold Gm at h
 split at h
 .cases hw
  obtain⟨zs,ds,d,e,h1,h2,h3,h4,q⟩:=h
  obtain⟨vs,hH,r1⟩:=g.list e
  exact⟨_,vs,ds,d,rfl,hH,ic.mj g h1 r1,DU.rep g h2 hu,h3,h4,k _ _ _ _ (.refl H) g (.bl _) q⟩
 .exact h.elim
end
section
variable{X:Cx}(P:Program)(w:World)(hP:X.prog=P)(hw:X.w=w)
include hP hw
def VY(hc:X.calm=true):cf X (.type "set") (Gb P w):=by subst hP hw;exact N6 hc
def VZ(hc:X.calm=true):cf X (.builtin "sorted") (Gf P w):=by subst hP hw;exact Gg hc
end
def Znc{bE:List (Str×Nat)}{A:az}:MV P w nt bE wi g tt tk tv ρ A Q=wi ρ A fun J A1=>∀l,A1 l=none->Bt P w J g tt tk tv l Q (aCompStart nt bE ρ) (af A1 l (dS P w 0 [])):=rfl
section
variable{α:Type}[DecidableEq α]
def lh:∀ {l m:List α},l.Nodup->(∀y∈l,y∈m)->l.length<=m.length
 | [],m,_,_=>Y0 _
 | a :: l,m,nd,h=>by
  rw[Y7]at nd
  have ha:a∈m:=h a (lE ..)
  have:=lh (m:=m.erase a) nd.2 fun y hy=>(List.mem_erase_of_ne (fun e=>nd.1 (by rw[<- e];exact hy))).mpr (h y (m3 _ hy))
  rw[List.length_erase_of_mem ha]at this
  have:0<m.length:=List.length_pos_of_mem ha
  simp only[List.length_cons];lia
end
abbrev On:=Option Nat
def mB:On->On->On
 | none,y=>y
 | x,none=>x
 | some a,some b=>some (min a b)
def vN:On->On->On
 | some a,some b=>some (a+b)
 | _,_=>none
def du(x y:On):Prop:=∀b,y=some b->∃a,x=some a/\a<=b
def sV(x:On):du x x:=fun b h=>⟨b,h,Yj b⟩
def vO(h:du x y)(k:du y z):du x z:=fun c hc=>by
 obtain⟨b,hb,l⟩:=k c hc
 obtain⟨a,ha,m⟩:=h b hb
 exact⟨a,ha,YE m l⟩
def BP(h:du x y)(k:du y x):x=y:=by
 cases x with
 | none=>cases y with
  | none=>rfl
  | some b=>obtain⟨a,e,_⟩:=h b rfl;cases e
 | some a =>
  obtain⟨b,e,l⟩:=k a rfl;obtain⟨a',e',l'⟩:=h b e;cases e';rw[e,Nat.le_antisymm l' l]
def Gn(x:On):du x none:=fun _ h=>nomatch h
def Gp(x y:On):du (mB x y) x:=fun b h=>by
 subst h
 cases y with
 | none=>exact⟨b,rfl,Yj _⟩
 | some c=>exact⟨_,rfl,CQ _ _⟩
def Gq(x y:On):du (mB x y) y:=fun b h=>by
 subst h
 cases x with
 | none=>exact⟨b,rfl,Yj _⟩
 | some c=>exact⟨_,rfl,Nat.min_le_right _ _⟩
def Oo(h:du z x)(k:du z y):du z (mB x y):=fun b e=>by
 cases x with
 | none=>exact k b e
 | some a=>cases y with
  | none=>exact h b e
  | some c =>
   cases e
   rcases Nat.le_total a c with l|l
   .rw[rA l];exact h a rfl
   .rw[Nat.min_eq_right l];exact k c rfl
def c9(h:mB x y=some b):x=some b\/y=some b:=by
 cases x with
 | none=>exact .inr h
 | some a=>cases y with
  | none=>exact .inl h
  | some c =>
   injection h with h
   rcases Nat.le_total a c with l|l
   .rw[rA l]at h;exact .inl (by rw[h])
   .rw[Nat.min_eq_right l]at h;exact .inr (by rw[h])
def ph(h:vN x y=some b):∃a c,x=some a/\y=some c/\a+c=b:=by
 cases x with
 | none=>cases h
 | some a=>cases y with
  | none=>cases h
  | some c=>exact⟨a,c,rfl,rfl,by injection h⟩
def Rl.lst(e:Str->On):Rl->On
 | .nothing=>some 0
 | .bead _=>some 1
 | .named z=>e z
 | .or x y=>mB (x.lst e) (y.lst e)
 | .a7 x y=>vN (x.lst e) (y.lst e)
 | .hold k x=>if k<3 then some 0 else x.lst e
def Rl.cu(h:∀z,du (e z) (f z))(r:Rl):du (r.lst e) (r.lst f):=by
 induction r with
 | nothing=>exact sV _
 | bead c=>exact sV _
 | named z=>exact h z
 | or x y i j=>exact Oo (vO (Gp _ _) i) (vO (Gq _ _) j)
 | a7 x y i j =>
  intro b hb;obtain⟨a,c,e1,e2,l⟩:=ph hb;obtain⟨a',e3,l3⟩:=i a e1;obtain⟨c',e4,l4⟩:=j c e2;exact⟨a'+c',by simp only[Rl.lst,e3,e4,vN],by lia⟩
 | hold k x i =>
  simp only[Rl.lst];split
  .exact sV _
  .exact i
def Rl.pj(h:∀z,du (e z) (f z)):∀ {r:Rl} {b:Nat},r.lst e=some b->r.lst e≠r.lst f->∃z a,e z=some a/\a<=b/\e z≠f z:=by
 intro r;induction r with
 | nothing=>intro b _ n;exact(n rfl).elim
 | bead c=>intro b _ n;exact(n rfl).elim
 | named z=>intro b hb n;exact⟨z,b,hb,Yj b,n⟩
 | or x y i j =>
  intro b hb n;by_cases hx:x.lst e=x.lst f
  .by_cases hy:y.lst e=y.lst f
   .exact(n (by simp only[Rl.lst,hx,hy])).elim
   .rcases c9 hb with h1|h1
    .exfalso;refine n (BP ((Rl.or x y).cu h) ?_);show du (mB (x.lst f) (y.lst f)) ((Rl.or x y).lst e);rw[hb,<- h1,hx];exact Gp _ _
    .exact j h1 hy
  .rcases c9 hb with h1|h1
   .exact i h1 hx
   .by_cases hy:y.lst e=y.lst f
    .exfalso;refine n (BP ((Rl.or x y).cu h) ?_);show du (mB (x.lst f) (y.lst f)) ((Rl.or x y).lst e);rw[hb,<- h1,hy];exact Gq _ _
    .exact j h1 hy
 | a7 x y i j =>
  intro b hb n;obtain⟨a,c,e1,e2,l⟩:=ph hb;by_cases hx:x.lst e=x.lst f
  .by_cases hy:y.lst e=y.lst f
   .exact(n (by simp only[Rl.lst,hx,hy])).elim
   .obtain⟨z,d,g1,g2,g3⟩:=j e2 hy;exact⟨z,d,g1,by lia,g3⟩
  .obtain⟨z,d,g1,g2,g3⟩:=i e1 hx;exact⟨z,d,g1,by lia,g3⟩
 | hold k x i =>
  intro b hb n;simp only[Rl.lst]at hb n;split at hb
  .rename_i hk;simp[hk]at n
  .rename_i hk;simp only[hk,fj]at n;exact i hb n
def lv(F:Str->Option Rl):Nat->Str->On
 | 0,_=>none
 | t+1,z=>match F z with
  | some r=>r.lst (lv F t)
  | none=>none
theorem yA(F:Str->Option Rl):∀t z,du (lv F (t+1) z) (lv F t z)
 | 0,z=>Gn _
 | t+1,z=>by
  show du (match F z with|some r=>r.lst (lv F (t+1))|none=>none) (match F z with|some r=>r.lst (lv F t)|none=>none)
  cases F z with
  | none=>exact sV _
  | some r=>exact r.cu (yA F t)
def V0(F:Str->Option Rl)(z:Str):∀t,i<=t->du (lv F t z) (lv F i z):=fun t h=>by
 induction h with
 | refl=>exact sV _
 | step _ ih=>exact vO (yA F _ z) ih
def V1(F:Str->Option Rl):∀t z b,lv F (t+1) z=some b->lv F (t+1) z≠lv F t z->∃l:List Str,l.length=t+1/\l.Nodup/\∀y∈l,(∃r,F y=some r)/\∃i a,i<=t/\a<=b/\lv F (i+1) y=some a:=by
 intro t;induction t with
 | zero =>
  intro z b hb n;refine⟨[z],rfl,by simp,fun y hy=>?_⟩;rw[Yp.mp hy];refine⟨?_,0,b,Yj _,Yj _,hb⟩;cases h:F z with
  | some r=>exact⟨r,rfl⟩
  | none=>simp only[lv,h]at hb;cases hb
 | succ t ih =>
  intro z b hb n;cases h:F z with
  | none=>simp only[lv,h]at hb;cases hb
  | some r =>
   have e1:∀s,lv F (s+1) z=r.lst (lv F s):=fun s=>by simp only[lv,h]
   have xO:=hb;have n':=n;rw[e1]at xO n';rw[e1]at n';obtain⟨y,a,g1,g2,g3⟩:=Rl.pj (yA F t) xO n';obtain⟨l,l1,l2,l3⟩:=ih y a g1 g3;refine⟨z::l,by simp[l1],Y7.mpr ⟨fun hz=>?_,l2⟩,fun x hx=>?_⟩
   .obtain⟨_,i,c,hi,hc,hv⟩:=l3 z hz;have h1:=V0 F (i:=i+1) z (t+1) (by lia);obtain⟨d,hd,gB⟩:=h1 c hv;refine n (BP (yA F (t+1) z) ?_);rw[hb,hd];intro q e;cases e;exact⟨d,rfl,by lia⟩
   .rcases Yo.mp hx with rfl|hx
    .exact⟨⟨r,h⟩,t+1,b,Yj _,Yj _,hb⟩
    .obtain⟨q,i,c,hi,hc,hv⟩:=l3 x hx;exact⟨q,i,c,by lia,by lia,hv⟩
def Gr(F:Str->Option Rl){ns:List Str}(h:∀z r,F z=some r->z∈ns)(z:Str):lv F (ns.length+1) z=lv F ns.length z:=by
 refine Classical.byContradiction fun n=>?_;cases hb:lv F (ns.length+1) z with
 | none =>
  have:=yA F ns.length z;rw[hb]at this n;cases hc:lv F ns.length z with
  | none=>exact n hc.symm
  | some b=>obtain⟨a,e,_⟩:=this b hc;cases e
 | some b =>
  obtain⟨l,l1,l2,l3⟩:=V1 F ns.length z b hb n;have:=lh l2 (m:=ns) fun y hy=>by obtain⟨⟨r,e⟩,_⟩:=l3 y hy;exact h y r e
  lia
theorem Oq{t:Nat}(h:∀z,lv F (t+1) z=lv F t z):∀s,lv F (t+s)=lv F t
 | 0=>rfl
 | s+1=>by
  funext z
  have ih:=Oq h s
  show lv F (t+s+1) z=_
  rw[<- h z]
  simp only[lv,ih]
def lV(F:Str->Option Rl)(n:Nat):Str->On:=lv F n
def V2{ns:List Str}(h:∀z r,F z=some r->z∈ns)(hz:F z=some r):r.lst (lV F ns.length)=lV F ns.length z:=by
 have:=Gr F h z;simp only[lv,hz]at this;exact this
def V3{ns:List Str}(h:∀z r,F z=some r->z∈ns){t:Nat}(ht:t<=ns.length)(e:∀z,lv F (t+1) z=lv F t z):lv F t=lV F ns.length:=by
 have:=Oq e (ns.length-t);rw[Nat.add_sub_cancel' ht]at this;exact this.symm
def lj(A:az)(f:Addr):az:=fun x=>if x=f then none else A x
def vP{A:az}:lj A f f=none:=if_pos rfl
def pq{A:az}(h:x≠f):lj A f x=A x:=if_neg h
def vQ{A:az}{o:AO}:af (lj A f) f o=af A f o:=by
 funext x;by_cases e:x=f
 .rw[e,Zd,Zd]
 .rw[Zn e,Zn e,pq e]
def Ot{A:az}{o:AO}(h:A f=some o):af (lj A f) f o=A:=by
 funext x;by_cases e:x=f
 .rw[e,Zd,h]
 .rw[Zn e,pq e]
def vR{B A:az}(e:Ext B A)(h:B f=none):Ext B (lj A f):=fun x o q=>by
 rw[pq (fun z=>by rw[z,h]at q;cases q)]
 exact e x o q
def i7{A B:az}(e:Ext A B)(h:B x=none):A x=none:=by
 cases q:A x with
 | none=>rfl
 | some o=>rw[e x o q]at h;cases h
section
variable{A:az}
def yB(items:List U)(p:Nat->Bool)(f:Nat->U)(T:a8->Prop)(h0:T τ)(hl:A l=none)(hn:items.length<=100000)(hJ:∀ k A2,k<=items.length->Ext A A2->J k A2 items[k]?)(hs : ∀ k u τ A2,items[k]? = some u->T τ->Ext A A2->∀ (Cy:a8->U->az->Prop) (Cn:a8->az->Prop),(p k=true->∀ aS A3,T aS->Ext A2 A3->Cy aS (f k) A3)->(p k=false->∀ aS A3,T aS->Ext A2 A3->Cn aS A3) ->
   g u τ A2 fun aS A3=>tt aS A3 fun ok A4=>if ok=true then te aS A4 (Cy aS)else Cn aS A4)(hd:∀B,Ext A B->B l=none->Q (.ref l) (af B l (.lst (((List.range items.length).filter p).map f)))):ny J g tt te l Q τ (af A l (.lst [])):=by
 refine⟨fun i m τ A2=>m=items.length-i/\i<=items.length/\T τ/\∃B,Ext A B/\B l=none/\A2=af B l (.lst (((List.range i).filter p).map f)),⟨_,rfl,Y0 _,h0,A,Ext.refl A,hl,rfl⟩,?_⟩;rintro i m τ A2 ⟨rfl,hi,ht,B,eB,hB,rfl⟩;have e2:Ext A (af B l (.lst (((List.range i).filter p).map f))):=eB.trans (Ext.new hB);have j:=hJ i _ hi e2;by_cases bD:i<items.length
 .have hu:items[i]? = some items[i]:=Yg bD;rw[hu]at j;refine .inr ⟨_,j,hs i _ τ _ hu ht e2 _ _ (fun hp aS A3 ka e3=>⟨_,e3 _ _ Zd,?_,_,?_,rfl,bD,ka,lj A3 l,vR (e2.trans e3) hl,vP,?_⟩) (fun hp aS A3 ka e3=>⟨_,?_,rfl,bD,ka,lj A3 l,vR (e2.trans e3) hl,vP,?_⟩)⟩
  .have:(((List.range i).filter p).map f).length<=i:=by rw[Yc];exact YE (List.length_filter_le ..) (by simp)
   have:(100000:Nat)<sizeLine:=by decide
   lia
  .lia
  .rw[vQ,List.range_succ,zM,Ys];simp[hp]
  .lia
  .rw[vQ,List.range_succ,zM,Ys];simp only[hp,List.filter_cons,List.filter_nil,Y2,fj,YaY,YW];exact((vQ (A:=A3)).symm.trans (Ot (e3 _ _ Zd))).symm
 .have e:i=items.length:=by lia
  subst e;rw[Y1 (Yj _)]at j;exact .inl ⟨j,hd B eB hB⟩
def Ou(items:List U)(W:Nat->U->az->Prop)(T:a8->Prop)(h0:T τ)(hl:A l=none)(hn:items.length<=100000)(hJ:∀k A2,k<=items.length->Ext A A2->J k A2 items[k]?)(hW:∀k v A1 B,(A1 l=none\/∃ys,A1 l=some (.lst ys))->(∀x o,x≠l->A1 x=some o->B x=some o)->W k v A1->W k v B)(hs:∀k u τ A2,items[k]? = some u->T τ->Ext A A2->∀Cy:a8->U->az->Prop,(∀aS v A3,T aS->Ext A2 A3->W k v A3->Cy aS v A3)->g u τ A2 fun aS A3=>te aS A3 (Cy aS))(hd:∀B ys,Ext A B->B l=none->ys.length=items.length->(∀k y,ys[k]? = some y->W k y B)->Q (.ref l) (af B l (.lst ys))):ny J g sy te l Q τ (af A l (.lst [])):=by
 refine⟨fun i m τ A2=>m=items.length-i/\i<=items.length/\T τ/\∃B ys,Ext A B/\B l=none/\ys.length=i/\(∀k y,ys[k]? = some y->W k y B)/\A2=af B l (.lst ys),⟨_,rfl,Y0 _,h0,A,[],Ext.refl A,hl,rfl,fun k y h=>by simp at h,rfl⟩,?_⟩;rintro i m τ A2 ⟨rfl,hi,ht,B,ys,eB,hB,hy,hw,rfl⟩;have e2:Ext A (af B l (.lst ys)):=eB.trans (Ext.new hB);have j:=hJ i _ hi e2;by_cases bD:i<items.length
 .have hu:items[i]? = some items[i]:=Yg bD;rw[hu]at j;refine .inr ⟨_,j,hs i _ τ _ hu ht e2 _ fun aS v A3 ka e3 w3=>⟨ys,e3 _ _ Zd,?_,items.length-(i+1),by lia,rfl,bD,ka,lj A3 l,ys++[v],vR (e2.trans e3) hl,vP,by simp[hy],fun k y hk=>?_,vQ.symm⟩⟩
  .have:(100000:Nat)<sizeLine:=by decide
   lia
  .by_cases mC:k<ys.length
   .rw[YU mC]at hk;exact hW k y B _ (.inl hB) (fun x o hx q=>by rw[pq hx];exact e3 _ _ (by rw[Zn hx];exact q)) (hw k y hk)
   .rw[YQ (by lia)]at hk;obtain⟨h1,h2⟩:=Yh.mp hk;have sh:k=i:=by simp at h1;lia
    subst sh;simp only[hy,qa,List.getElem_cons_zero]at h2;subst h2;exact hW k v A3 _ (.inr ⟨ys,e3 _ _ Zd⟩) (fun x o hx q=>by rw[pq hx];exact q) w3
 .have e:i=items.length:=by lia
  subst e;rw[Y1 (Yj _)]at j;exact .inl ⟨j,hd B ys eB hB hy hw⟩
def nK:∀ {kus:List (Str×U)},k∉kus.map (·.1)->dq k u kus=kus++[(k,u)]
 | [],_=>rfl
 | (a,b)::r,h=>by
  rw[Yr,Yo,not_or]at h
  show(if a=k then(a,u)::r else(a,b)::dq k u r)=_
  rw[if_neg (Ne.symm h.1),nK h.2]
  rfl
theorem nM{α β:Type}:∀ {xs:List α} {ys:List β},xs.length=ys.length->(xs.zip ys).map (·.1)=xs
 | [],[],_=>rfl
 | x::xs,y::ys,h=>by rw[List.zip_cons_cons,Yr,nM (by simpa using h)]
def yC(items:List U)(keys:List Str)(hk:keys.length=items.length)(nd:keys.Nodup)(W:Nat->U->az->Prop)(T:a8->Prop)(h0:T τ)(hl:A l=none)(hn:items.length<=1000)(hJ:∀k A2,k<=items.length->Ext A A2->J k A2 items[k]?)(hW:∀k v A1 B,(A1 l=none\/∃ep kus,A1 l=some (dS P w ep kus))->(∀x o,x≠l->A1 x=some o->B x=some o)->W k v A1->W k v B)(hs:∀k u z τ A2,items[k]? = some u->keys[k]? = some z->T τ->Ext A A2->∀Cy:a8->U->U->az->Prop,(∀aS v A3,T aS->Ext A2 A3->W k v A3->Cy aS (.str z) v A3)->g u τ A2 fun aS A3=>tk aS A3 fun y A4=>tv aS A4 (Cy aS y))(hd:∀B vs ep,Ext A B->B l=none->vs.length=items.length->(∀k y,vs[k]? = some y->W k y B)->Q (.ref l) (af B l (dS P w ep (keys.zip vs)))):Bt P w J g sy tk tv l Q τ (af A l (dS P w 0 [])):=by
 refine Uh items T h0 (fun i A2=>∃B vs ep,Ext A B/\B l=none/\vs.length=i/\(∀k y,vs[k]? = some y->W k y B)/\A2=af B l (dS P w ep ((keys.take i).zip vs))) ⟨A,[],0,Ext.refl A,hl,rfl,fun k y h=>by simp at h,rfl⟩ (fun k A2 h1 ⟨B,vs,ep,eB,hB,_,_,e⟩=>hJ k A2 h1 (by rw[e];exact eB.trans (Ext.new hB))) ?_ ?_
 .rintro i u τ A2 hu ht ⟨B,vs,ep,eB,hB,hv,hw,rfl⟩ Cy hC;have hi:i<keys.length:=by rw[hk];exact(Yh.mp hu).1
  have hz:keys[i]? = some keys[i]:=Yg hi;have e2:Ext A (af B l (dS P w ep ((keys.take i).zip vs))):=eB.trans (Ext.new hB);have hlen:(keys.take i).length=vs.length:=by rw[YK];lia
  refine hs i u keys[i] τ _ hu hz ht e2 _ fun aS v A3 ka e3 w3=>hC aS _ v A3 ep _ ka (e3 _ _ Zd) ?_ fun aI=>⟨lj A3 l,vs++[v],aI,vR (e2.trans e3) hl,vP,by simp[hv],fun k y hk=>?_,?_⟩
  .rw[List.length_zip,hlen,Nat.min_self,hv,gA];lia
  .by_cases mC:k<vs.length
   .rw[YU mC]at hk;exact hW k y B _ (.inl hB) (fun x o hx q=>by rw[pq hx];exact e3 _ _ (by rw[Zn hx];exact q)) (hw k y hk)
   .rw[YQ (by lia)]at hk;obtain⟨h1,h2⟩:=Yh.mp hk;have sh:k=i:=by simp at h1;lia
    subst sh;simp only[hv,qa,List.getElem_cons_zero]at h2;subst h2;exact hW k v A3 _ (.inr ⟨_,_,e3 _ _ Zd⟩) (fun x o hx q=>by rw[pq hx];exact q) w3
  .rw[vQ,nK,List.take_succ_eq_append_getElem hi,List.zip_append hlen]
   .rfl
   .rw[nM hlen];intro hm;obtain⟨j,hj,e⟩:=pW.mp hm;rw[YK]at hj;rw[List.getElem_take]at e;have:=jU nd (i:=j) (j:=i) (Yg (by lia)) (by rw[hz,e]);lia
 .rintro A2 ⟨B,vs,ep,eB,hB,hv,hw,rfl⟩;rw[<- hk,Y4];exact hd B vs ep eB hB hv hw
end
def Ov(hc:X.calm=true):cf X (.builtin "any") (fun xs H Q=>∃(p:Addr)(bs:List Bool),xs=[.ref p]/\aV X.K H p (bs.map V.bl)/\Q (.bl (bs.any id)) H):=by
 intro pins s σ H xs us Q I r h;obtain⟨p,bs,rfl,hl,q⟩:=h;obtain⟨u,rfl,ru⟩:=r.one;cases ru;obtain⟨its,rv,pl,hz⟩:=I.list hl;have hlen:its.toArray.size=bs.length:=by have:=rv.length;simp at this;simp;lia
 refine call_any_walk (uG pl.isList ?_);have aR:p≠s.heap.objs.size:=Yn (by obtain⟨o,n,e,_⟩:=pl;exact Ym e);refine⟨s.heap.objs.size,_,_,_,_,_,fun i=>bs.getD i false,rfl,wz (show X.A.in1.handled=none from I.ok.hd hc) s.heap.objs.size p aR its.toArray,⟨⟨_,Yl _ rfl,rfl,rfl⟩,pl.isList.at fun o e=>Ye _ e⟩,fun i v s' Q' E' hv Gs=>?_,fun h' tk hk=>?_⟩
 .have jW:its[i]? = some v:=by simpa using hv
  have hi:i<bs.length:=by rw[<- hlen];simpa using(Yh.mp jW).1
  obtain⟨u,hu,ru⟩:=rv.get (show(bs.map V.bl)[i]? = some (.bl bs[i]) by rw[Yi,Yg hi];rfl);rw[jW]at hu;cases hu;cases ru;dsimp only at Gs;rw[YY,Yg hi]at Gs;exact rj Gs
 .have e:(List.range its.toArray.size).any (fun i=>bs.getD i false)=bs.any id:=by
   rw[hlen,wt,List.any_eq_true,List.any_eq_true];constructor
   .rintro⟨i,hi,e⟩;rw[YY,Yg (p0.mp hi)]at e;exact⟨_,uI _,e⟩
   .rintro⟨b,hb,e⟩;obtain⟨i,hi,rfl⟩:=pW.mp hb;exact⟨i,p0.mpr hi,by rw[YY,Yg hi];exact e⟩
  rw[e];exact⟨.bl _,H,I.kept (t':=tk) fun b o e=>hk b o (by simp;exact Yn (Ym e)) (Ye _ e),rfl,q⟩
def Ow:List U->az->bH->Prop:=fun us A Q=>∃a bs,us=[.ref a]/\A a=some (.lst (List.map U.bl bs))/\Q (.bl (bs.any id)) A
def Ox{K:au}:hZ K (fun xs H Q=>∃(p:Addr)(bs:List Bool),xs=[.ref p]/\aV K H p (bs.map V.bl)/\Q (.bl (bs.any id)) H) Ow:=fun xs us A H Q' Q r g h k=>by
 obtain⟨a,bs,rfl,e,h⟩:=h
 obtain⟨v,rfl,r'⟩:=r.inv1
 cases r'
 obtain⟨vs,h1,r1⟩:=g.list e
 exact⟨_,bs,rfl,aV.of (by rw[h1,r1.KO]),k _ _ _ _ (.refl H) g (.bl _) h⟩
def ZtL{A:az}:Ow [.ref a] A Q=∃bs,A a=some (.lst (List.map U.bl bs))/\Q (.bl (bs.any id)) A:=propext ⟨fun aF=>by obtain⟨_,bs,e,h⟩:=aF;cases e;exact⟨bs,h⟩,fun⟨bs,h⟩=>⟨a,bs,rfl,h⟩⟩
def mD{t e:AS}{A:az}(k:Bool)(h1:∀B:Bool->az->Prop,(∀A',Ext A A'->B k A')->c ρ A B)(h2:∀A',Ext A A'->if k=true then t D ρ A' else e D ρ A'):o6 c t e D ρ A:=h1 _ h2
def cT.of(hS:cT P w h a ks):∃n,h.SetOf (strKind P w) a (fun z=>decide (z∈ks)) n:=by
 obtain⟨o,es,ep,t,e1,e2,e3,e4,⟨l,e5,pl⟩,e6,e7,_⟩:=hS;exact⟨_,o,es,ep,t,e1,e2,e3,e4,fun z=>by rw[zP,<- pl.mem_iff,<- FZ e5 z];rfl,e6,e7,rfl⟩
section
def Oy(P:Program)(w:World):R2:=fun x y H Q=>∃z a ks,x=.str z/\y=.ref a/\H a=some (jG P w a ks)/\Q (.bl (!decide (z∈ks))) H
def V4:a9 X (compareOp .NotIn) (Oy X.prog X.w):=by
 intro pins s σ H x y v u Q I rx ry h;obtain⟨z,a,ks,rfl,rfl,e,q⟩:=h;obtain⟨t,rfl⟩:=rx;cases ry;obtain⟨n,hS⟩:=cT.of (I.aG a _ e).1;exact wpAny_notInSet_of (strKind_is X.prog X.w z t) rfl hS ⟨.bl _,H,I.tok _,rfl,q⟩
end
def Oz(P:Program)(w:World):fJ:=fun x y A Q=>∃z a ks,x=.str z/\y=.ref a/\A a=some (tS P w ks)/\Q (.bl (!decide (z∈ks))) A
def V5{K:au}:et K (Oy P w) (Oz P w):=fun x y u v A H Q' Q hu hw g h k=>by
 obtain⟨z,a,ks,rfl,rfl,e,q⟩:=h
 cases hu;cases hw
 exact⟨z,a,ks,rfl,rfl,g.set e,k _ _ _ _ (.refl H) g (.bl _) q⟩
def ZrN{A:az}:Oz P w (.str z) (.ref a) A Q=∃ks,A a=some (tS P w ks)/\Q (.bl (!decide (z∈ks))) A:=propext ⟨fun aF=>by obtain⟨_,_,ks,x,y,h⟩:=aF;cases x;cases y;exact⟨ks,h⟩,fun⟨ks,h⟩=>⟨_,_,ks,rfl,rfl,h⟩⟩
def ke.OA{K:au}(h:ke K l rt)(hL:∀c∈l,fe K c)(hi:i<9)(js:List Nat)(hj:∀j∈js,j<9)(hn:l.length=9:=by rfl):Bj K (jz l i) (js.map (jz l)) (js.any (i==·)):=by
 rw[<- hn]at hi;refine⟨hL _ (sJ hi),Bk h.fi (sJ hi),h.sp,h.tk,Bk h.mr (sJ hi),?_⟩;induction js with
 | nil=>rfl
 | cons j js ih =>
  have ih:=ih fun k hk=>hj k (.tail _ hk);simp only[Yr,kitAny,h.L8 hi (by rw[hn];exact hj j (.head _)),List.any_cons];cases(i==j)
  .exact ih
  .rfl
def ke.no{K:au}(h:ke K l rt)(hL:∀c∈l,fe K c)(hi:i<9)(hj:j<9)(n:i≠j)(hn:l.length=9:=by rfl):vw K (jz l i) (jz l j) false:=by
 have:=h.L9 hL hi hj hn;rwa [Yw.mpr n]at this
def ke.yes{K:au}(h:ke K l rt)(hL:∀c∈l,fe K c)(hi:i<9)(hj:j<9)(n:i=j)(hn:l.length=9:=by rfl):vw K (jz l i) (jz l j) true:=by
 have:=h.L9 hL hi hj hn;rwa [beq_iff_eq.mpr n]at this
def d6{α:Type}{a b c d:α}:[a,b,c,d].length<=sizeLine:=by show 4<=sizeLine;decide
def oU:On->U
 | none=>.ay
 | some n=>.int n
def V6:∀ {x y:On},oU x=oU y->x=y
 | none,none,_=>rfl
 | none,some b,h=>nomatch h
 | some a,none,h=>nomatch h
 | some a,some b,h=>by injection h with h;rw[Int.ofNat.inj h]
def V7(x:On):kZ (oU x):=by cases x with|none=>exact .inl rfl|some n=>exact .inr ⟨_,rfl⟩
def ip(ns:List Str)(e:Str->On):List (Str×U):=ns.map fun z=>(z,oU (e z))
theorem OB{α:Type}(f:Str->α):∀ {ns:List Str},z∈ns->(ns.map fun z=>(z,f z)).lookup z=some (f z)
 | a :: ns,h=>by
  by_cases e:z=a
  .rw[e,Yr,List.lookup_cons_self]
  .rw[Yr,List.lookup_cons,Yw.mpr e]
   exact OB f ((Yo.mp h).resolve_left e)
def V8(h:z∈ns):(ip ns e).lookup z=some (oU (e z)):=OB (fun z=>oU (e z)) h
theorem yD{α:Type}:∀ {kus:List (Str×α)},z∉kus.map (·.1)->kus.lookup z=none
 | [],_=>rfl
 | (a,b)::r,h=>by
  rw[Yr,Yo,not_or]at h
  rw[List.lookup_cons,Yw.mpr h.1]
  exact yD h.2
def V9:ip ns e=ip ns f↔∀z∈ns,e z=f z:=by
 unfold ip;rw[List.map_inj_left];exact⟨fun h z hz=>V6 (Prod.mk.inj (h z hz)).2,fun h z hz=>by rw[h z hz]⟩
def OC:(ip ns e).map (·.1)=ns:=by
 unfold ip;rw[jS];exact List.map_id ns
def OD:∀p∈ip ns e,kZ p.2:=fun p hp=>by
 obtain⟨z,_,rfl⟩:=YS.mp hp
 exact V7 _
def Rl.gj{r x:Rl}(h:x∈r.kids)(hz:z∈x.bb):z∈r.bb:=by
 cases r with
 | nothing=>cases h
 | bead c=>cases h
 | named c=>cases h
 | or a b =>
  rcases Yo.mp h with rfl|h
  .exact Y3 _ hz
  .rw[Yp.mp h]at hz;exact Yz _ hz
 | a7 a b =>
  rcases Yo.mp h with rfl|h
  .exact Y3 _ hz
  .rw[Yp.mp h]at hz;exact Yz _ hz
 | hold k a=>rw[Yp.mp h]at hz;exact hz
def Rl.hp(e:Str->On):Rl->Bool
 | .or x y=>x.hp e||y.hp e
 | .a7 x y=>x.hp e||y.hp e
 | .hold _ x=>decide (x.lst e=some 0)||x.hp e
 | _=>false
def Rl.lean(e:Str->On):Rl->List Str
 | .named z=>[z]
 | .or x y=>x.lean e++y.lean e
 | .a7 x y=>(if y.lst e=some 0 then x.lean e else[])++(if x.lst e=some 0 then y.lean e else[])
 | .hold _ x=>x.lean e
 | _=>[]
def Rl.c_:∀ {r:Rl},z∈r.lean e->z∈r.bb:=by
 intro r;induction r with
 | nothing=>exact id
 | bead c=>exact id
 | named c=>exact id
 | or x y i j=>exact fun h=>(Yy.mp h).elim (fun h=>Y3 _ (i h)) fun h=>Yz _ (j h)
 | a7 x y i j =>
  intro h;refine(Yy.mp h).elim (fun h=>?_) fun h=>?_
  .split at h
   .exact Y3 _ (i h)
   .cases h
  .split at h
   .exact Yz _ (j h)
   .cases h
 | hold k x i=>exact i
def Rl.bh:∀r:Rl,(r.lean e).length<=r.size:=by
 intro r;induction r with
 | nothing=>exact Y0 _
 | bead c=>exact Y0 _
 | named c=>exact Yj _
 | or x y i j=>simp only[Rl.lean,Rl.size,Yt];lia
 | a7 x y i j =>
  simp only[Rl.lean,Rl.size,Yt];have h1:(if y.lst e=some 0 then x.lean e else[]).length<=(x.lean e).length:=by split<;>simp
  have h2:(if x.lst e=some 0 then y.lean e else[]).length<=(y.lean e).length:=by split<;>simp
  lia
 | hold k x i=>simp only[Rl.lean,Rl.size];lia
def Rl.iq(r:Rl):r.kids.length<=2:=by cases r<;>simp[Rl.kids]
def Gu{α β:Type}(f:α->β)(xs:List α)(d:α):(List.range xs.length).map (fun k=>f (xs[k]?.getD d))=xs.map f:=by
 apply CN;intro k;rw[Yi,Yi];by_cases h:k<xs.length
 .rw[IH h,Yg h];simp[Yg h]
 .rw[Y1 (by simpa using h),Y1 (by simpa using h)];rfl
def fN:On->Bool:=fun x=>x.isSome
def V_:∀x y:On,∃ns:List Int,((List.range 2).filter fun k=>fN (([x,y][k]?).getD none)).map (fun k=>oU (([x,y][k]?).getD none))=ns.map U.int/\(ns=[]->oU (mB x y)=.ay)/\∀m,m∈ns->(∀z∈ns,m<=z)->oU (mB x y)=.int m
 | none,none=>⟨[],rfl,fun _=>rfl,fun m h=>by cases h⟩
 | some a,none=>⟨[(a:Int)],rfl,(fun h=>by cases h),fun m h _=>by rw[Yp.mp h];rfl⟩
 | none,some a=>⟨[(a:Int)],rfl,(fun h=>by cases h),fun m h _=>by rw[Yp.mp h];rfl⟩
 | some a,some b=>by
  refine⟨[(a:Int),(b:Int)],rfl,(fun h=>by cases h),fun m h hm=>?_⟩
  have h1:=hm a (.head _)
  have h2:=hm b (.tail _ (.head _))
  show U.int ((min a b:Nat):Int)=_
  rcases Yo.mp h with rfl|h
  .rw[rA (by lia)]
  .rw[Yp.mp h]at h1 ⊢
   rw[Nat.min_eq_right (by lia)]
def OE{A:az}{Q:bH}(hl:A l=none)(hJ:∀k A2,k<=2->Ext A A2->J k A2 [oU x,oU y][k]?)(q:∀B,Ext A B->Q (oU (mB x y)) B):
  ny J (nq 0) (aB (xB EK (mh 0) (aC U.ay))) (mh 0) l (fun v A1=>∃p ns,v=.ref p/\A1 p=some (.lst (List.map U.int ns))/\(ns=[]->Q .ay A1)/\∀m,m∈ns->(∀x∈ns,m<=x)->Q (.int m) A1) [none] (af A l (.lst [])):=by
 obtain⟨ns,h1,h2,h3⟩:=V_ x y;refine Lv [oU x,oU y] (fun k=>fN (([x,y][k]?).getD none)) (fun k=>oU (([x,y][k]?).getD none)) hl (show 2<=100000 by decide) hJ ?_ ⟨l,ns,rfl,by rw[Zd];exact congrArg (fun z=>some (AO.lst z)) h1,fun h=>h2 h▸q _ (Ext.new hl),fun m h4 h5=>h3 m h4 h5▸q _ (Ext.new hl)⟩;intro k u A2 hu e2 Cy Cn hy hn;obtain⟨v,hv,rfl⟩:∃v,[x,y][k]? = some v/\u=oU v:=by
  rcases k with _|_|k
  .exact⟨x,rfl,(YD hu).symm⟩
  .exact⟨y,rfl,(YD hu).symm⟩
  .cases hu
 rw[hv]at hy hn;refine⟨rfl,!(oU v).c7,rfl,?_⟩;cases v with
 | none=>exact jv (by decide) (hn rfl)
 | some n=>exact gH rfl (hy rfl)
def qN(vs:List On):On:=vs.foldr vN (some 0)
def OF:∀ {vs:List On},vs.any (·.isNone)=true->qN vs=none
 | none::vs,_=>rfl
 | some a::vs,h=>by
  show vN (some a) (qN vs)=none
  rw[OF (vs:=vs) h];rfl
def OG:∀ {vs:List On},vs.any (·.isNone)=false->∃ns:List Int,vs.map oU=ns.map U.int/\oU (qN vs)=.int ns.sum
 | [],_=>⟨[],rfl,rfl⟩
 | none::vs,h=>nomatch h
 | some a::vs,h=>by
  obtain⟨ns,h1,h2⟩:=OG (vs:=vs) h
  refine⟨(a:Int)::ns,by rw[Yr,Yr,h1];rfl,?_⟩
  show oU (vN (some a) (qN vs))=_
  cases e:qN vs with
  | none=>rw[e]at h2;cases h2
  | some b =>
   rw[e]at h2
   injection h2 with h2
   show U.int ((a+b:Nat):Int)=_
   rw[List.sum_cons,<- h2];rfl
def oD:On->PyData
 | none=>.none
 | some n=>.int n
def V'{A:az}{vs:List On}(h:A l=some (.lst (vs.map oU)))(q:Q (.bl (vs.any (·.isNone))) A):Gm false .ay (.ref l) A Q:=by
 have h1:∀vs:List On,ic A (vs.map oU) (vs.map oD)/\(∀e∈vs.map oD,e.canLay0=true/\e.depth<=190)/\((vs.map oD).any fun e=>PyData.eqv e .none)=vs.any (·.isNone):=fun vs=>by
  induction vs with
  | nil=>exact⟨.nil,by simp,rfl⟩
  | cons v vs ih =>
   obtain⟨i1,i2,i3⟩:=ih;cases v with
   | none=>exact⟨.cons .ay i1,by rw[Yr];exact List.forall_mem_cons.mpr ⟨⟨rfl,by decide⟩,i2⟩,by rw[Yr,List.any_cons,List.any_cons,i3];rfl⟩
   | some n=>exact⟨.cons (.int _) i1,by rw[Yr];exact List.forall_mem_cons.mpr ⟨⟨rfl,by simp[PyData.depth,oD]⟩,i2⟩,by rw[Yr,List.any_cons,List.any_cons,i3];rfl⟩
 obtain⟨g1,g2,g3⟩:=h1 vs;refine⟨_,_,_,h,g1,.ay,g2,rfl,?_⟩;rw[if_neg (by decide),g3];exact q
def Rl.ir(e:Str->On):Rl->Bool
 | .hold _ x=>decide (x.lst e=some 0)
 | _=>false
def Rl.pw(e:Str->On)(r:Rl):r.hp e=(r.ir e||(r.kids.map fun x=>x.hp e).any id):=by
 cases r<;>simp[Rl.hp,Rl.ir,Rl.kids]
def OH:R2:=fun x y H Q=>∃i,y=.int i/\(x=.ay/\Q (.bl false) H\/∃j,x=.int j/\Q (.bl (decide (j=i))) H)
def yE:a9 X (compareOp .Eq) OH:=by
 intro pins s σ H x y v u Q I rx ry h;obtain⟨i,rfl,h⟩:=h;rcases h with⟨rfl,q⟩|⟨j,rfl,q⟩
 .cases rx;obtain⟨t,rfl⟩:=ry;exact PySem.EqNone.eq_none_int (ZY I q rfl)
 .exact Ks pins s σ H (.int j) (.int i) v u Q I rx ry q
def OI:fJ:=fun u w A Q=>∃(v:On)(n:Nat),u=oU v/\w=.int n/\Q (.bl (decide (v=some n))) A
def yF{K:au}:et K OH OI:=fun x y u w A H Q' Q hu hw g h k=>by
 obtain⟨v,n,rfl,rfl,q⟩:=h
 cases hw
 cases v with
 | none=>cases hu;exact⟨_,rfl,.inl ⟨rfl,k _ _ _ _ (.refl H) g (.bl _) q⟩⟩
 | some m =>
  cases hu
  refine⟨_,rfl,.inr ⟨_,rfl,k _ _ _ _ (.refl H) g (.bl _) ?_⟩⟩
  have e:decide ((m:Int)=(n:Int))=decide (some m=some n):=decide_eq_decide.mpr ⟨fun h=>by rw[Int.ofNat.inj h],fun h=>by rw[YD h]⟩
  rw[e]
  exact q
def sW{A:az}(q:Q (.bl (decide (v=some 0))) A):OI (oU v) (.int 0) A Q:=⟨v,0,rfl,rfl,q⟩
open PySem PySem.W
def Wa{A:az}(items:List U)(Pv:Nat->List U->az->Prop)(h0:Pv 0 [] A)(hn:items.length<=100000)(hl:∀k ys A2,Pv k ys A2->ys.length<=k)(hJ:∀k ys A2,k<=items.length->Pv k ys A2->J k A2 items[k]?)(hs:∀k u ys A2,items[k]? = some u->Pv k ys A2->∀(Cy:bH)(Cn:az->Prop),(∀y A3,A3 l=some (.lst ys)->Pv (k+1) (ys++[y]) (af A3 l (.lst (ys++[y])))->Cy y A3)->(∀A3,Pv (k+1) ys A3->Cn A3)->tt (some u::fr) A2 fun ok A3=>if ok=true then te (some u::fr) A3 Cy else Cn A3)(hd:∀ys A2,Pv items.length ys A2->Q (.ref l) A2):ny J (nq 0) tt te l Q (x0::fr) A:=by
 refine⟨fun i m τ A2=>m=items.length-i/\i<=items.length/\(∃x,τ=x::fr)/\∃ys,Pv i ys A2,⟨_,rfl,Y0 _,⟨_,rfl⟩,_,h0⟩,?_⟩;rintro i m τ A2 ⟨rfl,hi,⟨x,rfl⟩,ys,hp⟩;have j:=hJ i ys A2 hi hp;by_cases bD:i<items.length
 .have hu:items[i]? = some items[i]:=Yg bD;rw[hu]at j;refine .inr ⟨_,j,?_⟩;rw[ZqI];exact hs i _ ys A2 hu hp _ _ (fun y A3 h1 h2=>⟨ys,h1,ZX (by have:=hl i ys A2 hp;lia),items.length-(i+1),by lia,rfl,bD,⟨_,rfl⟩,_,h2⟩) fun A3 h2=>⟨items.length-(i+1),by lia,rfl,bD,⟨_,rfl⟩,_,h2⟩
 .have e:i=items.length:=by lia
  subst e;rw[Y1 (Yj _)]at j;exact .inl ⟨j,hd ys A2 hp⟩
open PySem PySem.W PySem.Spec PyProof.Rows
structure TX0 (HK:Params->au) (P:Program) (w:World) (K:au) (mg:Str->Option Value) (base:Heap):Prop where
 eK:K=HK w.params
 ns:∃h:Heap,K.In h/\h.Ns mainGlobals mg
def sX(st:Stmt)(x q:Str)(pm:Value)(c:Nat):FuncData:=fnOf x q (An st) (kP st) (ZQ st) .none .none .none pm none (.ref c) .none
def hF(f t ln ac fl m:Nat)(b:Bool)(st:Stmt)(x q:Str)(pm:Value):List (Addr×Obj) :=
 [(f-1,bif b then Kn x q t ln ac fl (f-6) (f-5) (some (f-4)) (some (f-3)) (f-2) m (m+1)else Kn x q t ln ac fl (f-4) (f-3) none none (f-2) m (m+1)),(f,⟨.type "function",none,.func (sX st x q pm (f-1)),#[]⟩)]
def iP(a:Nat)(x:Str)(mro subs:List Value)(d:Option Value)(t:Nat)(b:String):Addr×Obj :=
 (a,Obj.mk (.type "type") none (.cls (ClassData.mk x (mro.take 1) (.ref a::mro) (a-1) x true [] subs false none false)) #[d,none,some (.str x t),some (.str x (t+8)),some (.builtin b),some (.bool true)])
structure FR (P:Program) (w:World) (K:au) (mg:Str->Option Value) (base:Heap) (fa:Addr) (d:FuncData) (st:Stmt) (x q:Str) (ps N:List Str):Prop where
 f : iW K x q st fa d
 b : kN K d ps []
 s : gW N ps (ZQ st)
structure FM (P:Program) (w:World) (K:au) (mg:Str->Option Value) (base:Heap) (fa:Addr) (d:FuncData) (st:Stmt) (x q:Str) (ps N:List Str):Prop extends FR P w K mg base fa d st x q ps N where
 m : mg x=some (.ref fa)
def Gv{α:Type}{P:List α->Prop}(h:∀a b c d e,P [a,b,c,d,e]):∀us:List α,us.length=5->P us:=fun us e=>by
 cases us with
 | nil=>simp at e
 | cons a us=>exact Fd (P:=fun us=>P (a::us)) (h a) us (by simpa using e)
def OJ{α:Type}{P:List α->Prop}(h:∀a b c d e f,P [a,b,c,d,e,f]):∀us:List α,us.length=6->P us:=fun us e=>by
 cases us with
 | nil=>simp at e
 | cons a us=>exact Gv (P:=fun us=>P (a::us)) (h a) us (by simpa using e)
section
variable{K:au}
def TX0.mp(T:TX0 HK P w K mg base){φ:au->Prop}(h:∀p,φ (HK p)):φ K:=T.eK▸h _
def TX0.g(T:TX0 HK P w K mg base)(n:Str)(v:Value)(h:∀p,nsIn (HK p) mainGlobals n=some (some v):=by intro;kernel_rfl):mg n=some v:=by
 obtain⟨_,X,G⟩:=T.ns;exact mg_of X G (T.mp (φ:=fun K=>nsIn K mainGlobals n=_) h)
def TX0.no(T:TX0 HK P w K mg base)(n:Str)(h:∀p,nsIn (HK p) mainGlobals n=some none:=by intro;kernel_rfl):mg n=none:=by
 obtain⟨_,X,G⟩:=T.ns;exact mg_none_of X G (T.mp (φ:=fun K=>nsIn K mainGlobals n=_) h)
def TX0.fr(T:TX0 HK P w K mg base)(f:Addr)(st:Stmt)(x q:Str)(pm:Value)(ps N:List Str)(h:∀p,((HK p).lookup f,codeIn (HK p) (.ref (f-1)) q,keepIn (HK p) (.ref f))=(some ⟨.type "function",none,.func (sX st x q pm (f-1)),#[]⟩,true,true):=by intro;kernel_rfl)(hb:∀us:List Value,us.length=ps.length->bindArgs (sX st x q pm (f-1)) ⟨us,[]⟩=pure (ps.zip us):=by first|(refine E_ ?_;intros;rfl)|(refine Fb ?_;intros;rfl)|(refine Fc ?_;intros;rfl)|(refine Fd ?_;intros;rfl)|(refine Gv ?_;intros;rfl)|(refine OJ ?_;intros;rfl)|(refine E9 ?_;rfl))(s:gW N ps (ZQ st):=by exact⟨rfl,rfl,rfl,by decide +kernel,rfl,by decide +kernel,by decide +kernel⟩):FR P w K mg base f (sX st x q pm (f-1)) st x q ps N:=by
 have e:=T.mp (φ:=fun K=>(K.lookup f,codeIn K (.ref (f-1)) q,keepIn K (.ref f))=_) h;rw[Prod.mk.injEq,Prod.mk.injEq]at e;exact⟨RJ e.1 e.2.1 e.2.2,.all hb,s⟩
def TX0.fm(T:TX0 HK P w K mg base)(f:Addr)(st:Stmt)(x:Str)(pm:Value)(ps N:List Str)(h:∀p,((HK p).lookup f,codeIn (HK p) (.ref (f-1)) x,keepIn (HK p) (.ref f))=(some ⟨.type "function",none,.func (sX st x x pm (f-1)),#[]⟩,true,true):=by intro;kernel_rfl)(hm:∀p,nsIn (HK p) mainGlobals x=some (some (.ref f)):=by intro;kernel_rfl)(hb:∀us:List Value,us.length=ps.length->bindArgs (sX st x x pm (f-1)) ⟨us,[]⟩=pure (ps.zip us):=by first|(refine E_ ?_;intros;rfl)|(refine Fb ?_;intros;rfl)|(refine Fc ?_;intros;rfl)|(refine Fd ?_;intros;rfl)|(refine Gv ?_;intros;rfl)|(refine OJ ?_;intros;rfl)|(refine E9 ?_;rfl))(s:gW N ps (ZQ st):=by exact⟨rfl,rfl,rfl,by decide +kernel,rfl,by decide +kernel,by decide +kernel⟩):FM P w K mg base f (sX st x x pm (f-1)) st x x ps N:=⟨T.fr f st x x pm ps N h hb s,T.g x _ hm⟩
def TX0.na(T:TX0 HK P w K mg base)(C:Addr)(x:Str)(h:∀p,findIn (HK p) (.ref C) x=some none:=by intro;kernel_rfl):fW K C x:=T.mp (φ:=fun K=>fW K C x) h
def TX0.me(T:TX0 HK P w K mg base)(C:Addr)(x:Str)(f:Addr)(h:∀p,(findIn (HK p) (.ref C) x,isFn (HK p) (.ref f),keepIn (HK p) (.ref f))=(some (some (.ref f)),true,true):=by intro;kernel_rfl):Af K C x f:=by
 have e:=T.mp (φ:=fun K=>(findIn K (.ref C) x,isFn K (.ref f),keepIn K (.ref f))=_) h;rw[Prod.mk.injEq,Prod.mk.injEq]at e;exact⟨e.1,e.2.1,e.2.2⟩
def TX0.cl(T:TX0 HK P w K mg base)(C:Addr)(h:∀p,(plainGet (HK p) C Str.empty,hasDictIn (HK p) C,plainOver (HK p) C,findIn (HK p) (.ref C) "__setattr__")=(true,true,true,some (some (.builtin "object.__setattr__"))):=by intro;kernel_rfl):fe K C:=by
 have e:=T.mp (φ:=fun K=>(plainGet K C Str.empty,hasDictIn K C,plainOver K C,findIn K (.ref C) "__setattr__")=_) h;rw[Prod.mk.injEq,Prod.mk.injEq,Prod.mk.injEq]at e;exact⟨e.1,e.2.1,e.2.2.1,e.2.2.2⟩
def TX0.mk'(T:TX0 HK P w K mg base)(C f:Addr)(h:∀p,(makesIn (HK p) C,findIn (HK p) (.ref C) "__init__",isFn (HK p) (.ref f),keepIn (HK p) (.ref C))=(true,some (some (.ref f)),true,true):=by intro;kernel_rfl):Mk K C f:=by
 have e:=T.mp (φ:=fun K=>(makesIn K C,findIn K (.ref C) "__init__",isFn K (.ref f),keepIn K (.ref C))=_) h;rw[Prod.mk.injEq,Prod.mk.injEq,Prod.mk.injEq]at e;exact⟨e.1,e.2.1,e.2.2.1,e.2.2.2⟩
def TX0.Wb(T:TX0 HK P w K mg base)(C:Addr)(h:∀p,(makesIn (HK p) C,findIn (HK p) (.ref C) "__init__",keepIn (HK p) (.ref C))=(true,some (some (.builtin "object.__init__")),true):=by intro;kernel_rfl):E4 K C:=by
 have e:=T.mp (φ:=fun K=>(makesIn K C,findIn K (.ref C) "__init__",keepIn K (.ref C))=_) h;rw[Prod.mk.injEq,Prod.mk.injEq]at e;exact⟨e.1,e.2.1,e.2.2⟩
def TX0.kt(T:TX0 HK P w K mg base)(C:Addr)(v:Value)(b:Bool)(h:∀p,kitOne (HK p) (.ref C) v=some b:=by intro;kernel_rfl):kitOne K (.ref C) v=some b:=T.mp (φ:=fun K=>kitOne K (.ref C) v=some b) h
def TX0.xc(T:TX0 HK P w K mg base)(C f:Addr)(h:∀p,qJ (HK p) C f:=by exact fun _=>⟨by kernel_rfl,by kernel_rfl,by kernel_rfl,by kernel_rfl,by kernel_rfl,by kernel_rfl,by kernel_rfl,by kernel_rfl,by kernel_rfl,by kernel_rfl⟩):qJ K C f:=T.mp (φ:=fun K=>qJ K C f) h
def TX0.xb(T:TX0 HK P w K mg base)(C:Addr)(h:∀p,BB (HK p) C:=by exact fun _=>⟨by kernel_rfl,by kernel_rfl,by kernel_rfl⟩):BB K C:=T.mp (φ:=fun K=>BB K C) h
def TX0.xg(T:TX0 HK P w K mg base)(C:Addr)(h:∀p,o_ (HK p) C:=by exact fun _=>⟨by kernel_rfl,by kernel_rfl,by kernel_rfl,by kernel_rfl,by kernel_rfl,by kernel_rfl,by kernel_rfl,by kernel_rfl⟩):o_ K C:=T.mp (φ:=fun K=>o_ K C) h
def TX0.ca(T:TX0 HK P w K mg base)(C D:Addr)(b:Bool)(h:∀p,jD (HK p) C D b:=by exact fun _=>⟨by kernel_rfl,by kernel_rfl,by kernel_rfl,by kernel_rfl,by kernel_rfl⟩):jD K C D b:=T.mp (φ:=fun K=>jD K C D b) h
def TX0.it(T:TX0 HK P w K mg base)(l:List Addr)(C:Addr)(h:∀p,ke (HK p) l C:=by exact fun _=>⟨by kernel_rfl,by kernel_rfl,by kernel_rfl,by kernel_rfl,by kernel_rfl,by kernel_rfl⟩):ke K l C:=T.mp (φ:=fun K=>ke K l C) h
variable{f:Addr}{st:Stmt}
abbrev FR.Ok(_:FR P w K mg base f d st x q ps N)(CX:oA)(k:Nat)(sp:Sp):Prop:=cF P w K mg base CX k f d ps sp
def FR.bF(F:FR P w K mg base f d st x q ps N)(hs:ZQ st=sc)(hb:kP st=body)(hB : ∀ {bg:Value} {A:Around} {outer:List Env} {s:Shared} {H:Hp} {E:XK},gW N ps sc->bV k (A.deeper (envOfC q sc s.heap.objs.size f bg)) ->
   ∃t,dW (fo aQ P w K mg base N q sc f bg A outer s H E).nc body t/\c6 K t as)(hS:∀us A Q,bj us A Q->us.length=ps.length/\as { nx:=fun _ A'=>Fg Q .ay A',rt:=Fg Q } (aStart N us) A):cF P w K mg base aQ (k+1) f d ps (a6 K bj) :=
 iW.bF F.f hs hb F.s (fun S _ _ _ _ _ _ r=>hB S r) hS
def FR.yo{as:my->AS}(F:FR P w K mg base f d st x q ps N)(hs:ZQ st=sc)(hb:kP st=body)(hB : ∀ {bg:Value} {A:Around} {outer:List Env} {s:Shared} {H:Hp} {E:XK} {X':my},gW N ps sc->bV k (A.deeper (envOfC q sc s.heap.objs.size f bg))->mz K H X' E ->
   ∃t,dW ((fo (gL P w) P w K mg base N q sc f bg A outer s H E).bL (XF (fo (gL P w) P w K mg base N q sc f bg A outer s H E) E)) body t/\c6 K t (as X'))(hS:∀us A Q X',bj us A Q X'->us.length=ps.length/\as X' { nx:=fun _ A'=>Fg Q .ay A',rt:=Fg Q } (aStart N us) A):cF P w K mg base (gL P w) (k+1) f d ps (sQ K bj) :=
 iW.yo F.f hs hb F.s (fun S _ _ _ _ _ _ _ r e=>hB S r e) hS
end
section
variable{st:Stmt}{t:TA}{es:List Expr}{id ty:String}
def FM.pc(F:FM X.prog X.w X.K X.mg X.base fa fd st x q ps N)(G:cF X.prog X.w X.K X.mg X.base aQ j fa fd ps sp)(hr:bV k X.A)(ha:PA X (e::es) t)(Wc:j<=k:=by first|decide|lia)(hg:Gl X x:=by rfl)(cR:(x==("__debug__":Str))=false:=by decide)(he:starEach (e::es) X.env=(false,eval e X.env)::starEach es X.env:=by rfl)(bx:(backTo pos (starEach es X.env)).any (·.1)=false:=by rfl):
  PE X (.Call (.Name x p) (e::es) [] pos) (Dv sp [] E0 t):=QZ (G.mono Wc) hr hg F.m F.f.kp F.b .nil g8 ha cR he bx
def b8(hc:cf X (.builtin id) r)(hm:X.mg x=none)(ha:PA X (e::es) t)(hg:Gl X x:=by rfl)(hv:bootBuiltins x=some (.builtin id):=by decide +kernel)(hn:x≠"__name__":=by decide)(cR:(x==("__debug__":Str))=false:=by decide)(he:starEach (e::es) X.env=(false,eval e X.env)::starEach es X.env:=by rfl)(bx:(backTo pos (starEach es X.env)).any (·.1)=false:=by rfl):PE X (.Call (.Name x p) (e::es) [] pos) (rS r t):=Q3 hc hg hm hv ha hn cR he bx
def yG(hc:cf X (.type ty) r)(hm:X.mg x=none)(ha:PA X (e::es) t)(hg:Gl X x:=by rfl)(hv:bootBuiltins x=some (.type ty):=by decide +kernel)(hn:x≠"__name__":=by decide)(cR:(x==("__debug__":Str))=false:=by decide)(he:starEach (e::es) X.env=(false,eval e X.env)::starEach es X.env:=by rfl)(bx:(backTo pos (starEach es X.env)).any (·.1)=false:=by rfl):PE X (.Call (.Name x p) (e::es) [] pos) (rS r t):=Q4 hc hg hm hv ha hn cR he bx
def kY.mn{K:au}(F:kY P w K mg base CX j m d_)(h:j<=k:=by first|decide|lia):kY P w K mg base CX k m d_:=F.mono h
def cF.mn{K:au}(F:cF P w K mg base CX j fa fd ps sp)(h:j<=k:=by first|decide|lia):cF P w K mg base CX k fa fd ps sp:=F.mono h
end
section
def Wd(hl:s.heap.IsList l (strValues tl).toArray)(qM:tl.length<64)(k:∀h' D (out:Array Value) (zs:List Str) n,s.heap.objs.size<=D->StrsAre out.toList zs->zs.Perm (tl.map (·.1))->sortedS zs=true->h'.get? D=some (seqObj "list" out n)->(∀b o,s.heap.get? b=some o->h'.get? b=some o)->Q (.ref D) { s with heap:=h' }):
  wpAny (model P w) A (call (.builtin "sorted") [.ref l]) Q E s:=by
 refine Calls.call_function_entry kind_sorted plain_sorted entry_sorted (args_sorted1 _) ?_;unfold Builtin.«sorted»;refine Yb (m:=checkCount "sorted" 1 1 _) (Yd ?_);have jC:=F' tl;have hlen:(strValues tl).length<64:=by rw[strValues,Yc];exact qM
 refine Yb (collect_list hl (show _ from ?_) (by rw[gA];lia));refine Yb (CU (show _ from ?_) (by exact YE (nZ hlen) (by decide)));have s0:=lD (s.heap.push (seqObj "list" #[] 0)) s.heap.objs.size (Obj.mapSeq (·++(strValues tl).toArray));have OK:∀p o,s.heap.get? p=some o->((s.heap.push (seqObj "list" #[] 0)).update s.heap.objs.size (Obj.mapSeq (·++(strValues tl).toArray))).get? p=some o:=fun p o q =>
  (s0.2 p (Yn (Ym q))).trans (Ye _ q)
 have hsz:s.heap.objs.size<=((s.heap.push (seqObj "list" #[] 0)).update s.heap.objs.size (Obj.mapSeq (·++(strValues tl).toArray))).objs.size:=by
  rw[s0.1,size_push'];lia
 generalize(s.heap.push (seqObj "list" #[] 0)).update s.heap.objs.size (Obj.mapSeq (·++(strValues tl).toArray))=h1 at OK hsz ⊢;have m9:(h1.push (seqObj "list" (strValues tl).toArray 0)).get? h1.objs.size=some (seqObj "list" (strValues tl).toArray 0):=Yl _ rfl;refine Yb (YT (YZ slot_list_sort ⟨_,m9,rfl⟩ entry_list_sort (list_sort_treeK strKind_oneLt m9 jC.keysOf (fun v1 v2 r e=>keyKind_strs (by rw[<- e];exact jC)) hlen fun fb a1 a2=>⟨_,rfl,?_⟩) (args_list_sort _)));obtain⟨zs,b1,b2,b3⟩:=sorted_out_str jC a1 a2;obtain⟨n,hn⟩:=sortedHeap_at (out:=(arrOf fb).map (·.2)) m9;refine Yd ⟨_,rfl,k _ h1.objs.size _ zs n hsz b1 b2 b3 hn (fun b o e=>?_)⟩;have e1:=OK b o e;have lt:=Ym e1;show(sortedHeap (h1.push (seqObj "list" (strValues tl).toArray 0)) h1.objs.size (strValues tl) _).get? b=some o;rw[sortedHeap_old (Yn lt) (by rw[size_push'];exact YV lt)];exact Ye _ e1
end
section
def OL:List V->Hp->VK->Prop:=fun xs H Q=>∃l ks,xs=[.ref l]/\H l=some (.lst (ks.map V.str))/\ks.length<64/\∀D zs,H D=none->zs.Perm ks->sortedS zs=true->Q (.ref D) (upd H D (.lst (zs.map V.str)))
def We:cf X (.builtin "sorted") OL:=by
 intro pins s σ H xs us Q I r h;obtain⟨l,ks,rfl,hl,qM,q⟩:=h;obtain⟨u,rfl,ru⟩:=r.one;cases ru;obtain⟨hle,its,n,rv,hlen,e⟩:=I.ei hl;rw[Yc]at hlen;obtain⟨tl,e1,e2⟩:=Bh rv;subst e1;have hsz:tl.length=ks.length:=by rw[<- e2,Yc]
 refine Wd (tl:=tl) ⟨_,e,rfl,n,rfl⟩ (by lia) fun h' D out zs n hD hv hp hs hd hk=>?_;rw[e2]at hp;exact⟨.ref D,upd H D (.lst (zs.map V.str)),I.laid (a:=D) (o:=.lst (zs.map V.str)) (h':=h') (t':=s.toks) hk hD ⟨by rw[Yc,hp.length_eq];exact YE (nZ qM) (by decide),out.toList,n,Ge hv,by rw[Array.toArray_toList];exact hd⟩,rfl,q D zs (I.aG.fresh hD) hp hs⟩
end
section
variable{K:au}
def OM:List U->az->bH->Prop:=fun us A Q=>∃l ks,us=[.ref l]/\A l=some (.lst (List.map U.str ks))/\ks.length<64/\∀D zs,A D=none->zs.Perm ks->sortedS zs=true->Q (.ref D) (af A D (.lst (zs.map U.str)))
def Wf:hZ K OL OM:=fun xs us A H Q' Q r g h k=>by
 obtain⟨l,ks,rfl,hl,hz,q⟩:=h
 obtain⟨v,rfl,rv⟩:=r.inv1
 cases rv
 obtain⟨vs,h1,r1⟩:=g.list hl
 exact⟨l,ks,rfl,by rw[h1,r1.strs],hz,fun D zs hD hp hs=>k _ _ _ _ (ba.aA hD).kp (g.en hD aK.c5) (.ref D) (q D zs (g.none hD) hp hs)⟩
def ZnN{A:az}:OM [.ref l] A Q=∃ks,A l=some (.lst (List.map U.str ks))/\ks.length<64/\∀D zs,A D=none->zs.Perm ks->sortedS zs=true->Q (.ref D) (af A D (.lst (zs.map U.str))):=propext ⟨fun aF=>by obtain⟨_,ks,e,h⟩:=aF;cases e;exact⟨ks,h⟩,fun⟨ks,h⟩=>⟨l,ks,rfl,h⟩⟩
end
def Gw(K:au)(C:Addr)(f:Str):Sp:=fun vs H Q _=>∃x p ys,vs=[.ref x,.ref p]/\H x=some (XO x C none)/\Sq K H p ys/\∀l,H l=none->∀dx,upd H l (.lst ys) dx=none->dx≠x->Q .ay (upd (upd (upd H l (.lst ys)) dx (.xd [(f,.ref l)])) x (XO x C (some dx)))
def ON(C:Addr)(f:Str)(X':my)(l:AA):AS:=fun _ ρ A=>l ρ A fun us A1=>∃p zs,us=[.ref p]/\A1 p=some (.lst zs)/\∀l',A1 l'=none->X' C [(f,.ref l')] (af A1 l' (.lst zs))
section
variable{K:au}
def Wg{st:Stmt}(X:qJ K C g)(n:fW K C fl)(hp:ps.length=2)(hN:N=ps)(h : ∀ bg A outer s H E,bV 0 (A.deeper (envOfC qual sc s.heap.objs.size f bg))->dW (fo aQ P w K mg base N qual sc f bg A outer s H E).nc (kP st)
   (z9 (z_ (FI K (oz (m_ 0) (oz (tC (.str m)) oy)))) (FJ K (m_ 0) (rS (Eh K) (oz (m_ 1) oy)) fl)))(Fn:iW K x qual st f fd)(hs:ZQ st=sc)(S:gW N ps (ZQ st)):
  cF P w K mg base aQ 1 f fd ps (Gw K C fl):=by
 have FY:∀a b:V,L2.start N [a,b]=[some a,some b]:=fun a b=>by
  unfold L2.start;rw[hN,hp];rfl
 refine Fn.D1 hs rfl S (fun vs H Q E aF=>by obtain⟨x,p,ys,e,_⟩:=aF;rw[e,hp];rfl) fun _ bg A outer s H vs Q E hr ⟨y,p,ys,e,hx,hq,q⟩=>⟨_,h bg A outer s H E hr,?_⟩;subst e;rw[FY];refine⟨_,rfl,⟨y,C,g,_,rfl,hx,X,⟨_,rfl,ys,hq,fun l hl=>⟨_,rfl,y,C,g,rfl,?_,X,n,fun dx hd aR=>q l hl dx hd aR⟩⟩⟩⟩;rw[Zs fun e=>by rw[e,hl]at hx;cases hx];exact hx
def Wh{E:XK}{t:TA}(hE:mz K H0 X' E)(hl:fH K t l):c6 K (FK K H0 C (Gw K C f) E t) (ON C f X' l):=fun ρ A σ H D' D hs g h k=>by
 refine hl ρ A σ H _ _ hs g h fun us A1 vs H1 k1 g1 r1 ⟨p,zs,e,hp,hx⟩ k0 x hn=>?_
 subst e
 obtain⟨v,rfl,rv⟩:=r1.inv1
 cases rv
 obtain⟨ys,h1,r2⟩:=g1.list hp
 have Wi:p≠x:=fun e=>by rw[e,hn]at h1;cases h1
 refine⟨x,p,ys,rfl,ZC,.inl (aV.of (by rw[Zs Wi];exact h1)),fun l hl dx hd aR=>⟨rfl,dx,ZC,?_⟩⟩
 have Gx:l≠x:=fun e=>by rw[e,ZC]at hl;cases hl
 rw[Zs Gx]at hl
 have qK:dx≠l:=fun e=>by rw[e,ZC]at hd;cases hd
 rw[Zs qK,Zs aR]at hd
 have e : qI (upd (upd (upd (upd H1 x (XO x C none)) l (.lst ys)) dx (.xd [(f,.ref l)])) x (XO x C (some dx))) x=upd (upd H1 l (.lst ys)) dx (.xd [(f,.ref l)]):=by
  funext b;by_cases h1:b=x
  .rw[h1,yi,Zs aR.symm,Zs Gx.symm,hn]
  .rw[yj h1,Zs h1];by_cases h2:b=dx
   .rw[h2,ZC,ZC]
   .rw[Zs h2,Zs h2];by_cases h3:b=l
    .rw[h3,ZC,ZC]
    .rw[Zs h3,Zs h3,Zs h1]
 rw[e];have sl:=ba.aA (o:=.lst ys) hl;have gB:upd H1 l (.lst ys) dx=none:=by rw[Zs qK];exact hd
 have sm:=ba.aA (o:=.xd [(f,.ref l)]) gB;have gl:=g1.en hl r2;exact hE C dx [(f,.ref l)] [(f,.ref l)] (af A1 l (.lst zs)) _ ((k0.trans sl.kp).trans sm.kp) (gl.grow sm) (gl.none gB) ZC ⟨rfl,.one (.ref l)⟩ (hx l (g1.none hl))
def Zk8{A:az}:ON C f X' l D ρ A=l ρ A fun us A1=>∃p zs,us=[.ref p]/\A1 p=some (.lst zs)/\∀l',A1 l'=none->X' C [(f,.ref l')] (af A1 l' (.lst zs)):=rfl
end
section
variable{t:Expr}{rest:List ExceptHandler}
def Wj{n:Option Str}(h:wpAny (model P w) (A.mark (some (.ref e))) (eval t env) (fun c s1=>c=.ref D/\(∃ ob,s1.heap.get? e=some ob/\ob.cls=.ref C)/\Bx (model P w) s1.heap C D false /\
   wpAny (model P w) A (handleBy (.ref e) env rest) Q E s1) (fun _ _=>False) s):
  wpAny (model P w) A (handleBy (.ref e) env (.ExceptHandler (some t) n (b0::su) pos::rest)) Q E s:=by
 refine wpAny_handleBy_cons (codeAny_handlers_test (YH h (fun c s1 q=>?_) fun _ _ x=>x.elim)) (by intro q;cases q);obtain⟨rfl,⟨ob,he,hc⟩,hx,hk⟩:=q;exact M3 he hc hx hk
end
abbrev TH:=kM->St->Hp->Addr->Addr->Prop
def OO:TH:=fun _ _ _ _ _=>False
def OP(K:au)(D:Addr)(j:Nat)(th:TS)(r:TH):TH:=fun Dn σ H' C dx=>jD K C D true/\(∀a,H' a=none->th (Dn.bS j) (σ.set j (some (.ref a))) (upd H' a (XT a C dx)))\/jD K C D false/\r Dn σ H' C dx
def OQ(tb:yt)(r:TH):TS:=fun Dn σ H=>tb Dn σ H fun c sR H'=>∃C dx,c=.ref C/\sR=some dx/\r Dn σ H' C dx
def PH(X:Cx)(hs:List ExceptHandler)(r:TH):Prop:=∀(pins:List (Addr×Obj))(σ:St)(Dn:kM)(R:Value->Prop)(a:Addr)(s3:Shared),k_ X pins σ (fun c sR H'=>∃C dx,c=.ref C/\sR=some dx/\r Dn σ H' C dx) False R a s3->wpAny (model X.prog X.w) X.A (handleBy (.ref a) X.env hs) (SP X pins Dn) X.xe s3
section
variable{x n:Str}{es:List Expr}{t:TA}
def Wk:PH X [] OO:=by
 rintro pins σ Dn R a s3 ⟨H3,I3,C,dx,ob,vs,g1,g2,g3,g4,g5,g6,st,C',NF,ec,ed,q⟩;exact q.elim
def BQ(B:nJ X)(hN:X.N.Nodup)(hj:X.N[j]? = some n)(hk:X.env.kindOf n=some .local)(hg:Gl X x)(hm:X.mg x=some (.ref D))(FQ:∀a,dW (X.jF a) (b0::su) th)(hr:PH X hs r)(cR:(x==("__debug__":Str))=false:=by decide):
  PH X (.ExceptHandler (some (.Name x px)) (some n) (b0::su) hp::hs) (OP X.K D j th r):=by
 intro pins σ Dn R a s3 f3;have ND:=f3;obtain⟨H3,I3,C,dx,ob,vs,g1,g2,g3,g4,g5,g6,st,C',NF,ec,ed,q⟩:=f3;cases ec;cases ed;rcases q with⟨kL,q⟩|⟨kL,q⟩
 .refine M4 (C:=C) (lK (X:=X.jF a) I3.jF hg hm ⟨rfl,⟨ob,g3,g4⟩,kL.at I3.bo,?_⟩ cR);have Gy:k_ X pins σ (fun c sR H'=>∃C dx,c=.ref C/\sR=some dx/\∀a,H' a=none->th (Dn.bS j) (σ.set j (some (.ref a))) (upd H' a (XT a C dx))) False R a s3:=⟨H3,I3,C,dx,ob,vs,g1,g2,g3,g4,g5,g6,st,C,dx,rfl,rfl,q⟩;refine vH B Gy fun s4 f4=>?_;obtain⟨H4,I4,C4,Ve,Vf,Vg,n4,yw,o4,c4,d4,w4,_,Vh,FU,FV,FW,q⟩:=f4;cases FV;cases FW;have I5:=I4.ig yw n4 o4 c4 d4 w4;exact z7 (v:=.ref a) I5 hN hj (.inl hk) rfl (fun s5 I6=>YH (FQ a pins s5 _ _ (Dn.bS j) I6.jF (q a yw)) (fun f s' z=>(z.eH I3.ok).bS hN hj hk) fun _ _ z=>False.elim z) (.inr hk)
 .exact Wj (C:=C) (lK (X:=X.jF a) I3.jF hg hm ⟨rfl,⟨ob,g3,g4⟩,kL.at I3.bo,hr pins σ Dn R a s3 ⟨H3,I3,C,dx,ob,vs,g1,g2,g3,g4,g5,g6,st,C,dx,rfl,rfl,q⟩⟩ cR)
def Wl(B:nJ X)(hb:FP X yu tb)(hh:PH X (h0::hs) r):PS X (.Try yu (h0::hs) [] [] pos) (OQ tb r):=by
 intro pins s σ H Dn I h;refine wpAny_Try_except (YH (hb pins s σ H _ _ I h) (fun fl s1 q1=>?_) fun ev s1 hx=>?_)
 .cases fl with
  | next=>exact rq q1
  | brk=>exact q1
  | cont=>exact q1
  | ret u=>exact q1
 .obtain⟨H1,s0,I0,a,H',rfl,gY,FT,u,aG,f⟩:=hx;have I1:=I0.jk (ch:=[]) gY u aG FT fun b hb=>absurd hb (by simp);have f1:k_ X pins σ _ False (yl X) a s1:=⟨H',I1,f.weak (fun b hb=>I0.mx hb) (fun z=>z) fun v hv=>.inl hv⟩;exact BD B f1 fun s2 f2=>vH B f2 fun s3 f3=>hh pins σ Dn _ a s3 f3
def OR(C:Addr)(sp:Sp)(t:TA):TX:=fun σ H Q E=>t σ H fun vs H1=>∀x dx,H1 x=none->H1 dx=none->dx≠x->sp (.ref x::vs) (upd (upd H1 dx (.own x)) x (.ins C dx [])) (fun v H2=>v=.ay/\Q (.ref x) H2) E
def OS(M:Mk X.K C f)(F:cF X.prog X.w X.K X.mg X.base (gL X.prog X.w) k f fd ps sp)(hr:bV (k+1) X.A)(hg:Gl X x)(hm:X.mg x=some (.ref C))(hb:kN X.K fd ps [])(ha:PA X.nc (e::es) t)(cR:(x==("__debug__":Str))=false:=by decide)(he:starEach (e::es) X.env=(false,eval e X.env)::starEach es X.env:=by rfl)(bx:(backTo pos (starEach es X.env)).any (·.1)=false:=by rfl):
  Nj X (.Call (.Name x p) (e::es) [] pos) (OR C sp t):=by
 intro pins s σ H Q E I h;refine kG (lK I hg hm (wm (h₀:=X.base) I.ok.mod.rE M.kp (YH (ha pos pins s σ H _ (I.bL _) h) (fun us s1 ⟨vs,H1,I1,r,q⟩=>⟨I1.bo,?_⟩) fun _ _ z=>False.elim z) he bx) cR);have I1:=I1.a_;have hq:=q (s1.heap.objs.size+1) s1.heap.objs.size (I1.aG.fresh (fT _)) (I1.aG.fresh (Yj _)) (Yn (lG _));have I2:=Inv.made (C:=C) I1;have r2:Z3 (V.ref (s1.heap.objs.size+1)::vs) (Value.ref (s1.heap.objs.size+1)::us):=.cons rfl r;have hl:(Value.ref (s1.heap.objs.size+1)::us).length=ps.length:=by
  have e:=r2.length;rw[F.len _ _ _ _ hq]at e;exact e.symm
 refine kJ (JE (f:=f) I1.bo M.makes M.init (beq_iff_eq.mp M.fn) (kI (F.run _ X.stack _ _ ⟨Value.ref (s1.heap.objs.size+1)::us,[]⟩ (Value.ref (s1.heap.objs.size+1)::us) _ _ E (hr.make C us [])
  (I2.oB.make C us []) (by have:=hb _ (Value.ref (s1.heap.objs.size+1)::us) I2.bo (by rw[YW];exact hl);rwa [YW]at this) r2 hq) fun r s' gV=>?_))
 cases r with
 | error e=>exact⟨_,_,I2,gV⟩
 | ok fl =>
  cases fl with
  | ret u =>
   obtain⟨v,H',I3,rv,ev,q3⟩:=I2.after gV;subst ev;exact⟨rv,⟨V.ref (s1.heap.objs.size+1),H',I3,rfl,q3⟩⟩
  | next=>exact False.elim gV
  | brk=>exact False.elim gV
  | cont=>exact False.elim gV
end
abbrev yH:=oO->a8->az->Addr->List (Str×U)->Prop
def OT:yH:=fun _ _ _ _ _=>False
def OU(K:au)(D:Addr)(j:Nat)(ah:AS)(r:yH):yH:=fun Dn ρ A' C fs=>jD K C D true/\(∀a dx,A' a=none->A' dx=none->a≠dx->ah (Dn.bS j) (ρ.set j (some (.ref a))) (af (af A' dx (fM fs)) a (oX C dx)))\/jD K C D false/\r Dn ρ A' C fs
def OV(ab:BK)(r:yH):AS:=fun Dn ρ A=>ab Dn ρ A fun C fs A'=>r Dn ρ A' C fs
def BR(K:au)(t:TH)(r:yH):Prop:=∀ρ A' σ H' D' Dn C dx fs gs,aX K H' ρ σ->HR K H' A'->A' dx=none->H' dx=some (.xd gs)->cj K H' fs gs->oP K H' D' Dn->r D' ρ A' C fs->t Dn σ H' C dx
def OW(C:Addr)(bj:vJ)(l:AA):AX:=fun ρ A Q X'=>l ρ A fun us A1=>∀x dx,A1 x=none->bj (.ref x::us) (af A1 x (.ins C dx [])) (fun u A2=>u=.ay/\Q (.ref x) A2) X'
section
variable{K:au}{t:TA}
def Wm:BR K OO OT:=fun _ _ _ _ _ _ _ _ _ _ _ _ _ _ _ _ q=>q
def BS(hh:c6 K th ah)(hr:BR K r ar):BR K (OP K D j th r) (OU K D j ah ar):=fun ρ A' σ H' D' Dn C dx fs gs hs g n' d' rf k q=>by
 rcases q with⟨c,q⟩|⟨c,q⟩
 .refine .inl ⟨c,fun a ha=>?_⟩
  have aR:a≠dx:=fun e=>by rw[e,d']at ha;cases ha
  have sm:=ba.aA (o:=XT a C dx) ha
  have k2:Kp K H' _:=sm.kp
  exact hh _ _ _ _ _ _ (aX.set (.ref a) j (hs.same k2)) (g.newX d' rf ha) (q a dx (g.none ha) n' aR) ((k.same k2).bS j)
 .exact .inr ⟨c,hr ρ A' σ H' D' Dn C dx fs gs hs g n' d' rf k q⟩
def Wn(hx:FX K tb ab)(hr:BR K r ar):c6 K (OQ tb r) (OV ab ar):=fun ρ A σ H D' Dn hs g w k =>
 hx ρ A σ H _ _ _ _ hs g w k fun C dx fs gs A' H' k' g' n' d' rf q=>⟨C,dx,rfl,rfl,hr ρ A' σ H' D' Dn C dx fs gs (hs.same k') g' n' d' rf (k.same k') q⟩
def OX(hl:fH K t l):Nk K (OR C (sQ K bj) t) (OW C bj l):=fun ρ A σ H Q' X' Q E hs g w k kx =>
 hl ρ A σ H _ _ hs g w fun us A1 vs H1 k1 g1 r1 q1 x dx hx xT aR=>by
  have s1:ba H1 (upd H1 dx (.own x)):=ba.aA xT
  have r9:upd H1 dx (.own x) x=none:=by rw[Zs (Ne.symm aR)];exact hx
  have s2:ba (upd H1 dx (.own x)) (upd (upd H1 dx (.own x)) x (.ins C dx [])):=ba.aA r9
  have g2:HR K (upd (upd H1 dx (.own x)) x (.ins C dx [])) (af A1 x (.ins C dx [])):=(g1.grow s1).dO s2.kp ⟨[],ZC,rfl,.nil⟩
  refine⟨.ref x::us,_,_,X',.cons (.ref x) (r1.same (s1.kp.trans s2.kp)),g2,q1 x dx (g1.none hx),fun u A3 v3 H3 k3 g3 r3 ⟨e,q3⟩=>?_,kx.same (k1.trans (s1.kp.trans s2.kp))⟩
  subst e
  cases r3
  exact⟨rfl,k _ _ _ _ (k1.trans ((s1.kp.trans s2.kp).trans k3)) g3 (.ref x) q3⟩
variable{A:az}
def ZpI:OW C bj l ρ A Q X'=l ρ A fun us A1=>∀x dx,A1 x=none->bj (.ref x::us) (af A1 x (.ins C dx [])) (fun u A2=>u=.ay/\Q (.ref x) A2) X':=rfl
def ZqF:OV ab ar Dn ρ A=ab Dn ρ A fun C fs A'=>ar Dn ρ A' C fs:=rfl
def Zv0:OT Dn ρ A C fs=False:=rfl
def Zv2:OU K D j ah ar Dn ρ A C fs=(jD K C D true/\(∀a dx,A a=none->A dx=none->a≠dx->ah (Dn.bS j) (ρ.set j (some (.ref a))) (af (af A dx (fM fs)) a (oX C dx)))\/jD K C D false/\ar Dn ρ A C fs):=rfl
end
def jH{α:Type}(z:Str)(aq:List (Str×α)):List (Str×α):=aq.filter fun p=>decide (p.1≠z)
def Wo(z:Str)(aq:List (Str×α)):(jH z aq).length<=aq.length:=List.length_filter_le _ _
def KV.rm(r:KV aq vs)(k:Str):KV (jH k aq) (without vs k):=by
 unfold KV at r;induction r with
 | nil=>exact .nil
 | @cons p q ps qs h t ih =>
  obtain⟨p1,p2⟩:=p;obtain⟨q1,q2⟩:=q;obtain⟨h1,h2⟩:=h;simp only at h1 h2;subst h1;unfold jH without at ih ⊢;by_cases e:p1=k
  .rw[List.filter_cons_of_neg (by simp[e]),List.filter_cons_of_neg (by simp[e])];exact ih
  .rw[List.filter_cons_of_pos (by simp[e]),List.filter_cons_of_pos (by simp[e])];exact .cons ⟨rfl,h2⟩ ih
theorem cj.rm{K:au}:∀ {kus:List (Str×U)} {aq:List (Str×V)},cj K H kus aq->cj K H (jH k kus) (jH k aq)
 | [],[],_=>⟨rfl,.nil⟩
 | [],_::_,h=>nomatch h.1
 | _::_,[],h=>nomatch h.1
 | (a, u)::kus,(b,v)::aq,⟨h1,h2⟩=>by
  rw[Yr,Yr]at h1
  injection h1 with h3 h4
  simp only at h3
  subst h3
  cases h2 with
  | cons r1 r2 =>
  have ih:=cj.rm (k:=k) (K:=K) (H:=H) ⟨h4,r2⟩
  unfold jH at ih ⊢
  by_cases e:a=k
  .rw[List.filter_cons_of_neg (by simp[e]),List.filter_cons_of_neg (by simp[e])]
   exact ih
  .rw[List.filter_cons_of_pos (by simp[e]),List.filter_cons_of_pos (by simp[e])]
   exact⟨by rw[Yr,Yr,ih.1],.cons r1 ih.2⟩
section
variable{o e:Expr}{es:List Expr}{t:TA}
def OY(P:Program)(w:World)(to:TE)(t:TA):TE:=fun σ H Q=>to σ H fun x H1=>∃a ep aq,x=.ref a/\H1 a=some (DQ P w a ep aq)/\t σ H1 fun vs H2=>∃z aI cG v,vs=[.str z]/\H2 a=some (DQ P w a aI cG)/\cG.lookup z=some v/\∀cn,Q v (upd H2 a (DQ P w a cn (jH z cG)))
def Wq(ho:PE X o to)(ha:PA X (e::es) t)(h1:attributeBase o "pop" X.env (eval o X.env)=eval o X.env:=by rfl)(h2:((backTo aW (starEach (e::es) X.env)).all (fun x=>!x.1)&&(backToKw aW (keywordEach [] X.env)).all (fun x=>x.1.isSome)&&decide ((e::es).length+([]:List Keyword).length+(if([]:List Keyword).isEmpty then 0 else 1)<30))=true:=by rfl)(h3:(apos.endLine==aW.line)=true:=by rfl)(h4:starEach (e::es) X.env=(false,eval e X.env)::starEach es X.env:=by rfl)(h5:(backTo aW (starEach es X.env)).any (·.1)=false:=by rfl):
  PE X (.Call (.Attribute o "pop" apos) (e::es) [] aW) (OY X.prog X.w to t):=by
 intro pins s σ H Q I h;refine wpAny_Call_method_late h1 h2 h3 rfl (aM (ho pins s σ H _ I h) fun v s1 aL=>?_);obtain⟨x,H1,I1,r1,a,ep,aq,ex,sN,q1⟩:=aL;subst ex;cases r1;obtain⟨_,_,T2,_,dd⟩:=d5 I1 sN;refine⟨"dict","dict.pop",F.plainAttrs_dict,F.slot_dict_pop,F.type_dict_pop,dd.dictOf.typeIs,dd.dictOf.mapOf.noDict,?_⟩;have hA:=ha aW pins s1 σ H1 _ I1 q1;rw[h4]at hA ⊢;refine rh (by show(false||(backTo aW (starEach es X.env)).any (·.1))=false;rw[h5]<;>rfl) (Calls.evalArgs_plain (aM hA fun us s2 aL=>?_));obtain⟨vs,H2,I2,r2,z,aI,cG,v,ev,jB,hv,q2⟩:=aL;subst ev;obtain⟨h0,hz,nG,r,kO⟩:=d5 I2 jB;obtain⟨u,rfl,ru⟩:=r2.one;obtain⟨tk,rfl⟩:=ru;have hl:=r.look z;rw[hv]at hl;obtain⟨v',jW,rv⟩:∃v',valueAt nG z=some v'/\aZ v v':=by
  cases hx:valueAt nG z with
  | none=>rw[hx]at hl;exact(show False from hl).elim
  | some w'=>rw[hx]at hl;exact⟨w',rfl,hl⟩
 refine call_meetsIn F.slot_dict_pop kO.dictOf.typeIs F.entry_dict_pop (F.args_dict_pop_2 _ _) (meets_dict_pop_there (strKind X.prog X.w) a (strKind_is X.prog X.w z tk) [] (.inl rfl) rfl) ⟨_,v',kO.dictOf,by rw[<- Paired.length r];exact hz,jW,fun h' jA hs=>?_⟩;obtain⟨cn,jA⟩:=jA.dictAt;have e1:∃o,h'.get? a=some o:=let⟨o,_,e,_⟩:=jA;⟨o,e⟩;exact⟨v,_,I2.write (x:=a) (e:=a) (by rw[jB];trivial) (.inl rfl) (fun c u hc z=>(hs.2 c hc).trans z) e1 (o7.ok ⟨⟨h0,YE (Wo z cG) hz⟩,_,r.rm z,jA⟩),rv,q2 cn⟩
end
section
variable{K:au}
def OZ(P:Program)(w:World)(ao:AE)(l:AA):AE:=fun ρ A Q=>ao ρ A fun x A1=>∃a ep kus,x=.ref a/\A1 a=some (dS P w ep kus)/\l ρ A1 fun us A2=>∃z aI cH u,us=[.str z]/\A2 a=some (dS P w aI cH)/\cH.lookup z=some u/\∀cn,Q u (af A2 a (dS P w cn (jH z cH)))
def Ws{t:TA}(ho:aY K to ao)(hl:fH K t l):aY K (OY P w to t) (OZ P w ao l):=fun ρ A σ H Q' Q hs g wh k =>
 ho ρ A σ H _ _ hs g wh fun x A1 v1 H1 k1 g1 r1 aF=>by
  obtain⟨a,ep,kus,e1,e2,q⟩:=aF
  subst e1
  cases r1
  obtain⟨aq,h1,rr⟩:=gc g1 e2
  refine⟨a,ep,aq,rfl,h1,hl ρ A1 σ H1 _ _ (hs.same k1) g1 q fun us A2 vs H2 k2 g2 r2 aL=>?_⟩
  obtain⟨z,aI,cH,u,e3,e4,hu,q2⟩:=aL
  subst e3
  obtain⟨v,rfl,rv⟩:=r2.inv1
  cases rv
  obtain⟨cG,h2,ye⟩:=gc g2 e4
  obtain⟨v,hv,rv⟩:=ye.look hu
  refine⟨z,aI,cG,v,rfl,h2,hv,fun cn=>?_⟩
  have kp:Kp K H2 (upd H2 a (DQ P w a cn (jH z cG))):=Kp.ext h2
  exact k _ _ _ _ (k1.trans (k2.trans kp)) (g2.dO kp (xZ ZC (ye.rm.same kp))) (rv.same kp) (q2 cn)
def Zni{A:az}:OZ P w ao l ρ A Q=ao ρ A fun x A1=>∃a ep kus,x=.ref a/\A1 a=some (dS P w ep kus)/\l ρ A1 fun us A2=>∃z aI cH u,us=[.str z]/\A2 a=some (dS P w aI cH)/\cH.lookup z=some u/\∀cn,Q u (af A2 a (dS P w cn (jH z cH))):=rfl
end
section
def O0(P:Program)(w:World):List V->Hp->VK->Prop:=fun xs H Q=>∃a ks,xs=[.ref a]/\H a=some (jG P w a ks)/\Q (.int ks.length) H
def Wt:cf X (.builtin "len") (O0 X.prog X.w):=by
 intro pins s σ H xs us Q I r h;obtain⟨a,ks,rfl,ha,q⟩:=h;obtain⟨u,rfl,ru⟩:=r.one;cases ru;have hS:cT X.prog X.w s.heap a ks:=(I.aG a _ ha).1;obtain⟨o,es,ep,t,e1,ex,ed,el,⟨l,cB,cZ⟩,hsz,hf,_⟩:=hS;have hn:es.size=ks.length:=by
  have:=congrArg List.length cB;rw[Yc,strValues,Yc,Array.length_toList]at this;rw[this,<- cZ.length_eq,Yc]
 refine call_len_set e1 ex ed hf (by rw[show scanBound=4096 from rfl]at hsz;lia) ⟨.int _,H,I.tok _,⟨_,rfl⟩,?_⟩;rw[hn];exact q
end
section
variable{K:au}
def O1(P:Program)(w:World):List U->az->bH->Prop:=fun us A Q=>∃a ks,us=[.ref a]/\A a=some (tS P w ks)/\Q (.int ks.length) A
def Wu:hZ K (O0 P w) (O1 P w):=fun xs us A H Q' Q r g h k=>by
 obtain⟨a,ks,rfl,ha,q⟩:=h
 obtain⟨v,rfl,rv⟩:=r.inv1
 cases rv
 exact⟨a,ks,rfl,g.set ha,k _ _ _ _ (.refl H) g (.int _) q⟩
def Zqm{A:az}:O1 P w [.ref a] A Q=∃ks,A a=some (tS P w ks)/\Q (.int ks.length) A:=propext ⟨fun aF=>by obtain⟨_,ks,e,h⟩:=aF;cases e;exact⟨ks,h⟩,fun⟨ks,h⟩=>⟨a,ks,rfl,h⟩⟩
end
end L2
namespace My
open PySem L2
local macro_rules | `(tactic| walk_at "d") => do
 let ls <- ("Zsn ZqI Zpm Zpi ZuE ZqX q_c Zwa ZvX Zwo Zt1 ZtC Zv3 ZtX Zpf Ztu ZqQ Zto ZrZ Zok Ztt ZsG Zwm ZqB Zk2 Zqd Zwh Zuj Zwj Zrf Ztw Zpu ZsI Ztm ZtN ZuR Zs1 Zuw ZoJ Zs6 ZuG ZvU ZuS Zs2 ZsR ZtW Zr0 Zpx Znn Zp1 Zqh Zqu ZqY Zqw Zv6 ZsZ Zuo ZuI ZsW ZsQ ZsK Zuz Zs4 ZsM Zuk Zsp Zo3 Zph ZqC Zqb ZuP ZtS Ztc Zue Zui Zql ZqM ZqH ZpY ZqV ZuO Zqr Zsi ZoE ZqK Zm2 ZqR ZmV ZsL ZtY ZsN Zty ZuK Zuu ZtP ZqU ZtU Zud Zsm ZqN ZrH Zrp Zri ZpS Zs3 Zum Ztl Ztb Zpj Zta ZpR Zut Zqs Zqp ZpC ZtH Zr2 ZuQ ZuJ Zun Zrx ZqW Zq1 Zo0 Zr7 ZhQ Zru ZnW Zv9 ZtD ZqT Zpa ZrR Zvx ZvD ZiC ZlW Zrm ZuC ZmU Zth ZtL ZrN Znc Zoq Zm0 Zog Zqz ZmY Zsc Zuy ZkT Zov Zrw ZnB Zte Zqa Zvx ZvD ZiC ZlW Zrm Zqx Zq5 ZnM Znr Zqm Zni ZpI ZqF Zv0 Zv2 Zk8 ZnN".splitOn " ").toArray.mapM fun s => `(Lean.Parser.Tactic.simpLemma| ↓$(Lean.mkIdent (.mkSimple s)):ident)
 `(tactic| (try simp only [$ls,*,List.set_cons_zero,List.set_cons_succ,List.cons_append,List.nil_append]))
local macro_rules | `(tactic| walk_at "g") => `(tactic| (walk_at "d"; (try simp only [↓Ztn, ↓ZtM]); walk_at "d"))
local macro_rules | `(tactic| walk_at "s") => `(tactic| (simp only [L2.aStart, Yr, YaY, List.length_cons, List.length_nil, List.replicate, List.cons_append, List.nil_append, Nat.reduceAdd, Nat.reduceSub]))
local macro_rules | `(tactic| walk_at "o") => `(tactic| (refine ⟨rfl, ?_⟩; walk_at "s"; walk_at "d"))
local macro_rules | `(tactic| walk_at "c") => `(tactic| (try simp only [L2.aCompStart, List.replicate, Yr, YaY, List.getElem?_cons_zero, List.getElem?_cons_succ, Option.join_some, List.cons_append, List.nil_append]))
local macro_rules | `(tactic| walk_at "f") => `(tactic| ((conv => lhs; whnf); (conv => lhs; whnf)))
def top(i:Nat):Stmt:=PySem.Challenge.pw_figurebook_k08_rounds_walked.main.body.getD i (.Pass ⟨0,0,0,0⟩)
def hm0:Value:=.str "figurebook.rules" 314
def hm1:Value:=.str "law_figurebook_k08_rounds_walked" 896
def hm2:Value:=.str "figurebook.books" 699
def hm3:Value:=.str "figurebook.errors" 194
def hKl(P:Params):List (Addr×Obj):=[[(2,(Obj.mk .none none (.dict #[] 0) #[])),
 (3,hNs 60 [ZE P "__name__" 165 hm1,ZE P "__doc__" 166 .none,ZE P "__package__" 167 .none,ZE P "__loader__" 168 (.builtin "__main__.__loader__#opaque"),ZE P "__spec__" 169 .none,ZE P "__annotations__" 170 (.ref 6),ZE P "__builtins__" 171 (.ref 4),ZE P "__file__" 173 (.str "/claim/cut.py" 172),ZE P "__cached__" 174 .none,ZE P "_wall" 193 (.ref 21),ZE P "FigureError" 213 (.ref 31),ZE P "Twice" 238 (.ref 51),ZE P "NoClass" 263 (.ref 70),ZE P "Hollow" 288 (.ref 89),ZE P "Round" 313 (.ref 108),ZE P "Rule" 352 (.ref 134),ZE P "Nothing" 375 (.ref 155),ZE P "Bead" 407 (.ref 181),ZE P "Or" 448 (.ref 214),ZE P "By" 489 (.ref 247),ZE P "Row" 528 (.ref 280),ZE P "Bag" 567 (.ref 313),ZE P "Choice" 606 (.ref 346),ZE P "Ring" 645 (.ref 379),ZE P "Named" 684 (.ref 412),ZE P "term_text" 691 (.ref 421),ZE P "factor_text" 698 (.ref 428),ZE P "Book" 809 (.ref 513),ZE P "rules_by_name" 819 (.ref 524),ZE P "leasts_by_name" 825 (.ref 529),ZE P "least_of" 831 (.ref 534),ZE P "refuse_hollow_parts" 841 (.ref 541),ZE P "has_hollow_part" 847 (.ref 546),ZE P "leans_by_name" 853 (.ref 551),ZE P "leaning_names" 863 (.ref 558),ZE P "leaning_parts" 869 (.ref 563),ZE P "refuse_rounds" 875 (.ref 568),ZE P "round_from" 884 (.ref 575),ZE P "spoken_names" 895 (.ref 582),ZE P "_law_cell" 905 (.ref 589),ZE P "_law_words" 911 (.ref 594),ZE P "_law_colour" 918 (.ref 601),ZE P "_law_hollow" 926 (.ref 608),ZE P "_law_op" 942 (.ref 615),ZE P "_law_rule" 955 (.ref 622),ZE P "_law_rules" 961 (.ref 627),ZE P "_law_object" 969 (.ref 634),ZE P "_law_pairs" 975 (.ref 639),ZE P "_law_least" 981 (.ref 644),ZE P "_law_leasts" 993 (.ref 651),ZE P "_law_leaning" 1002 (.ref 658),ZE P "_law_inside" 1011 (.ref 665),ZE P "_law_hollow_part" 1020 (.ref 672),ZE P "_law_goes_round" 1026 (.ref 677),ZE P "_law_verdict" 1032 (.ref 682),ZE P "_law_is_round" 1045 (.ref 689),ZE P "_law_asked" 1051 (.ref 694),ZE P "_law_link" 1062 (.ref 701),ZE P "_law_mix" 1072 (.ref 708),ZE P "law" 1089 (.ref 715)])],
 hF 21 187 1 1 3 191 true (top 0) "_wall" "_wall" (.str "__main__" 164),
 [(30,hNs 3 [ZE P "__module__" 203 hm3,ZE P "__firstlineno__" 207 (.int 5 206),ZE P "__static_attributes__" 208 (.ref 29),ZE P "__weakref__" 210 (.ref 32),ZE P "__doc__" 211 .none]),
 iP 31 "FigureError" [.type "ValueError",.type "Exception",.type "BaseException",.type "object"] [.ref 51,.ref 70,.ref 89,.ref 108] (some (.ref 22)) 196 "ValueError.__new__",
 (50,hNs 2 [ZE P "__module__" 221 hm3,ZE P "__firstlineno__" 225 (.int 7 224),ZE P "__init__" 233 (.ref 48),ZE P "__static_attributes__" 235 (.ref 49),ZE P "__doc__" 236 .none]),
 iP 51 "Twice" [.ref 31,.type "ValueError",.type "Exception",.type "BaseException",.type "object"] [] (some (.ref 35)) 214 "ValueError.__new__"],
 hF 67 251 14 2 3 256 true (ZG (top 4) 0) "__init__" "NoClass.__init__" hm3,
 [(69,hNs 2 [ZE P "__module__" 246 hm3,ZE P "__firstlineno__" 250 (.int 12 249),ZE P "__init__" 258 (.ref 67),ZE P "__static_attributes__" 260 (.ref 68),ZE P "__doc__" 261 .none]),
 iP 70 "NoClass" [.ref 31,.type "ValueError",.type "Exception",.type "BaseException",.type "object"] [] (some (.ref 54)) 239 "ValueError.__new__"],
 hF 86 276 19 2 3 281 true (ZG (top 5) 0) "__init__" "Hollow.__init__" hm3,
 [(88,hNs 2 [ZE P "__module__" 271 hm3,ZE P "__firstlineno__" 275 (.int 17 274),ZE P "__init__" 283 (.ref 86),ZE P "__static_attributes__" 285 (.ref 87),ZE P "__doc__" 286 .none]),
 iP 89 "Hollow" [.ref 31,.type "ValueError",.type "Exception",.type "BaseException",.type "object"] [] (some (.ref 73)) 264 "ValueError.__new__"],
 hF 105 301 24 2 3 306 true (ZG (top 6) 0) "__init__" "Round.__init__" hm3,
 [(107,hNs 2 [ZE P "__module__" 296 hm3,ZE P "__firstlineno__" 300 (.int 22 299),ZE P "__init__" 308 (.ref 105),ZE P "__static_attributes__" 310 (.ref 106),ZE P "__doc__" 311 .none]),
 iP 108 "Round" [.ref 31,.type "ValueError",.type "Exception",.type "BaseException",.type "object"] [] (some (.ref 92)) 289 "ValueError.__new__"],
 hF 124 328 30 1 3 332 true (ZG (top 8) 0) "inside" "Rule.inside" hm0,
 hF 131 335 33 1 3 342 true (ZG (top 8) 1) "names" "Rule.names" hm0,
 [(133,hNs 4 [ZE P "__module__" 323 hm0,ZE P "__firstlineno__" 327 (.int 28 326),ZE P "inside" 334 (.ref 124),ZE P "names" 344 (.ref 131),ZE P "__static_attributes__" 345 (.ref 132),ZE P "__dict__" 347 (.ref 135),ZE P "__weakref__" 349 (.ref 136),ZE P "__doc__" 350 .none]),
 iP 134 "Rule" [.type "object"] [.ref 155,.ref 181,.ref 214,.ref 247,.ref 280,.ref 313,.ref 346,.ref 379,.ref 412] none 316 "object.__new__",
 (154,hNs 2 [ZE P "__module__" 360 hm0,ZE P "__firstlineno__" 364 (.int 39 363),ZE P "told" 371 (.ref 152),ZE P "__static_attributes__" 372 (.ref 153),ZE P "__doc__" 373 .none]),
 iP 155 "Nothing" [.ref 134,.type "object"] [] (some (.ref 139)) 353 "object.__new__"],
 hF 171 388 45 2 3 393 true (ZG (top 10) 0) "__init__" "Bead.__init__" hm0,
 [(180,hNs 2 [ZE P "__module__" 383 hm0,ZE P "__firstlineno__" 387 (.int 43 386),ZE P "__init__" 395 (.ref 171),ZE P "told" 402 (.ref 178),ZE P "__static_attributes__" 404 (.ref 179),ZE P "__doc__" 405 .none]),
 iP 181 "Bead" [.ref 134,.type "object"] [] (some (.ref 158)) 376 "object.__new__"],
 hF 197 420 52 3 3 426 true (ZG (top 11) 0) "__init__" "Or.__init__" hm0,
 hF 204 429 56 1 3 433 true (ZG (top 11) 1) "inside" "Or.inside" hm0,
 [(213,hNs 2 [ZE P "__module__" 415 hm0,ZE P "__firstlineno__" 419 (.int 50 418),ZE P "__init__" 428 (.ref 197),ZE P "inside" 435 (.ref 204),ZE P "told" 442 (.ref 211),ZE P "__static_attributes__" 445 (.ref 212),ZE P "__doc__" 446 .none]),
 iP 214 "Or" [.ref 134,.type "object"] [] (some (.ref 184)) 408 "object.__new__"],
 hF 230 461 63 3 3 467 true (ZG (top 12) 0) "__init__" "By.__init__" hm0,
 hF 237 470 67 1 3 474 true (ZG (top 12) 1) "inside" "By.inside" hm0,
 [(246,hNs 2 [ZE P "__module__" 456 hm0,ZE P "__firstlineno__" 460 (.int 61 459),ZE P "__init__" 469 (.ref 230),ZE P "inside" 476 (.ref 237),ZE P "told" 483 (.ref 244),ZE P "__static_attributes__" 486 (.ref 245),ZE P "__doc__" 487 .none]),
 iP 247 "By" [.ref 134,.type "object"] [] (some (.ref 217)) 449 "object.__new__"],
 hF 263 502 74 2 3 507 true (ZG (top 13) 0) "__init__" "Row.__init__" hm0,
 hF 270 510 77 1 3 514 true (ZG (top 13) 1) "inside" "Row.inside" hm0,
 [(279,hNs 2 [ZE P "__module__" 497 hm0,ZE P "__firstlineno__" 501 (.int 72 500),ZE P "__init__" 509 (.ref 263),ZE P "inside" 516 (.ref 270),ZE P "told" 523 (.ref 277),ZE P "__static_attributes__" 525 (.ref 278),ZE P "__doc__" 526 .none]),
 iP 280 "Row" [.ref 134,.type "object"] [] (some (.ref 250)) 490 "object.__new__"],
 hF 296 541 84 2 3 546 true (ZG (top 14) 0) "__init__" "Bag.__init__" hm0,
 hF 303 549 87 1 3 553 true (ZG (top 14) 1) "inside" "Bag.inside" hm0,
 [(312,hNs 2 [ZE P "__module__" 536 hm0,ZE P "__firstlineno__" 540 (.int 82 539),ZE P "__init__" 548 (.ref 296),ZE P "inside" 555 (.ref 303),ZE P "told" 562 (.ref 310),ZE P "__static_attributes__" 564 (.ref 311),ZE P "__doc__" 565 .none]),
 iP 313 "Bag" [.ref 134,.type "object"] [] (some (.ref 283)) 529 "object.__new__"],
 hF 329 580 94 2 3 585 true (ZG (top 15) 0) "__init__" "Choice.__init__" hm0,
 hF 336 588 97 1 3 592 true (ZG (top 15) 1) "inside" "Choice.inside" hm0,
 [(345,hNs 2 [ZE P "__module__" 575 hm0,ZE P "__firstlineno__" 579 (.int 92 578),ZE P "__init__" 587 (.ref 329),ZE P "inside" 594 (.ref 336),ZE P "told" 601 (.ref 343),ZE P "__static_attributes__" 603 (.ref 344),ZE P "__doc__" 604 .none]),
 iP 346 "Choice" [.ref 134,.type "object"] [] (some (.ref 316)) 568 "object.__new__"],
 hF 362 619 104 2 3 624 true (ZG (top 16) 0) "__init__" "Ring.__init__" hm0,
 hF 369 627 107 1 3 631 true (ZG (top 16) 1) "inside" "Ring.inside" hm0,
 [(378,hNs 2 [ZE P "__module__" 614 hm0,ZE P "__firstlineno__" 618 (.int 102 617),ZE P "__init__" 626 (.ref 362),ZE P "inside" 633 (.ref 369),ZE P "told" 640 (.ref 376),ZE P "__static_attributes__" 642 (.ref 377),ZE P "__doc__" 643 .none]),
 iP 379 "Ring" [.ref 134,.type "object"] [] (some (.ref 349)) 607 "object.__new__"],
 hF 395 658 114 2 3 663 true (ZG (top 17) 0) "__init__" "Named.__init__" hm0,
 hF 402 666 117 1 3 670 true (ZG (top 17) 1) "names" "Named.names" hm0,
 [(411,hNs 2 [ZE P "__module__" 653 hm0,ZE P "__firstlineno__" 657 (.int 112 656),ZE P "__init__" 665 (.ref 395),ZE P "names" 672 (.ref 402),ZE P "told" 679 (.ref 409),ZE P "__static_attributes__" 681 (.ref 410),ZE P "__doc__" 682 .none]),
 iP 412 "Named" [.ref 134,.type "object"] [] (some (.ref 382)) 646 "object.__new__"],
 hF 440 713 133 2 3 716 false (ZG (top 21) 0) "__init__" "Book.__init__" hm2,
 [(512,hNs 4 [ZE P "__module__" 708 hm2,ZE P "__firstlineno__" 712 (.int 131 711),ZE P "__init__" 718 (.ref 440),ZE P "names" 725 (.ref 447),ZE P "rule" 733 (.ref 454),ZE P "hollow" 741 (.ref 461),ZE P "least" 749 (.ref 468),ZE P "leans" 757 (.ref 475),ZE P "speaks" 765 (.ref 482),ZE P "rings" 773 (.ref 489),ZE P "choices" 781 (.ref 496),ZE P "spoken_rules" 789 (.ref 503),ZE P "need_class" 797 (.ref 510),ZE P "__static_attributes__" 802 (.ref 511),ZE P "__dict__" 804 (.ref 514),ZE P "__weakref__" 806 (.ref 515),ZE P "__doc__" 807 .none]),
 iP 513 "Book" [.type "object"] [] none 701 "object.__new__"],
 hF 524 810 175 1 3 817 true (top 22) "rules_by_name" "rules_by_name" hm2,
 hF 529 820 186 1 3 823 false (top 23) "leasts_by_name" "leasts_by_name" hm2,
 hF 534 826 193 2 3 829 false (top 24) "least_of" "least_of" hm2,
 hF 541 832 206 2 3 839 true (top 25) "refuse_hollow_parts" "refuse_hollow_parts" hm2,
 hF 546 842 210 2 3 845 false (top 26) "has_hollow_part" "has_hollow_part" hm2,
 hF 551 848 214 2 3 851 false (top 27) "leans_by_name" "leans_by_name" hm2,
 hF 558 854 216 2 3 861 true (top 28) "leaning_names" "leaning_names" hm2,
 hF 563 864 223 2 3 867 false (top 29) "leaning_parts" "leaning_parts" hm2,
 hF 568 870 228 1 3 873 false (top 30) "refuse_rounds" "refuse_rounds" hm2,
 hF 575 876 236 2 3 882 true (top 31) "round_from" "round_from" hm2,
 hF 582 885 242 2 3 893 true (top 32) "spoken_names" "spoken_names" hm2,
 hF 589 898 252 2 3 903 true (top 34) "_law_cell" "_law_cell" hm1,
 hF 594 906 256 2 3 909 false (top 35) "_law_words" "_law_words" hm1,
 hF 601 912 265 1 3 916 true (top 36) "_law_colour" "_law_colour" hm1,
 hF 608 919 267 2 3 924 true (top 37) "_law_hollow" "_law_hollow" hm1,
 hF 615 927 275 5 3 940 true (top 38) "_law_op" "_law_op" hm1,
 hF 622 943 295 4 3 953 true (top 39) "_law_rule" "_law_rule" hm1,
 hF 634 962 315 1 3 967 true (top 41) "_law_object" "_law_object" hm1,
 hF 644 976 336 2 3 979 false (top 43) "_law_least" "_law_least" hm1,
 hF 651 982 352 1 3 991 true (top 44) "_law_leasts" "_law_leasts" hm1,
 hF 658 994 360 2 3 1000 true (top 45) "_law_leaning" "_law_leaning" hm1,
 hF 665 1003 371 1 3 1009 true (top 46) "_law_inside" "_law_inside" hm1,
 hF 672 1012 377 2 3 1018 true (top 47) "_law_hollow_part" "_law_hollow_part" hm1,
 hF 677 1021 382 2 3 1024 false (top 48) "_law_goes_round" "_law_goes_round" hm1,
 hF 682 1027 391 1 3 1030 false (top 49) "_law_verdict" "_law_verdict" hm1,
 hF 689 1033 408 2 3 1043 true (top 50) "_law_is_round" "_law_is_round" hm1,
 hF 694 1046 419 1 3 1049 false (top 51) "_law_asked" "_law_asked" hm1,
 hF 701 1052 443 2 3 1060 true (top 52) "_law_link" "_law_link" hm1,
 hF 708 1063 449 1 3 1070 true (top 53) "_law_mix" "_law_mix" hm1,
 hF 715 1073 454 1 3 1087 true (top 54) "law" "law" hm1].flatten
def hK(P:Params):au:=hKl P
abbrev TX(P:Program)(w:World)(K:au)(mg:Str->Option Value)(base:Heap):=TX0 hK P w K mg base
def Wv:Addr:=134
def pA:Addr:=155
def nN:Addr:=181
def mE:Addr:=214
def mF:Addr:=247
def lq:Addr:=280
def lr:Addr:=313
def lu:Addr:=346
def mG:Addr:=379
def nO:Addr:=412
def aJ:Addr:=513
def yI:Addr:=70
def aw:Addr:=89
def aD:Addr:=108
def BU:Addr:=31
def yJ:Addr:=51
abbrev cS:=jz [pA,nN,nO,mE,mF,lq,lr,lu,mG]
variable{P:Program}{w:World}{K:au}{mg:Str->Option Value}{base:Heap}(T:TX P w K mg base)
def TX.pB:=T.fr 86 (ZG (top 5) 0) "__init__" "Hollow.__init__" hm3 ["self","name"] ["self","name"]
def TX.iu:=T.xc aw 86
def TX.pC:=T.fr 105 (ZG (top 6) 0) "__init__" "Round.__init__" hm3 ["self","circle"] ["self","circle"]
def TX.jI:=T.xc aD 105
def TX.kg:=T.fr 124 (ZG (top 8) 0) "inside" "Rule.inside" hm0 ["self"] ["self"]
def TX.dw:=T.fr 131 (ZG (top 8) 1) "names" "Rule.names" hm0 ["self"] ["self","found","rule","name"]
def TX.sY:=T.fr 171 (ZG (top 10) 0) "__init__" "Bead.__init__" hm0 ["self","colour"] ["self","colour"]
def TX.sZ:=T.mk' nN 171
def TX.s_:=T.fr 197 (ZG (top 11) 0) "__init__" "Or.__init__" hm0 ["self","one","other"] ["self","one","other"]
def TX.Gz:=T.mk' mE 197
def TX.tj:=T.fr 204 (ZG (top 11) 1) "inside" "Or.inside" hm0 ["self"] ["self"]
def TX.GA:=T.me mE "inside" 204
def TX.tm:=T.fr 230 (ZG (top 12) 0) "__init__" "By.__init__" hm0 ["self","one","other"] ["self","one","other"]
def TX.GB:=T.mk' mF 230
def TX.tq:=T.fr 237 (ZG (top 12) 1) "inside" "By.inside" hm0 ["self"] ["self"]
def TX.GC:=T.me mF "inside" 237
def TX.tu:=T.fr 263 (ZG (top 13) 0) "__init__" "Row.__init__" hm0 ["self","part"] ["self","part"]
def TX.yK:=T.mk' lq 263
def TX.tw:=T.fr 270 (ZG (top 13) 1) "inside" "Row.inside" hm0 ["self"] ["self"]
def TX.GD:=T.me lq "inside" 270
def TX.tD:=T.fr 296 (ZG (top 14) 0) "__init__" "Bag.__init__" hm0 ["self","part"] ["self","part"]
def TX.yL:=T.mk' lr 296
def TX.tE:=T.fr 303 (ZG (top 14) 1) "inside" "Bag.inside" hm0 ["self"] ["self"]
def TX.GF:=T.me lr "inside" 303
def TX.tF:=T.fr 329 (ZG (top 15) 0) "__init__" "Choice.__init__" hm0 ["self","part"] ["self","part"]
def TX.mH:=T.mk' lu 329
def TX.tG:=T.fr 336 (ZG (top 15) 1) "inside" "Choice.inside" hm0 ["self"] ["self"]
def TX.GG:=T.me lu "inside" 336
def TX.tH:=T.fr 362 (ZG (top 16) 0) "__init__" "Ring.__init__" hm0 ["self","part"] ["self","part"]
def TX.tI:=T.mk' mG 362
def TX.tJ:=T.fr 369 (ZG (top 16) 1) "inside" "Ring.inside" hm0 ["self"] ["self"]
def TX.GH:=T.me mG "inside" 369
def TX.tK:=T.fr 395 (ZG (top 17) 0) "__init__" "Named.__init__" hm0 ["self","name"] ["self","name"]
def TX.pD:=T.mk' nO 395
def TX.pE:=T.fr 402 (ZG (top 17) 1) "names" "Named.names" hm0 ["self"] ["self"]
def TX.GI:=T.me nO "names" 402
def TX.pF:=T.fr 440 (ZG (top 21) 0) "__init__" "Book.__init__" hm2 ["self","pairs"] ["self","pairs"]
def TX.mI:=T.mk' aJ 440
def TX.tL:=T.fm 524 (top 22) "rules_by_name" hm2 ["pairs"] ["pairs","found","name","rule"]
def TX.tM:=T.fm 529 (top 23) "leasts_by_name" hm2 ["rule_by"] ["rule_by","leasts","anew"]
def TX.iw:=T.fm 534 (top 24) "least_of" hm2 ["rule","leasts"] ["rule","leasts","within"]
def TX.mJ:=T.fm 541 (top 25) "refuse_hollow_parts" hm2 ["rule_by","leasts"] ["rule_by","leasts","name","rule"]
def TX.kh:=T.fm 546 (top 26) "has_hollow_part" hm2 ["rule","leasts"] ["rule","leasts"]
def TX.tN:=T.fm 551 (top 27) "leans_by_name" hm2 ["rule_by","leasts"] ["rule_by","leasts"]
def TX.km:=T.fm 558 (top 28) "leaning_names" hm2 ["rule","leasts"] ["rule","leasts","found","part"]
def TX.tO:=T.fm 563 (top 29) "leaning_parts" hm2 ["rule","leasts"] ["rule","leasts","sides"]
def TX.mK:=T.fm 568 (top 30) "refuse_rounds" hm2 ["leans_by"] ["leans_by","left","leaning","kept"]
def TX.tP:=T.fm 575 (top 31) "round_from" hm2 ["name","leaning"] ["name","leaning","gone"]
def TX.tQ:=T.fm 582 (top 32) "spoken_names" hm2 ["name","rule_by"] ["name","rule_by","found","waiting","one"]
def TX.kn:=T.fm 589 (top 34) "_law_cell" hm1 ["_law_script","_law_k"] ["_law_script","_law_k"]
def TX.tR:=T.fm 594 (top 35) "_law_words" hm1 ["_law_cell_here","_law_many"] ["_law_cell_here","_law_many","_law_letters","_law_stem","_law_at","_law_found","_law_k","_law_sign"]
def TX.pG:=T.fm 601 (top 36) "_law_colour" hm1 ["_law_cell_here"] ["_law_cell_here"]
def TX.gm:=T.fm 608 (top 37) "_law_hollow" hm1 ["_law_rule_here","_law_hollows"] ["_law_rule_here","_law_hollows"]
def TX.tT:=T.fm 615 (top 38) "_law_op" hm1 ["_law_stack","_law_cell_here","_law_names","_law_lower","_law_hollows"] ["_law_stack","_law_cell_here","_law_names","_law_lower","_law_hollows","_law_kind","_law_turn","_law_bead","_law_other","_law_part"]
def TX.tU:=T.fm 622 (top 39) "_law_rule" hm1 ["_law_cells","_law_names","_law_lower","_law_hollows"] ["_law_cells","_law_names","_law_lower","_law_hollows","_law_stack","_law_cell_here","_law_other"]
def TX.gn:=T.fm 634 (top 41) "_law_object" hm1 ["_law_rule_here"] ["_law_rule_here","_law_one"]
def TX.fw:=T.fm 644 (top 43) "_law_least" hm1 ["_law_rule_here","_law_least_here"] ["_law_rule_here","_law_least_here","_law_one","_law_other"]
def TX.pH:=T.fm 651 (top 44) "_law_leasts" hm1 ["_law_rules_here"] ["_law_rules_here","_law_least_here","_law_turn","_law_name","_law_rule_here","_law_found"]
def TX.ix:=T.fm 658 (top 45) "_law_leaning" hm1 ["_law_rule_here","_law_least_here"] ["_law_rule_here","_law_least_here","_law_found"]
def TX.i8:=T.fm 665 (top 46) "_law_inside" hm1 ["_law_rule_here"] ["_law_rule_here","_law_found","_law_part"]
def TX.tV:=T.fm 672 (top 47) "_law_hollow_part" hm1 ["_law_rule_here","_law_least_here"] ["_law_rule_here","_law_least_here","_law_one"]
def TX.tW:=T.fm 677 (top 48) "_law_goes_round" hm1 ["_law_rules_here","_law_least_here"] ["_law_rules_here","_law_least_here","_law_left","_law_name","_law_rule_here","_law_turn"]
def TX.tX:=T.fm 682 (top 49) "_law_verdict" hm1 ["_law_pairs_here"] ["_law_pairs_here","_law_rules_here","_law_name","_law_rule_here","_law_unknown","_law_least_here"]
def TX.tY:=T.fm 689 (top 50) "_law_is_round" hm1 ["_law_circle","_law_pairs_here"] ["_law_circle","_law_pairs_here","_law_rules_here","_law_name","_law_rule_here","_law_least_here","_law_k"]
def TX.tZ:=T.fm 694 (top 51) "_law_asked" hm1 ["_law_pairs_here"] ["_law_pairs_here","_law_told","_law_circle","_law_kinds","e","_law_words_here"]
def TX.t9:=T.fm 701 (top 52) "_law_link" hm1 ["_law_cell_here","_law_name"] ["_law_cell_here","_law_name","_law_there","_law_bead","_law_ways"]
def TX.t_:=T.fm 708 (top 53) "_law_mix" hm1 ["_law_script"] ["_law_script","_law_made","_law_k","_law_cell_here"]
def TX.ua:=T.fm 715 (top 54) "law" hm1 ["_law_script"] ["_law_script","_law_many","_law_words_here","_law_pairs_here","_law_k","_law_broken","_law_at","_law_bare","_law_red","_law_turn","_law_told"]
def TX.fP:=T.g "Nothing" (.ref pA)
def TX.dy:=T.cl pA
def TX.ko:=T.Wb pA
def TX.dz:=T.me pA "inside" 124
def TX.dP:=T.me pA "names" 131
def TX.mL:=T.g "Bead" (.ref nN)
def TX.gp:=T.cl nN
def TX.fz:=T.me nN "inside" 124
def TX.gq:=T.me nN "names" 131
def TX.fA:=T.na nN "colour"
def TX.yM:=T.g "Or" (.ref mE)
def TX.i9:=T.cl mE
def TX.i_:=T.me mE "names" 131
def TX.iy:=T.na mE "one"
def TX.eI:=T.na mE "other"
def TX.yN:=T.g "By" (.ref mF)
def TX.eJ:=T.cl mF
def TX.ja:=T.me mF "names" 131
def TX.dc:=T.na mF "one"
def TX.bY:=T.na mF "other"
def TX.mM:=T.g "Row" (.ref lq)
def TX.iz:=T.cl lq
def TX.iA:=T.me lq "names" 131
def TX.cP:=T.na lq "part"
def TX.mN:=T.g "Bag" (.ref lr)
def TX.iB:=T.cl lr
def TX.iC:=T.me lr "names" 131
def TX.cQ:=T.na lr "part"
def TX.eL:=T.g "Choice" (.ref lu)
def TX.cv:=T.cl lu
def TX.eM:=T.me lu "names" 131
def TX.bM:=T.na lu "part"
def TX.mO:=T.g "Ring" (.ref mG)
def TX.eN:=T.cl mG
def TX.gr:=T.me mG "names" 131
def TX.cw:=T.na mG "part"
def TX.gu:=T.g "Named" (.ref nO)
def TX.bZ:=T.cl nO
def TX.eO:=T.me nO "inside" 124
def TX.bC:=T.na nO "name"
def TX.mP:=T.g "Book" (.ref aJ)
def TX.br:=T.cl aJ
def TX.aP:=T.na aJ "rule_by"
def TX.bu:=T.na aJ "least_by"
def TX.b9:=T.na aJ "leans_by"
def TX.dA:=T.na aJ "speaks_by"
def TX.fQ:=T.g "NoClass" (.ref yI)
def TX.eP:=T.g "Hollow" (.ref aw)
def TX.gx:=T.g "Round" (.ref aD)
def TX.bN:=T.g "FigureError" (.ref BU)
def TX.jJ:=T.g "Twice" (.ref yJ)
def TX.XB:=T.xb BU
def TX.cM:=T.na aw "name"
def TX.cx:=T.na aD "circle"
def TX.cy:=T.ca aw BU true
def TX.cI:=T.ca aD BU true
def TX.eR:=T.ca aw yJ false
def TX.dB:=T.ca aw yI false
def TX.dQ:=T.ca aw aw true
def TX.fB:=T.ca aD yJ false
def TX.dR:=T.ca aD yI false
def TX.eT:=T.ca aD aw false
def TX.fC:=T.ca aD aD true
def TX.bT:=T.xg aw
def TX.cC:=T.xg aD
def TX.GJ:=T.kt aw (.ref yJ) false
def TX.GK:=T.kt aw (.ref yI) false
def TX.GL:=T.kt aw (.ref aw) true
def TX.GN:=T.kt aw (.ref aD) false
def TX.GO:=T.kt aw (.type "ValueError") true
def TX.GP:=T.kt aD (.ref yJ) false
def TX.GQ:=T.kt aD (.ref yI) false
def TX.GR:=T.kt aD (.ref aw) false
def TX.GS:=T.kt aD (.ref aD) true
def TX.GU:=T.kt aD (.type "ValueError") true
def TX.IT:=T.it [pA,nN,nO,mE,mF,lq,lr,lu,mG] Wv
def TX.gy:=T.no "ValueError"
def TX.qO:=T.no "any"
def TX.iD:=T.no "enumerate"
def TX.aE:=T.no "isinstance"
def TX.bz:=T.no "len"
def TX.eU:=T.no "list"
def TX.mQ:=T.no "min"
def TX.cD:=T.no "range"
def TX.jb:=T.no "reversed"
def TX.jK:=T.no "set"
def TX.de:=T.no "sorted"
def TX.yO:=T.no "sum"
def TX.pI:=T.no "tuple"
def vS(C:Addr)(f:Str):bQ:=fun us A Q=>∃(x dx:Addr)(u:U),us=[.ref x,u]/\A x=some (.ins C dx [])/\Q .ay (af A x (.ins C dx [(f,u)]))
def O2(C:Addr):bQ:=fun us A Q=>∃(x dx:Addr)(u v:U),us=[.ref x,u,v]/\A x=some (.ins C dx [])/\Q .ay (af A x (.ins C dx [("one",u),("other",v)]))
def nP:dq a u []=[(a,u)]:=rfl
def O3:dq "other" v [(("one":Str),u)]=[(("one":Str),u),(("other":Str),v)]:=by
 have:("one":Str)≠"other":=by decide +kernel
 simp[dq,this]
section
include T
def Ww:T.sY.Ok aQ 1 (a6 K (vS nN "colour")):=by
 apply T.sY.bF;walk_at "f";exact fun S hr=>⟨_,(Zh (jo (pv 0) (pv 1) rfl)),(jy Zb Zb)⟩;rintro us A Q ⟨x,dx,u,rfl,hx,q⟩;walk_at "o";refine⟨x,_,dx,_,rfl,hx,T.gp,T.fA,by decide,?_⟩;rw[nP];exact fg q
def Wx:T.tK.Ok aQ 1 (a6 K (vS nO "name")):=by
 apply T.tK.bF;walk_at "f";exact fun S hr=>⟨_,(Zh (jo (pv 0) (pv 1) rfl)),(jy Zb Zb)⟩;rintro us A Q ⟨x,dx,u,rfl,hx,q⟩;walk_at "o";refine⟨x,_,dx,_,rfl,hx,T.bZ,T.bC,by decide,?_⟩;rw[nP];exact fg q
def Wy:T.tu.Ok aQ 1 (a6 K (vS lq "part")):=by
 apply T.tu.bF;walk_at "f";exact fun S hr=>⟨_,(Zh (jo (pv 0) (pv 1) rfl)),(jy Zb Zb)⟩;rintro us A Q ⟨x,dx,u,rfl,hx,q⟩;walk_at "o";refine⟨x,_,dx,_,rfl,hx,T.iz,T.cP,by decide,?_⟩;rw[nP];exact fg q
def Wz:T.tD.Ok aQ 1 (a6 K (vS lr "part")):=by
 apply T.tD.bF;walk_at "f";exact fun S hr=>⟨_,(Zh (jo (pv 0) (pv 1) rfl)),(jy Zb Zb)⟩;rintro us A Q ⟨x,dx,u,rfl,hx,q⟩;walk_at "o";refine⟨x,_,dx,_,rfl,hx,T.iB,T.cQ,by decide,?_⟩;rw[nP];exact fg q
def WA:T.tF.Ok aQ 1 (a6 K (vS lu "part")):=by
 apply T.tF.bF;walk_at "f";exact fun S hr=>⟨_,(Zh (jo (pv 0) (pv 1) rfl)),(jy Zb Zb)⟩;rintro us A Q ⟨x,dx,u,rfl,hx,q⟩;walk_at "o";refine⟨x,_,dx,_,rfl,hx,T.cv,T.bM,by decide,?_⟩;rw[nP];exact fg q
def WB:T.tH.Ok aQ 1 (a6 K (vS mG "part")):=by
 apply T.tH.bF;walk_at "f";exact fun S hr=>⟨_,(Zh (jo (pv 0) (pv 1) rfl)),(jy Zb Zb)⟩;rintro us A Q ⟨x,dx,u,rfl,hx,q⟩;walk_at "o";refine⟨x,_,dx,_,rfl,hx,T.eN,T.cw,by decide,?_⟩;rw[nP];exact fg q
def WC:T.s_.Ok aQ 1 (a6 K (O2 mE)):=by
 apply T.s_.bF
 walk_at "f"
 exact fun S hr=>⟨_,(Zf (jo (pv 0) (pv 1) rfl)
   (Zh (jo (pv 0) (pv 2) rfl))),(Zk (jy Zb Zb)
   (jy Zb Zb))⟩
 rintro us A Q ⟨x,dx,u,v,rfl,hx,q⟩
 walk_at "o"
 refine⟨x,_,dx,_,rfl,hx,T.i9,T.iy,by decide,x,_,dx,_,rfl,Zd,T.i9,T.eI,by show(1:Nat)<1000;decide,?_⟩
 rw[ZP,nP,O3]
 exact fg q
def WD:T.tm.Ok aQ 1 (a6 K (O2 mF)):=by
 apply T.tm.bF
 walk_at "f"
 exact fun S hr=>⟨_,(Zf (jo (pv 0) (pv 1) rfl)
   (Zh (jo (pv 0) (pv 2) rfl))),(Zk (jy Zb Zb)
   (jy Zb Zb))⟩
 rintro us A Q ⟨x,dx,u,v,rfl,hx,q⟩
 walk_at "o"
 refine⟨x,_,dx,_,rfl,hx,T.eJ,T.dc,by decide,x,_,dx,_,rfl,Zd,T.eJ,T.bY,by show(1:Nat)<1000;decide,?_⟩
 rw[ZP,nP,O3]
 exact fg q
end
def BV{a b:Str}{u v:U}:List.lookup a [(a,u),(b,v)]=some u:=by simp[List.lookup]
def BW{a b:Str}{u v:U}(h:(b==a)=false):List.lookup b [(a,u),(b,v)]=some v:=by simp[List.lookup,h]
def WE{ts:List Str}(h:x∉ts):dD (.str x) (ts.map U.str)=false:=by
 unfold dD ng;rw[List.any_eq_false];intro y hy;simp only[YS]at hy;obtain⟨_,⟨z,hz,rfl⟩,rfl⟩:=hy;simp only[U.toV,lR];intro e;have:z=x:=by simpa using e
 exact h (this▸hz)
def nQ{a:Str}{u:U}:List.lookup a [(a,u)]=some u:=by simp[List.lookup]
section
include T
def WG(n:Nat):T.gn.Ok aQ (n+4) (a6 K (Fe cS n)):=by
 induction n with
 | zero=>exact oZ T.gn.f T.gn.s TM
 | succ n kq =>
  have GV:=Ww T;have GW:=Wx T;have GX:=WC T;have GY:=WD T;have GZ:=Wy T;have G0:=Wz T;have G1:=WA T;have G2:=WB T;apply T.gn.bF;walk_at "f";exact fun S hr=>⟨_,(Zf (ZT (Zo (cN hr) (ZH aT (pv 0) Zl (fun _ _=>rfl)) Zr (ZF _)) (Zh (Zu (Tr T.ko (by rfl) T.fP))) Zz)
   (Zf (ZT (Zo (cN hr) (ZH aT (pv 0) Zl (fun _ _=>rfl)) Zr (ZF _)) (Zh (Zu (qj T.sZ GV.mn hr (by rfl) T.mL T.sY.b .nil g8 (Za (ZH aT (pv 0) Zl (fun _ _=>rfl)) Zg)))) Zz)
   (Zf (ZT (Zo (cN hr) (ZH aT (pv 0) Zl (fun _ _=>rfl)) Zr (ZF _)) (Zh (Zu (qj T.pD GW.mn hr (by rfl) T.gu T.tK.b .nil g8 (Za (ZH aT (pv 0) Zl (fun _ _=>rfl)) Zg)))) Zz)
   (Zf (ZB (i:=1) S.nd rfl (Or.inl rfl) (T.gn.pc kq hr (Za (ZH aT (pv 0) Zl (fun _ _=>rfl)) Zg)))
   (Zf (ZT (Zo (cN hr) (ZH aT (pv 0) Zl (fun _ _=>rfl)) Zr (ZF _)) (Zh (Zu (qj T.Gz GX.mn hr (by rfl) T.yM T.s_.b .nil g8 (Za (pv 1) (Za (T.gn.pc kq hr (Za (ZH aT (pv 0) Zl (fun _ _=>rfl)) Zg)) Zg))))) Zz)
   (Zf (ZT (Zo (cN hr) (ZH aT (pv 0) Zl (fun _ _=>rfl)) Zr (ZF _)) (Zh (Zu (qj T.GB GY.mn hr (by rfl) T.yN T.tm.b .nil g8 (Za (pv 1) (Za (T.gn.pc kq hr (Za (ZH aT (pv 0) Zl (fun _ _=>rfl)) Zg)) Zg))))) Zz)
   (Zf (ZT (Zo (cN hr) (ZH aT (pv 0) Zl (fun _ _=>rfl)) Zr (ZF _)) (Zh (Zu (qj T.yK GZ.mn hr (by rfl) T.mM T.tu.b .nil g8 (Za (pv 1) Zg)))) Zz)
   (Zf (ZT (Zo (cN hr) (ZH aT (pv 0) Zl (fun _ _=>rfl)) Zr (ZF _)) (Zh (Zu (qj T.yL G0.mn hr (by rfl) T.mN T.tD.b .nil g8 (Za (pv 1) Zg)))) Zz)
   (Zf (ZT (Zo (cN hr) (ZH aT (pv 0) Zl (fun _ _=>rfl)) Zr (ZF _)) (Zh (Zu (qj T.mH G1.mn hr (by rfl) T.eL T.tF.b .nil g8 (Za (pv 1) Zg)))) Zz)
   (Zh (Zu (qj T.tI G2.mn hr (by rfl) T.mO T.tH.b .nil g8 (Za (pv 1) Zg))))))))))))),(Zk (dY (Zp (Zj cK (Zj ZK Zb Zm) Zy)) (Zv Ts) ZA)
   (Zk (dY (Zp (Zj cK (Zj ZK Zb Zm) Zy)) (Zv (qA (Zc (Zj ZK Zb Zm) Ze))) ZA)
   (Zk (dY (Zp (Zj cK (Zj ZK Zb Zm) Zy)) (Zv (qA (Zc (Zj ZK Zb Zm) Ze))) ZA)
   (Zk (Zq (Zt (Zc (Zj ZK Zb Zm) Ze)) Zi)
   (Zk (dY (Zp (Zj cK (Zj ZK Zb Zm) Zy)) (Zv (qA (Zc Zb (Zc (Zt (Zc (Zj ZK Zb Zm) Ze)) Ze)))) ZA)
   (Zk (dY (Zp (Zj cK (Zj ZK Zb Zm) Zy)) (Zv (qA (Zc Zb (Zc (Zt (Zc (Zj ZK Zb Zm) Ze)) Ze)))) ZA)
   (Zk (dY (Zp (Zj cK (Zj ZK Zb Zm) Zy)) (Zv (qA (Zc Zb Ze))) ZA)
   (Zk (dY (Zp (Zj cK (Zj ZK Zb Zm) Zy)) (Zv (qA (Zc Zb Ze))) ZA)
   (Zk (dY (Zp (Zj cK (Zj ZK Zb Zm) Zy)) (Zv (qA (Zc Zb Ze))) ZA)
   (Zv (qA (Zc Zb Ze))))))))))))⟩
  rintro us A Q ⟨r,rfl,hd,q⟩;refine⟨rfl,?_⟩;walk_at "s";cases r with
  | nothing =>
   unfold Rl.toU;walk_at "g";exact ZS rfl fun x dx hx=>fg (q _ x (Ext.new hx) ⟨dx,Zd⟩)
  | bead c =>
   unfold Rl.toU;walk_at "g";exact Zw (by decide +kernel) (ZS rfl fun x dx hx=>⟨x,dx,_,rfl,Zd,rfl,by rw[ZP];exact fg (q _ x (Ext.new hx) ⟨dx,Zd⟩)⟩)
  | named c =>
   unfold Rl.toU;walk_at "g";exact Zw (by decide +kernel) (Zw (by decide +kernel) (ZS rfl fun x dx hx=>⟨x,dx,_,rfl,Zd,rfl,by rw[ZP];exact fg (q _ x (Ext.new hx) ⟨dx,Zd⟩)⟩))
  | or x y =>
   unfold Rl.toU;walk_at "g";simp only[Rl.dep]at hd;refine Zw (by decide +kernel) (Zw (by decide +kernel) (Zw (by decide +kernel) (⟨x,rfl,by lia,fun B1 b1 e1 h1=>?_⟩)));walk_at "g";refine ZS rfl ⟨y,rfl,by lia,fun B2 b2 e2 h2 x3 dx hx=>⟨x3,dx,_,_,rfl,Zd,rfl,?_⟩⟩;rw[ZP];exact fg (q _ x3 ((e1.trans e2).trans (Ext.new hx)) ⟨dx,b1,b2,Zd,(h1.ext e2).ext (Ext.new hx),h2.ext (Ext.new hx)⟩)
  | a7 x y =>
   unfold Rl.toU;walk_at "g";simp only[Rl.dep]at hd;refine Zw (by decide +kernel) (Zw (by decide +kernel) (Zw (by decide +kernel) (⟨x,rfl,by lia,fun B1 b1 e1 h1=>?_⟩)));walk_at "g";refine Zw (by decide +kernel) (ZS rfl ⟨y,rfl,by lia,fun B2 b2 e2 h2 x3 dx hx=>⟨x3,dx,_,_,rfl,Zd,rfl,?_⟩⟩);rw[ZP];exact fg (q _ x3 ((e1.trans e2).trans (Ext.new hx)) ⟨dx,b1,b2,Zd,(h1.ext e2).ext (Ext.new hx),h2.ext (Ext.new hx)⟩)
  | hold k x =>
   unfold Rl.toU;walk_at "g";simp only[Rl.dep]at hd;have hk:∀z∈(["nothing","bead","name","or","by"]:List Str),decide (cA k=z)=false:=fun z hz=>Yu (xY k hz);refine Zw (hk _ (by decide +kernel)) (Zw (hk _ (by decide +kernel)) (Zw (hk _ (by decide +kernel)) ⟨x,rfl,by lia,fun B1 b1 e1 h1=>?_⟩));walk_at "g";refine Zw (hk _ (by decide +kernel)) (Zw (hk _ (by decide +kernel)) ?_);have q':∀(C:Addr)(b dx:Addr),B1 b=none->cS (5+min k 3)=C->Fg Q (.ref b) (af (af B1 b (.ins C dx [])) b (.ins C dx [("part",.ref b1)])):=fun C b dx hb e=>by
    subst e;rw[ZP];exact fg (q _ b (e1.trans (Ext.new hb)) ⟨dx,b1,Zd,h1.ext (Ext.new hb)⟩)
   clear hk q;rcases k with _|_|_|k
   .exact ZS (by decide +kernel) fun b dx hb=>⟨b,dx,_,rfl,Zd,rfl,q' _ b dx hb rfl⟩
   .exact Zw (by decide +kernel) (ZS (by decide +kernel) fun b dx hb=>⟨b,dx,_,rfl,Zd,rfl,q' _ b dx hb rfl⟩)
   .exact Zw (by decide +kernel) (Zw (by decide +kernel) (ZS (by decide +kernel) fun b dx hb=>⟨b,dx,_,rfl,Zd,rfl,q' _ b dx hb rfl⟩))
   .rw[show cA (k+1+1+1)=cA 3 from rfl];exact Zw (by decide +kernel) (Zw (by decide +kernel) (Zw (by decide +kernel) fun b dx hb=>⟨b,dx,_,rfl,Zd,rfl,q' _ b dx hb (by rw[Nat.min_eq_right (by lia)];rfl)⟩))
end
def pJ(cs:Nat->Addr)(i:Nat):bQ:=fun us A Q=>∃(a:Addr)(r:Rl),us=[.ref a]/\b4 cs A a r/\r.ci=i/\∀l ps,A l=none->iO cs A ps r.kids->Q (.ref l) (af A l (.lst (ps.map U.ref)))
def WH(cs:Nat->Addr):bQ:=fun us A Q=>∃(a:Addr)(r:Rl),us=[.ref a]/\b4 cs A a r/\r.kids=[]/\∀l ps,A l=none->iO cs A ps r.kids->Q (.ref l) (af A l (.lst (ps.map U.ref)))
def qP(cs:Nat->Addr)(n i:Nat):bQ:=fun us A Q=>∃(a:Addr)(r:Rl),us=[.ref a]/\b4 cs A a r/\r.ci=i/\r.dep<=n/\r.size<=60/\∀B l zs,Ext A B->A l=none->B l=some (.lst (zs.map U.str))->Gi r zs->Q (.ref l) B
def WI(cs:Nat->Addr)(n:Nat):bQ:=fun us A Q=>∃(a:Addr)(r:Rl),us=[.ref a]/\b4 cs A a r/\r.ci≠2/\r.dep<=n/\r.size<=60/\∀B l zs,Ext A B->A l=none->B l=some (.lst (zs.map U.str))->Gi r zs->Q (.ref l) B
def qQ(cs:Nat->Addr)(sp:Nat->bQ):List (Addr×bQ):=(List.range 9).map fun i=>(cs i,sp i)
def O4(r:Rl):(cs r.ci,sp r.ci)∈qQ cs sp:=YS.mpr ⟨r.ci,p0.mpr r.bR,rfl⟩
def O5(h:∀i,i<9->∃f fd ps,fe K (cs i)/\Af K (cs i) m f/\cF P w K mg base aQ k f fd ps (a6 K (sp i))/\kN K fd ps []):kY P w K mg base aQ k m ((qQ cs sp).map fun p=>(p.1,a6 K p.2)):=fun C s fL=>by
 obtain⟨p,hp,e⟩:=YS.mp fL
 obtain⟨i,hi,e2⟩:=YS.mp hp
 subst e2
 cases e
 exact h i (p0.mp hi)
def WJ:(("names":Str))∉(["colour","name","one","other","part"]:List Str):=by decide +kernel
def yP:(("inside":Str))∉(["colour","name","one","other","part"]:List Str):=by decide +kernel
def ub(A:az)(f:Addr):az:=fun x=>if x=f then none else A x
def WK(h:A f=some o):af (ub A f) f o=A:=by
 funext x;unfold af ub;by_cases e:x=f
 .rw[if_pos e,e,h]
 .rw[if_neg e,if_neg e]
def WL:ub A f f=none:=if_pos rfl
def O6(h:x≠f):ub A f x=A x:=if_neg h
def WM(e:Ext B A)(h:B f=none):Ext B (ub A f):=fun x o q=>by
 rw[O6 (fun z=>by rw[z,h]at q;cases q)]
 exact e x o q
def O7(e:Ext A B)(h:B x=none):A x=none:=by
 cases q:A x with
 | none=>rfl
 | some o=>rw[e x o q]at h;cases h
structure yQ (ks:List Str) (ds:List Str) (n:Nat):Prop where
 nd:ks.Nodup
 mem:∀z,z∈ks↔z∈ds
 len:ks.length<=n
def yQ.add(h:yQ ks ds n):yQ (fO ks z) (ds++[z]) (n+1):=⟨Oi h.nd,fun x=>by rw[Oh,h.mem,Yy,Yp],YE (NR ks z) (Nat.succ_le_succ h.len)⟩
def BX(hr:b4 cs A a r)(q:∀l ps,A l=none->iO cs A ps r.kids->Q (.ref l) (af A l (.lst (ps.map U.ref)))):∃b dx fs C bj,U.ref a=.ref b/\A b=some (.ins C dx fs)/\(C,bj)∈qQ cs (pJ cs)/\fs.lookup (Str.ofString "inside")=none/\bj [.ref a] A Q:=by
 obtain⟨dx,fs,ha,hl⟩:=hr.cls yP;exact⟨a,dx,fs,_,_,rfl,ha,O4 r,hl,a,r,rfl,hr,rfl,q⟩
def BY(hr:b4 cs A a r)(hd:r.dep<=n)(hs:r.size<=60)(q:∀B l zs,Ext A B->A l=none->B l=some (.lst (zs.map U.str))->Gi r zs->Q (.ref l) B):∃b dx fs C bj,U.ref a=.ref b/\A b=some (.ins C dx fs)/\(C,bj)∈qQ cs (qP cs n)/\fs.lookup (Str.ofString "names")=none/\bj [.ref a] A Q:=by
 obtain⟨dx,fs,ha,hl⟩:=hr.cls WJ;exact⟨a,dx,fs,_,_,rfl,ha,O4 r,hl,a,r,rfl,hr,rfl,hd,hs,q⟩
def b4.drop:∀ {a:Addr} {r:Rl},b4 cs (af A p (.cJ φ)) a r->b4 cs A a r:=by
 have key:∀ {a C dx:Addr} {fs:List (Str×U)},af A p (.cJ φ) a=some (.ins C dx fs)->A a=some (.ins C dx fs):=fun {a C dx fs} h=>by
  by_cases e:a=p
  .rw[e,Zd]at h;cases h
  .rwa [Zn e]at h
 intro a r;induction r generalizing a with
 | nothing=>exact fun⟨dx,h⟩=>⟨dx,key h⟩
 | bead c=>exact fun⟨dx,h⟩=>⟨dx,key h⟩
 | named c=>exact fun⟨dx,h⟩=>⟨dx,key h⟩
 | or x y pd pe=>exact fun⟨dx,p,q,h,h1,h2⟩=>⟨dx,p,q,key h,pd h1,pe h2⟩
 | a7 x y pd pe=>exact fun⟨dx,p,q,h,h1,h2⟩=>⟨dx,p,q,key h,pd h1,pe h2⟩
 | hold k x ih=>exact fun⟨dx,p,h,h1⟩=>⟨dx,p,key h,ih h1⟩
def G3{α β:Type}(f:α->List β)(l:List α)(k:Nat):((l.take k).map f).flatten.length<=(l.map f).flatten.length:=by
 have:(l.map f).flatten=((l.take k).map f).flatten++((l.drop k).map f).flatten:=by rw[<- List.flatten_append,<- Ys,CD]
 rw[this,Yt];exact IZ _ _
def G4{α β:Type}{f:α->List β}{l:List α}{x:α}(h:l[k]? = some x):((l.take (k+1)).map f).flatten=((l.take k).map f).flatten++f x:=by
 obtain⟨hl,e⟩:=Yh.mp h;rw[List.take_succ_eq_append_getElem hl,Ys,List.flatten_append,e];simp
section
include T
def ky:∀c∈[pA,nN,nO,mE,mF,lq,lr,lu,mG],fe K c:=by
 simp only[Yo,YG,eZ,forall_eq_or_imp,forall_eq];exact⟨T.dy,T.gp,T.bZ,T.i9,T.eJ,T.iz,T.iB,T.cv,T.eN⟩
def WN:T.kg.Ok aQ 1 (a6 K (WH cS)):=by
 apply T.kg.bF;walk_at "f";exact fun S hr=>⟨_,(Zh (Zu (ZW Zg))),(Zv (ZV Ze))⟩;rintro us A Q ⟨a,r,rfl,hr,hk,q⟩;walk_at "o";refine⟨by decide,fun l hl=>fg (q l [] hl ?_)⟩;rw[hk];trivial
def WO:T.tj.Ok aQ 1 (a6 K (pJ cS 3)):=by
 apply T.tj.bF;walk_at "f";exact fun S hr=>⟨_,(Zh (Zu (ZW (Za (dX (pv 0) rfl) (Za (dX (pv 0) rfl) Zg))))),(Zv (ZV (Zc (d0 Zb) (Zc (d0 Zb) Ze))))⟩;rintro us A Q ⟨a,r,rfl,hr,hc,q⟩;obtain⟨x,y,rfl⟩:=Rl.L_ hc;obtain⟨dx,p1,p2,ha,h1,h2⟩:=hr;walk_at "o";exact⟨a,_,dx,_,_,rfl,ha,T.i9,T.iy,BV,a,_,dx,_,_,rfl,ha,T.i9,T.eI,BW (by decide +kernel),ck,fun l hl=>fg (q l [p1,p2] hl ⟨h1,h2,trivial⟩)⟩
def WQ:T.tq.Ok aQ 1 (a6 K (pJ cS 4)):=by
 apply T.tq.bF;walk_at "f";exact fun S hr=>⟨_,(Zh (Zu (ZW (Za (dX (pv 0) rfl) (Za (dX (pv 0) rfl) Zg))))),(Zv (ZV (Zc (d0 Zb) (Zc (d0 Zb) Ze))))⟩;rintro us A Q ⟨a,r,rfl,hr,hc,q⟩;obtain⟨x,y,rfl⟩:=Rl.L' hc;obtain⟨dx,p1,p2,ha,h1,h2⟩:=hr;walk_at "o";exact⟨a,_,dx,_,_,rfl,ha,T.eJ,T.dc,BV,a,_,dx,_,_,rfl,ha,T.eJ,T.bY,BW (by decide +kernel),ck,fun l hl=>fg (q l [p1,p2] hl ⟨h1,h2,trivial⟩)⟩
def WR:T.tw.Ok aQ 1 (a6 K (pJ cS 5)):=by
 apply T.tw.bF;walk_at "f";exact fun S hr=>⟨_,(Zh (Zu (ZW (Za (dX (pv 0) rfl) Zg)))),(Zv (ZV (Zc (d0 Zb) Ze)))⟩;rintro us A Q ⟨a,r,rfl,hr,hc,q⟩;obtain⟨k,x,rfl,hk⟩:=Rl.Bl (j:=0) (by decide) hc;obtain⟨dx,p1,ha,h1⟩:=hr;rw[hk]at ha;walk_at "o";exact⟨a,_,dx,_,_,rfl,ha,T.iz,T.cP,nQ,qz,fun l hl=>fg (q l [p1] hl ⟨h1,trivial⟩)⟩
def WS:T.tE.Ok aQ 1 (a6 K (pJ cS 6)):=by
 apply T.tE.bF;walk_at "f";exact fun S hr=>⟨_,(Zh (Zu (ZW (Za (dX (pv 0) rfl) Zg)))),(Zv (ZV (Zc (d0 Zb) Ze)))⟩;rintro us A Q ⟨a,r,rfl,hr,hc,q⟩;obtain⟨k,x,rfl,hk⟩:=Rl.Bl (j:=1) (by decide) hc;obtain⟨dx,p1,ha,h1⟩:=hr;rw[hk]at ha;walk_at "o";exact⟨a,_,dx,_,_,rfl,ha,T.iB,T.cQ,nQ,qz,fun l hl=>fg (q l [p1] hl ⟨h1,trivial⟩)⟩
def WT:T.tG.Ok aQ 1 (a6 K (pJ cS 7)):=by
 apply T.tG.bF;walk_at "f";exact fun S hr=>⟨_,(Zh (Zu (ZW (Za (dX (pv 0) rfl) Zg)))),(Zv (ZV (Zc (d0 Zb) Ze)))⟩;rintro us A Q ⟨a,r,rfl,hr,hc,q⟩;obtain⟨k,x,rfl,hk⟩:=Rl.Bl (j:=2) (by decide) hc;obtain⟨dx,p1,ha,h1⟩:=hr;rw[hk]at ha;walk_at "o";exact⟨a,_,dx,_,_,rfl,ha,T.cv,T.bM,nQ,qz,fun l hl=>fg (q l [p1] hl ⟨h1,trivial⟩)⟩
def WU:T.tJ.Ok aQ 1 (a6 K (pJ cS 8)):=by
 apply T.tJ.bF;walk_at "f";exact fun S hr=>⟨_,(Zh (Zu (ZW (Za (dX (pv 0) rfl) Zg)))),(Zv (ZV (Zc (d0 Zb) Ze)))⟩;rintro us A Q ⟨a,r,rfl,hr,hc,q⟩;obtain⟨k,x,rfl,hk⟩:=Rl.Bl (j:=3) (by decide) hc;obtain⟨dx,p1,ha,h1⟩:=hr;rw[hk]at ha;walk_at "o";exact⟨a,_,dx,_,_,rfl,ha,T.eN,T.cw,nQ,qz,fun l hl=>fg (q l [p1] hl ⟨h1,trivial⟩)⟩
def BZ:kY P w K mg base aQ 1 "inside" ((qQ cS (pJ cS)).map fun p=>(p.1,a6 K p.2)):=by
 have g0:∀i,i<3->T.kg.Ok aQ 1 (a6 K (pJ cS i)):=fun i hi=>(WN T).imp (Mb fun us A Q ⟨a,r,e,hr,hc,q⟩=>⟨a,r,e,hr,by cases r<;>simp only[Rl.ci]at hc<;>first|rfl|lia,q⟩);refine O5 fun i hi=>?_;rcases i with _|i
 .exact⟨_,_,_,T.dy,T.dz,g0 0 (by decide),T.kg.b⟩
 rcases i with _|i
 .exact⟨_,_,_,T.gp,T.fz,g0 1 (by decide),T.kg.b⟩
 rcases i with _|i
 .exact⟨_,_,_,T.bZ,T.eO,g0 2 (by decide),T.kg.b⟩
 rcases i with _|i
 .exact⟨_,_,_,T.i9,T.GA,WO T,T.tj.b⟩
 rcases i with _|i
 .exact⟨_,_,_,T.eJ,T.GC,WQ T,T.tq.b⟩
 rcases i with _|i
 .exact⟨_,_,_,T.iz,T.GD,WR T,T.tw.b⟩
 rcases i with _|i
 .exact⟨_,_,_,T.iB,T.GF,WS T,T.tE.b⟩
 rcases i with _|i
 .exact⟨_,_,_,T.cv,T.GG,WT T,T.tG.b⟩
 rcases i with _|i
 .exact⟨_,_,_,T.eN,T.GH,WU T,T.tJ.b⟩
 lia
def O8:T.pE.Ok aQ 1 (a6 K (qP cS n 2)):=by
 apply T.pE.bF;walk_at "f";exact fun S hr=>⟨_,(Zh (Zu (ZW (Za (dX (pv 0) rfl) Zg)))),(Zv (ZV (Zc (d0 Zb) Ze)))⟩;rintro us A Q ⟨a,r,rfl,hr,hc,hd,hs,q⟩;obtain⟨c,rfl⟩:=Rl.E7 hc;obtain⟨dx,ha⟩:=hr;walk_at "o";refine⟨a,_,dx,_,_,rfl,ha,T.bZ,T.bC,nQ,qz,fun l hl=>fg (q _ l [c] (Ext.new hl) hl Zd ⟨rfl,by simp,fun z=>by simp[Rl.bb],by simp[Rl.bb]⟩)⟩
def WV(bU:kY P w K mg base aQ (n+2) "names" ((qQ cS (qP cS n)).map fun p=>(p.1,a6 K p.2))):T.dw.Ok aQ (n+3) (a6 K (WI cS (n+1))):=by
 have bc:=BZ T;apply T.dw.bF;walk_at "f";exact fun S hr=>⟨_,(Zf (ZB (i:=1) S.nd rfl (Or.inl rfl) (JW N5 (by rfl) T.jK (by decide +kernel)))
   (Zf (ee YF rfl (dZ (qB (pv 0) bc.mn hr g8)) (Zx (i:=2) S.nd rfl (Or.inl rfl))
   (Zh (ee YF rfl (dZ (qB (pv 2) bU.mn hr g8)) (Zx (i:=3) S.nd rfl (Or.inl rfl))
   (Zh (Z1 (N8 (pv 1) (Za (pv 3) Zg)))))))
   (Zh (Zu (b8 (Gg rfl) T.de (Za (pv 1) Zg)))))),(Zk (Zq (Z6 N' Ze) Zi)
   (Zk (eu (ZZ Z2 (qC Zb Ze)) Zi
   (eu (ZZ Z2 (qC Zb Ze)) Zi
   (Z5 (Oe Zb (Zc Zb Ze)))))
   (Zv (Z6 Gh (Zc Zb Ze)))))⟩
 rintro us A Q ⟨a,r,rfl,hr,hc,hd,hs,q⟩;walk_at "o";intro p hp;refine BX (hr.ext (Ext.new hp)) fun l ps hl jL=>?_;have bx:p≠l:=eF Zd hl;have cL:A l=none:=O7 (Ext.new hp) hl;rw[Tb bx];have B0:af A l (.lst (ps.map U.ref)) p=none:=by rw[Zn bx];exact hp
 walk_at "d";refine⟨⟨_,by rw[Zn (Ne.symm bx)];exact Zd⟩,?_⟩;refine nF (ps.map U.ref) (fun k ρ A2=>∃(B:az)(ks:List Str)(x2 x3:Option U),ρ=[some (.ref a),some (.ref p),x2,x3]/\A2=af B p (tS P w ks)/\B p=none/\Ext (af A l (.lst (ps.map U.ref))) B/\yQ ks ((r.kids.take k).map Rl.bb).flatten ((r.kids.take k).map Rl.bb).flatten.length) ⟨_,[],_,_,rfl,rfl,B0,Ext.refl _,⟨List.nodup_nil,fun z=>by simp,by simp⟩⟩ (fun k ρ A2 _ aF=>by obtain⟨B,ks,_,_,_,e,qR,eB,_⟩:=aF;rw[e,Zn (Ne.symm bx)];exact eB _ _ Zd) ?_ ?_
 .rintro k u ρ A2 hu ⟨B,ks,x2,x3,rfl,rfl,qR,eB,iE⟩;obtain⟨b,hb,rfl⟩:=Z9 hu;obtain⟨x,hx,uc⟩:=jL.get hb;have WW:b4 cS A b x:=b4.drop uc;have WX:=Yk hx;have O9:=Rl.cq WX;have hnx:=x.bJ;have WY:=r.bJ;have lQ:=G3 Rl.bb r.kids k;rw[<- Rl.il hc]at lQ;walk_at "d";refine BY (WW.ext (((Ext.new cL).trans eB).trans (Ext.new qR))) (by lia) (by lia) fun B2 l2 zs e2 cZ d8 nm=>?_;have fh:=nm.len;have G5:l2≠p:=fun e=>by rw[e,Zd]at cZ;cases cZ
  have G6:B2 p=some (tS P w ks):=e2 _ _ Zd;walk_at "d";refine⟨⟨_,d8⟩,?_⟩;refine nF (zs.map U.str) (fun j ρ A3=>∃(ks:List Str)(x3:Option U),ρ=[some (.ref a),some (.ref p),some (.ref b),x3]/\A3=af (ub B2 p) p (tS P w ks)/\yQ ks (((r.kids.take k).map Rl.bb).flatten++zs.take j) (((r.kids.take k).map Rl.bb).flatten.length+j)) ⟨ks,_,rfl,(WK G6).symm,⟨iE.nd,fun z=>by rw[List.take_zero,YW];exact iE.mem z,iE.len⟩⟩ (fun j ρ A3 _ aF=>by obtain⟨ks,_,_,e,_⟩:=aF;rw[e,Zn G5,O6 G5];exact d8) ?_ ?_
  .rintro j u ρ A3 hu ⟨ks,x3,rfl,rfl,mC⟩;obtain⟨z,hz,rfl⟩:=Z9 hu;have yR:=(Yh.mp hz).1;have jM:=mC.len;walk_at "d";refine⟨p,ks,rfl,Zd,z,ks,rfl,Zd,by show ks.length+1<4096;lia,fO ks z,_,rfl,ZP,?_⟩;have:=mC.add (z:=z);rw[wq,show zs.take j++[z]=zs.take (j+1)from by rw[List.take_succ_eq_append_getElem yR];rw[(Yh.mp hz).2]]at this;exact this
  .rintro ρ A3 ⟨ks,x3,rfl,rfl,mC⟩;rw[Yc,Y4]at mC;walk_at "d";refine⟨ub B2 p,ks,_,_,rfl,rfl,WL,WM (eB.trans ((Ext.new qR).trans e2)) B0,?_⟩;rw[G4 hx];exact⟨mC.nd,fun z=>by rw[mC.mem,Yy,Yy,nm.mem],by have:=mC.len;rw[Yt];lia⟩
 .rintro ρ A2 ⟨B,ks,x2,x3,rfl,rfl,qR,eB,iE⟩;have jM:ps.length=r.kids.length:=jL.len;rw[Yc,jM,Y4,<- Rl.il hc]at iE;have WY:=r.bJ;have hlen:=iE.len;walk_at "d";refine⟨ks,Zd,by lia,fun D zs hD jc vT=>fg (q _ D zs (((Ext.new cL).trans eB).trans ((Ext.new qR).trans (Ext.new hD))) (O7 (((Ext.new cL).trans eB).trans (Ext.new qR)) hD) Zd ⟨vT,jc.nodup_iff.mpr iE.nd,fun z=>by rw[jc.mem_iff];exact iE.mem z,by rw[jc.length_eq];exact hlen⟩)⟩
def O_(n:Nat):kY P w K mg base aQ (n+2) "names" ((qQ cS (qP cS n)).map fun p=>(p.1,a6 K p.2)):=by
 have hz:∀i us A Q,¬qP cS 0 i us A Q:=fun i us A Q aF=>by obtain⟨_,r,_,_,_,h,_⟩:=aF;have:=r.bB;lia
 have go:∀ {k m:Nat} (g0:∀i,i≠2->T.dw.Ok aQ (k) (a6 K (qP cS m i))) (g2:T.pE.Ok aQ (k) (a6 K (qP cS m 2))),kY P w K mg base aQ k "names" ((qQ cS (qP cS m)).map fun p=>(p.1,a6 K p.2)):=fun g0 g2=>by
  refine O5 fun i hi=>?_;rcases i with _|i
  .exact⟨_,_,_,T.dy,T.dP,g0 0 (by decide),T.dw.b⟩
  rcases i with _|i
  .exact⟨_,_,_,T.gp,T.gq,g0 1 (by decide),T.dw.b⟩
  rcases i with _|i
  .exact⟨_,_,_,T.bZ,T.GI,g2,T.pE.b⟩
  rcases i with _|i
  .exact⟨_,_,_,T.i9,T.i_,g0 3 (by decide),T.dw.b⟩
  rcases i with _|i
  .exact⟨_,_,_,T.eJ,T.ja,g0 4 (by decide),T.dw.b⟩
  rcases i with _|i
  .exact⟨_,_,_,T.iz,T.iA,g0 5 (by decide),T.dw.b⟩
  rcases i with _|i
  .exact⟨_,_,_,T.iB,T.iC,g0 6 (by decide),T.dw.b⟩
  rcases i with _|i
  .exact⟨_,_,_,T.cv,T.eM,g0 7 (by decide),T.dw.b⟩
  rcases i with _|i
  .exact⟨_,_,_,T.eN,T.gr,g0 8 (by decide),T.dw.b⟩
  lia
 induction n with
 | zero=>exact go (fun i _=>oZ T.dw.f T.dw.s (hz i)) ((O8 T).mono (by lia))
 | succ n ih=>exact go (fun i hi=>((WV T ih).imp (Mb fun us A Q ⟨a,r,e,hr,hc,h⟩=>⟨a,r,e,hr,by rw[hc];exact hi,h⟩)).mono (by lia)) ((O8 T).mono (by lia))
end
def Pa(P:Program)(w:World)(cs:Nat->Addr)(n:Nat):bQ:=fun us A Q=>∃(a d:Addr)(r:Rl)(ep:Nat)(ns:List Str)(e:Str->On),us=[.ref a,.ref d]/\b4 cs A a r/\r.dep<=n/\(∀z∈r.bb,z∈ns)/\A d=some (dS P w ep (ip ns e))/\∀B,Ext A B->Q (oU (r.lst e)) B
def WZ:∀us A Q,¬Pa P w cs 0 us A Q:=fun us A Q aF=>by obtain⟨_,_,r,_,_,_,_,_,h,_⟩:=aF;have:=r.bB;lia
section
include T
def G7(n:Nat):T.iw.Ok aQ (n+3) (a6 K (Pa P w cS n)):=by
 have bc:=BZ T;induction n with
 | zero=>exact oZ T.iw.f T.iw.s WZ
 | succ n jd =>
  apply T.iw.bF;walk_at "f";exact fun S hr=>⟨_,(Zf (ZT (iS (b8 xU T.aE (Za (pv 0) (Za (gS (v:=.ref _) (by rfl) T.gu rfl) Zg)))) (Zh (Zu (ZH sM (pv 1) (dX (pv 0) rfl) (fun _ _=>rfl)))) Zz)
   (Zf (ZT (iS (b8 xU T.aE (Za (pv 0) (Za (gS (v:=.ref _) (by rfl) T.mL rfl) Zg)))) (Zh (Zu Zl)) Zz)
   (Zf (ZT (iS (b8 LX T.aE (Za (pv 0) (Za (ZJ (Za (gS (v:=.ref _) (by rfl) T.fP rfl) (Za (gS (v:=.ref _) (by rfl) T.mM rfl) (Za (gS (v:=.ref _) (by rfl) T.mN rfl) (Za (gS (v:=.ref _) (by rfl) T.eL rfl) Zg))))) Zg)))) (Zh (Zu Zl)) Zz)
   (Zf (Ee (i:=2) S.nd rfl (Or.inl rfl) (by with_unfolding_all rfl) (ts:=["part"]) (frs':=[("leasts",1)]) (cl:=_) rfl ⟨(by rfl),rfl,(by decide +kernel),(by decide +kernel),(ZD (by rfl) ZN),(j4 (by rfl) (by rfl)),(ZD ⟨(by rfl),(by first|exact .inl rfl|exact .inr rfl),(by first|exact .inl rfl|exact .inr rfl),(by rfl)⟩ ZN)⟩ (dZ (qB (pv 0) bc.mn hr g8)) (fun _ _ _ _=>Zx (i:=0) (show List.Nodup (["part","leasts"]:List Str)from by decide +kernel) rfl (Or.inl rfl) (.inr rfl)) (fun _ _ _ _=>kQ) (fun _ _ _ _=>by exact(T.iw.pc jd hr (Za (pv 0) (Za (pv 1) Zg)))))
   (Zf (ZT (iS (b8 xU T.aE (Za (pv 0) (Za (gS (v:=.ref _) (by rfl) T.yM rfl) Zg)))) (Zh (Zu (Np K rfl rfl (by rfl) T.mQ (ni (ts:=["least"]) (frs':=[]) (cl:=[]) rfl ⟨rfl,rfl,(by decide +kernel),(by decide +kernel),(fun _ z=>nomatch z),(xj rfl rfl),(fun _ z=>nomatch z)⟩ (dZ (pv 2)) (fun _ _ _ _=>Zx (i:=0) D2 rfl (Or.inl rfl) (.inr rfl)) (fun _ _ _ _=>(uY (Zo Dm (pv 0) n_ (ZF _)))) (fun _ _ _ _=>by exact(pv 0)))))) Zz)
   (Zf (ZT (Zo (VW hr) n_ (pv 2) (by with_unfolding_all rfl)) (Zh (Zu n_)) Zz)
   (Zh (Zu (b8 (R0 rfl) T.yO (Za (pv 2) Zg)))))))))),(Zk (Z0 (iN (Z6 xV (Zc Zb (Zc hX Ze)))) (Zv (Zj qD Zb (d0 Zb))) ZA)
   (Zk (Z0 (iN (Z6 xV (Zc Zb (Zc hX Ze)))) (Zv Zm) ZA)
   (Zk (Z0 (iN (Z6 LZ (Zc Zb (Zc (ZI (Zc hX (Zc hX (Zc hX (Zc hX Ze))))) Ze)))) (Zv Zm) ZA)
   (Zk (Zq (j_ (ZZ Z2 (qC Zb Ze)) Zi kT (Zt (Zc Zb (Zc Zb Ze)))) Zi)
   (Zk (Z0 (iN (Z6 xV (Zc Zb (Zc hX Ze)))) (Zv (Nr (j_ (ZZ Z2 Zb) Zi (Zp (Zj EL Zb oQ)) Zb))) ZA)
   (Zk (Z0 (Zp (Zj VX oQ Zb)) (Zv oQ) ZA)
   (Zv (Z6 S3 (Zc Zb Ze)))))))))⟩
  rintro us A Q ⟨a,d,r,ep,ns,e,rfl,hr,hd,hn,hA,q⟩;walk_at "o";obtain⟨dx,fs,ha,hx⟩:=hr.cls yP;by_cases h2:r.ci=2
  .refine mm (fun B hB=>?_) ?_
   .walk_at "d";exact⟨a,_,dx,fs,_,_,rfl,ha,T.IT.yes (ky T) (j:=2) r.bR (by decide) h2,hB⟩
   obtain⟨z,rfl⟩:=Rl.E7 h2;obtain⟨dx,ha⟩:=hr;walk_at "d";exact⟨a,_,dx,_,_,rfl,ha,T.bZ,T.bC,nQ,_,_,_,_,_,rfl,rfl,hA,V8 (hn z (.head _)),fg (q A (Ext.refl A))⟩
  refine iZ (fun B hB=>?_) ?_
  .walk_at "d";exact⟨a,_,dx,fs,_,_,rfl,ha,T.IT.no (ky T) (j:=2) r.bR (by decide) h2,hB⟩
  walk_at "d";by_cases h1:r.ci=1
  .refine mm (fun B hB=>?_) ?_
   .walk_at "d";exact⟨a,_,dx,fs,_,_,rfl,ha,T.IT.yes (ky T) (j:=1) r.bR (by decide) h1,hB⟩
   obtain⟨z,rfl⟩:=Rl.Tv h1;walk_at "d";exact fg (q A (Ext.refl A))
  refine iZ (fun B hB=>?_) ?_
  .walk_at "d";exact⟨a,_,dx,fs,_,_,rfl,ha,T.IT.no (ky T) (j:=1) r.bR (by decide) h1,hB⟩
  walk_at "d";have h4:=T.IT.OA (ky T) (i:=r.ci) r.bR [0,5,6,7] (by decide);refine vt ([0,5,6,7].any (r.ci==·)) (fun B hB=>?_) ?_
  .walk_at "d";exact⟨d6,a,_,dx,fs,[pA,lq,lr,lu],_,rfl,ha,h4,hB⟩
  by_cases h0:[0,5,6,7].any (r.ci==·)=true
  .refine ZS h0 ?_;walk_at "d";have e0:r.lst e=some 0:=by
    cases r with
    | nothing=>rfl
    | hold k x=>exact if_pos (by simp[Rl.ci]at h0;lia)
    | _=>simp[Rl.ci]at h0
   rw[e0]at q;exact fg (q A (Ext.refl A))
  refine Zw (by simpa using h0) ?_;walk_at "d";refine BX hr fun l0 ps cL jL=>?_;have hd0:d≠l0:=eF hA cL;walk_at "d";refine⟨⟨_,Zd⟩,fun l hl=>?_⟩;walk_at "c";have jM:ps.length=r.kids.length:=jL.len;refine yB (ps.map U.ref) (fun _=>true) (fun k=>oU ((r.kids[k]?.getD .nothing).lst e)) (fun τ=>∃x,τ=[x,some (.ref d)]) ⟨_,rfl⟩ hl (by rw[Yc,jM];exact YE r.iq (by decide)) (fun k A2 _ e2=>⟨_,e2 _ _ Zd,rfl⟩) ?_ ?_
  .rintro k u τ A2 hu ⟨x,rfl⟩ e2 Cy Cn hy _;obtain⟨b,hb,rfl⟩:=Z9 hu;obtain⟨y,pK,uc⟩:=jL.get hb;have hm:=Yk pK;have Pb:=Rl.cq hm;walk_at "d";refine⟨b,d,y,ep,ns,e,rfl,uc.ext ((Ext.new cL).trans e2),by lia,fun z hz=>hn z (Rl.gj hm hz),e2 _ _ ((Ext.new cL) _ _ hA),fun B eB=>?_⟩;have:=hy rfl [some (.ref b),some (.ref d)] B ⟨_,rfl⟩ eB;rw[pK]at this;exact this
  intro B eB fR;have hW:((List.range (ps.map U.ref).length).filter fun _=>true).map (fun k=>oU ((r.kids[k]?.getD .nothing).lst e))=r.kids.map fun y=>oU (y.lst e):=by
   rw[zL.mpr fun _ _=>rfl,Yc,jM];exact Gu (fun y=>oU (Rl.lst e y)) r.kids .nothing
  rw[hW];have jN:Ext A (af B l (.lst (r.kids.map fun y=>oU (y.lst e)))):=((Ext.new cL).trans eB).trans (Ext.new fR);have hL:af B l (.lst (r.kids.map fun y=>oU (y.lst e))) l=some (.lst (r.kids.map fun y=>oU (y.lst e))):=Zd;generalize af B l (.lst (r.kids.map fun y=>oU (y.lst e)))=B1 at jN hL ⊢;clear hW fR eB;by_cases h3:r.ci=3
  .refine mm (fun B hB=>?_) ?_
   .walk_at "d";exact⟨a,_,dx,fs,_,_,rfl,jN _ _ ha,T.IT.yes (ky T) (j:=3) r.bR (by decide) h3,hB⟩
   obtain⟨x,y,rfl⟩:=Rl.L_ h3;walk_at "d";refine⟨⟨_,hL⟩,fun l2 cZ=>?_⟩;walk_at "c";exact OE cZ (fun k A2 _ e2=>⟨_,e2 _ _ hL,rfl⟩) fun B eB=>fg (q B (jN.trans eB))
  refine iZ (fun B hB=>?_) ?_
  .walk_at "d";exact⟨a,_,dx,fs,_,_,rfl,jN _ _ ha,T.IT.no (ky T) (j:=3) r.bR (by decide) h3,hB⟩
  walk_at "d";have eS:r.lst e=qN (r.kids.map fun y=>y.lst e):=by
   cases r with
   | a7 x y=>simp only[Rl.lst,Rl.kids,Yr,YaY,qN,List.foldr_cons,List.foldr_nil];cases y.lst e<;>rfl
   | hold k x =>
    have hk:¬k<3:=fun hk=>h0 (by simp[Rl.ci];lia);simp only[Rl.lst,hk,fj,Rl.kids,Yr,YaY,qN,List.foldr_cons,List.foldr_nil];cases x.lst e<;>rfl
   | named z=>exact absurd rfl h2
   | bead z=>exact absurd rfl h1
   | nothing=>exact absurd rfl h0
   | or x y=>exact absurd rfl h3
  rw[show(r.kids.map fun y=>oU (y.lst e))=(r.kids.map fun y=>y.lst e).map oU from by rw[jS];rfl]at hL;rw[eS]at q;generalize(r.kids.map fun y=>y.lst e)=vs at hL q;refine vt (vs.any (·.isNone)) (fun B hB=>?_) ?_
  .walk_at "d";exact V' hL ⟨_,rfl,hB⟩
  cases hv:vs.any (·.isNone)with
  | true =>
   rw[OF hv]at q;refine ZS rfl ?_;walk_at "d";exact fg (q B1 jN)
  | false =>
   obtain⟨ms,e1,e2⟩:=OG hv;rw[e2]at q;rw[e1]at hL;refine Zw rfl ?_;walk_at "d";exact⟨ms,hL,fg (q B1 jN)⟩
end
def Pc(P:Program)(w:World)(cs:Nat->Addr)(n:Nat):bQ:=fun us A Q=>∃(a d:Addr)(r:Rl)(ep:Nat)(ns:List Str)(e:Str->On),us=[.ref a,.ref d]/\b4 cs A a r/\r.dep<=n/\(∀z∈r.bb,z∈ns)/\A d=some (dS P w ep (ip ns e))/\∀B,Ext A B->Q (.bl (r.hp e)) B
def B0:∀us A Q,¬Pc P w cs 0 us A Q:=fun us A Q aF=>by obtain⟨_,_,r,_,_,_,_,_,h,_⟩:=aF;have:=r.bB;lia
section
include T
def W0(k:Nat):fW K (cS (5+min k 3)) "part":=by
 rcases k with _|_|_|k
 .exact T.cP
 .exact T.cQ
 .exact T.bM
 .rw[Nat.min_eq_right (by lia)];exact T.cw
def W2(n:Nat):T.kh.Ok aQ (n+4) (a6 K (Pc P w cS n)):=by
 have bc:=BZ T
 induction n with
 | zero=>exact oZ T.kh.f T.kh.s B0
 | succ n ud =>
  have jd:=G7 T (n+1)
  apply T.kh.bF
  walk_at "f"
  exact fun S hr=>⟨_,(Zf (ZT ((oh (iS (b8 LX T.aE (Za (pv 0) (Za (ZJ (Za (gS (v:=.ref _) (by rfl) T.mM rfl) (Za (gS (v:=.ref _) (by rfl) T.mN rfl) (Za (gS (v:=.ref _) (by rfl) T.eL rfl) (Za (gS (v:=.ref _) (by rfl) T.mO rfl) Zg))))) Zg)))) (qf (Zo yE (T.iw.pc jd hr (Za (dX (pv 0) rfl) (Za (pv 1) Zg))) Zl (ZF _))))).pt (Zh (Zu qe)) Zz)
   (Zh (Zu (b8 (Ov rfl) T.qO (Za (ni (ts:=["part"]) (frs':=[("leasts",1)]) (cl:=_) rfl ⟨(by rfl),rfl,(by decide +kernel),(by decide +kernel),(ZD (by rfl) ZN),(j4 (by rfl) (by rfl)),(ZD ⟨(by rfl),(by first|exact .inl rfl|exact .inr rfl),(by first|exact .inl rfl|exact .inr rfl),(by rfl)⟩ ZN)⟩ (dZ (qB (pv 0) bc.mn hr g8)) (fun _ _ _ _=>Zx (i:=0) (show List.Nodup (["part","leasts"]:List Str)from by decide +kernel) rfl (Or.inl rfl) (.inr rfl)) (fun _ _ _ _=>kQ) (fun _ _ _ _=>by exact(T.kh.pc ud hr (Za (pv 0) (Za (pv 1) Zg))))) Zg))))),(Zk (Z0 (oR (iN (Z6 LZ (Zc Zb (Zc (ZI (Zc hX (Zc hX (Zc hX (Zc hX Ze))))) Ze)))) (Zp (Zj yF (Zt (Zc (d0 Zb) (Zc Zb Ze))) Zm))) (Zv qq) ZA)
   (Zv (Z6 Ox (Zc (j_ (ZZ Z2 (qC Zb Ze)) Zi kT (Zt (Zc Zb (Zc Zb Ze)))) Ze))))⟩
  rintro us A Q ⟨a,d,r,ep,ns,e,rfl,hr,hd,hn,hA,q⟩
  walk_at "o"
  obtain⟨dx,fs,ha,hx⟩:=hr.cls yP
  have h4:=T.IT.OA (ky T) (i:=r.ci) r.bR [5,6,7,8] (by decide)
  refine mD (r.ir e) (fun B hB=>?_) fun B eB=>?_
  .walk_at "d"
   refine⟨d6,a,_,dx,fs,[lq,lr,lu,mG],_,rfl,ha,h4,?_⟩
   cases r with
   | hold k x =>
    obtain⟨dx,p,ha,hp⟩:=hr
    refine ZS (by simp[Rl.ci];lia) ⟨a,_,dx,_,_,rfl,ha,ky T _ (sJ (by show 5+min k 3<9;lia)),W0 T k,nQ,p,d,x,ep,ns,e,rfl,hp,by simp only[Rl.dep]at hd;lia,hn,hA,fun B1 e1=>sW ⟨_,rfl,hB B1 e1⟩⟩
   | _=>exact Zw rfl (hB A (Ext.refl A))
  rw[r.pw]at q
  cases hk:r.ir e with
  | true =>
   refine ZS rfl ?_
   walk_at "d"
   rw[hk,Bool.true_or]at q
   exact fg (q B eB)
  | false =>
  refine Zw rfl ?_
  rw[hk,Bool.false_or]at q
  walk_at "d"
  refine BX (hr.ext eB) fun l0 ps cL jL=>?_
  walk_at "d"
  refine⟨⟨_,Zd⟩,fun l hl=>?_⟩
  walk_at "c"
  have jM:ps.length=r.kids.length:=jL.len
  refine yB (ps.map U.ref) (fun _=>true) (fun k=>.bl ((r.kids[k]?.getD .nothing).hp e)) (fun τ=>∃x,τ=[x,some (.ref d)]) ⟨_,rfl⟩ hl (by rw[Yc,jM];exact YE r.iq (by decide)) (fun k A2 _ e2=>⟨_,e2 _ _ Zd,rfl⟩) ?_ ?_
  .rintro k u τ A2 hu ⟨x,rfl⟩ e2 Cy Cn hy _
   obtain⟨b,hb,rfl⟩:=Z9 hu
   obtain⟨y,pK,uc⟩:=jL.get hb
   have hm:=Yk pK
   have Pb:=Rl.cq hm
   walk_at "d"
   refine⟨b,d,y,ep,ns,e,rfl,uc.ext ((Ext.new cL).trans e2),by lia,fun z hz=>hn z (Rl.gj hm hz),e2 _ _ ((Ext.new cL) _ _ (eB _ _ hA)),fun B eB=>?_⟩
   have:=hy rfl [some (.ref b),some (.ref d)] B ⟨_,rfl⟩ eB
   rw[pK]at this
   exact this
  intro B1 jN fR
  have hW:((List.range (ps.map U.ref).length).filter fun _=>true).map (fun k=>U.bl ((r.kids[k]?.getD .nothing).hp e))=(r.kids.map fun y=>y.hp e).map U.bl:=by
   rw[zL.mpr fun _ _=>rfl,Yc,jM,jS]
   exact Gu (fun y=>U.bl (Rl.hp e y)) r.kids .nothing
  rw[hW]
  walk_at "d"
  exact⟨_,Zd,fg (q _ (((eB.trans (Ext.new cL)).trans jN).trans (Ext.new fR)))⟩
end
def kz(e:Str->On):Rl->List Rl
 | .a7 x y=>(if y.lst e=some 0 then[x]else[])++(if x.lst e=some 0 then[y]else[])
 | r=>r.kids
def W3(h:x∈kz e r):x∈r.kids:=by
 cases r with
 | a7 a b =>
  rcases Yy.mp h with h|h
  .split at h
   .rw[Yp.mp h];exact .head _
   .cases h
  .split at h
   .rw[Yp.mp h];exact .tail _ (.head _)
   .cases h
 | _=>exact h
def Pd(h:r.ci≠2):r.lean e=((kz e r).map fun x=>x.lean e).flatten:=by
 cases r with
 | a7 x y =>
  simp only[Rl.lean,kz];split<;>split<;>simp
 | named z=>exact absurd rfl h
 | _=>simp[Rl.lean,kz,Rl.kids]
def W4(g1:b4 cs B p1 x)(g2:b4 cs B p2 y):iO cs B ((if y.lst e=some 0 then[p1]else[])++(if x.lst e=some 0 then[p2]else[])) (kz e (.a7 x y)):=by
 simp only[kz];by_cases k1:y.lst e=some 0<;>by_cases k2:x.lst e=some 0<;>simp only[k1,k2,if_true,fj,List.nil_append,YW,List.cons_append]
 .exact⟨g1,g2,trivial⟩
 .exact⟨g1,trivial⟩
 .exact⟨g2,trivial⟩
 .trivial
def b4.kp(key:∀ {a C dx:Addr} {fs:List (Str×U)},A a=some (.ins C dx fs)->B a=some (.ins C dx fs)):∀ {a:Addr} {r:Rl},b4 cs A a r->b4 cs B a r:=by
 intro a r;induction r generalizing a with
 | nothing=>exact fun⟨dx,h⟩=>⟨dx,key h⟩
 | bead c=>exact fun⟨dx,h⟩=>⟨dx,key h⟩
 | named c=>exact fun⟨dx,h⟩=>⟨dx,key h⟩
 | or x y pd pe=>exact fun⟨dx,p,q,h,h1,h2⟩=>⟨dx,p,q,key h,pd h1,pe h2⟩
 | a7 x y pd pe=>exact fun⟨dx,p,q,h,h1,h2⟩=>⟨dx,p,q,key h,pd h1,pe h2⟩
 | hold k x ih=>exact fun⟨dx,p,h,h1⟩=>⟨dx,p,key h,ih h1⟩
def W5(P:Program)(w:World)(cs:Nat->Addr)(n:Nat):bQ:=fun us A Q=>∃(a d:Addr)(r:Rl)(ep:Nat)(ns:List Str)(e:Str->On),us=[.ref a,.ref d]/\b4 cs A a r/\r.dep<=n/\(∀z∈r.bb,z∈ns)/\A d=some (dS P w ep (ip ns e))/\∀B l ps,Ext A B->A l=none->B l=some (.lst (List.map U.ref ps))->iO cs B ps (kz e r)->Q (.ref l) B
def Pe(P:Program)(w:World)(cs:Nat->Addr)(n:Nat):bQ:=fun us A Q=>∃(a d:Addr)(r:Rl)(ep:Nat)(ns:List Str)(e:Str->On),us=[.ref a,.ref d]/\b4 cs A a r/\r.dep<=n/\r.size<=60/\(∀z∈r.bb,z∈ns)/\A d=some (dS P w ep (ip ns e))/\∀B l,Ext A B->A l=none->B l=some (.lst ((r.lean e).map U.str))->Q (.ref l) B
def W6:∀us A Q,¬Pe P w cs 0 us A Q:=fun us A Q aF=>by obtain⟨_,_,r,_,_,_,_,_,h,_⟩:=aF;have:=r.bB;lia
section
include T
def W7(n:Nat):T.tO.Ok aQ (n+4) (a6 K (W5 P w cS n)):=by
 have bc:=BZ T;have jd:=G7 T n;apply T.tO.bF;walk_at "f";exact fun S hr=>⟨_,(Zf (ZT (C9 (iS (b8 xU T.aE (Za (pv 0) (Za (gS (v:=.ref _) (by rfl) T.yN rfl) Zg))))) (Zh (Zu (qB (pv 0) bc.mn hr g8))) Zz)
   (Zf (ZB (i:=2) S.nd rfl (Or.inl rfl) (ZW (Za (ZJ (Za (dX (pv 0) rfl) (Za (dX (pv 0) rfl) Zg))) (Za (ZJ (Za (dX (pv 0) rfl) (Za (dX (pv 0) rfl) Zg))) Zg))))
   (Zh (Zu (ni (ts:=["part","beside"]) (frs':=[("leasts",1)]) (cl:=_) rfl ⟨(by rfl),rfl,(by decide +kernel),(by decide +kernel),(ZD (by rfl) ZN),(j4 (by rfl) (by rfl)),(ZD ⟨(by rfl),(by first|exact .inl rfl|exact .inr rfl),(by first|exact .inl rfl|exact .inr rfl),(by rfl)⟩ ZN)⟩ (dZ (pv 2)) (fun _ _ _ _=>xw K rfl 2 rfl (ZL (Zx (i:=0) (show List.Nodup (["part","beside","leasts"]:List Str)from by decide +kernel) rfl (Or.inl rfl) (.inr rfl)) (ZL (Zx (i:=1) (show List.Nodup (["part","beside","leasts"]:List Str)from by decide +kernel) rfl (Or.inl rfl) (.inr rfl)) jV)) (by rfl) (by rfl)) (fun _ _ _ _=>(uY (Zo yE (T.iw.pc jd hr (Za (pv 1) (Za (pv 2) Zg))) Zl (ZF _)))) (fun _ _ _ _=>by exact(pv 0))))))),(Zk (Z0 (Eu (iN (Z6 xV (Zc Zb (Zc hX Ze))))) (Zv (qC Zb Ze)) ZA)
   (Zk (Zq (ZV (Zc (ZI (Zc (d0 Zb) (Zc (d0 Zb) Ze))) (Zc (ZI (Zc (d0 Zb) (Zc (d0 Zb) Ze))) Ze))) Zi)
   (Zv (j_ (ZZ Z2 Zb) (j9 (ZM Zi (ZM Zi j8))) (Zp (Zj yF (Zt (Zc Zb (Zc Zb Ze))) Zm)) Zb))))⟩
 rintro us A Q ⟨a,d,r,ep,ns,e,rfl,hr,hd,hn,hA,q⟩;walk_at "o";obtain⟨dx,fs,ha,hx⟩:=hr.cls yP;by_cases h4:r.ci=4
 .refine iZ (fun B hB=>?_) ?_
  .walk_at "d";exact⟨a,_,dx,fs,_,_,rfl,ha,T.IT.yes (ky T) (j:=4) r.bR (by decide) h4,hB⟩
  obtain⟨x,y,rfl⟩:=Rl.L' h4;obtain⟨dx,p1,p2,ha,h1,h2⟩:=hr;simp only[Rl.dep]at hd;walk_at "d";refine⟨a,_,dx,_,_,rfl,ha,T.eJ,T.dc,BV,a,_,dx,_,_,rfl,ha,T.eJ,T.bY,BW (by decide +kernel),ck,a,_,dx,_,_,rfl,ha,T.eJ,T.bY,BW (by decide +kernel),a,_,dx,_,_,rfl,ha,T.eJ,T.dc,BV,ck,ck,fun l0 cL=>?_⟩;walk_at "d";refine⟨⟨_,Zd⟩,fun l hl=>?_⟩;walk_at "c";refine yB [.tup [.ref p1,.ref p2],.tup [.ref p2,.ref p1]] (fun k=>if k=0 then decide (y.lst e=some 0)else decide (x.lst e=some 0)) (fun k=>if k=0 then .ref p1 else .ref p2) (fun τ=>∃u v,τ=[u,v,some (.ref d)]) ⟨_,_,rfl⟩ hl (show 2<=100000 by decide) (fun k A2 _ e2=>⟨_,e2 _ _ Zd,rfl⟩) ?_ ?_
  .rintro k u τ A2 hu ⟨u1,u2,rfl⟩ e2 Cy Cn hy iU;have eA:Ext A A2:=(Ext.new cL).trans e2;rcases k with _|_|k
   .obtain rfl:=YD hu;walk_at "d";exact⟨rfl,p2,d,y,ep,ns,e,rfl,h2.ext eA,by lia,fun z hz=>hn z (Yz _ hz),eA _ _ hA,fun B1 e1=>sW ⟨_,rfl,kc (fun h=>hy h _ B1 ⟨_,_,rfl⟩ e1) fun h=>iU h _ B1 ⟨_,_,rfl⟩ e1⟩⟩
   .obtain rfl:=YD hu;walk_at "d";exact⟨rfl,p1,d,x,ep,ns,e,rfl,h1.ext eA,by lia,fun z hz=>hn z (Y3 _ hz),eA _ _ hA,fun B1 e1=>sW ⟨_,rfl,kc (fun h=>hy h _ B1 ⟨_,_,rfl⟩ e1) fun h=>iU h _ B1 ⟨_,_,rfl⟩ e1⟩⟩
   .cases hu
  intro B eB fR;have eQ:Ext A (af B l (.lst (((List.range 2).filter fun k=>if k=0 then decide (y.lst e=some 0)else decide (x.lst e=some 0)).map fun k=>if k=0 then U.ref p1 else .ref p2))):=((Ext.new cL).trans eB).trans (Ext.new fR);refine fg (q _ l ((if y.lst e=some 0 then[p1]else[])++(if x.lst e=some 0 then[p2]else[])) eQ (i7 (Ext.new cL) hl) ?_ ?_)
  .rw[Zd];show some (AO.lst (List.map _ (List.filter _ [0,1])))=_;by_cases g1:y.lst e=some 0<;>by_cases g2:x.lst e=some 0<;>simp[g1,g2]
  .exact W4 (h1.ext eQ) (h2.ext eQ)
 .refine mm (fun B hB=>?_) ?_
  .walk_at "d";exact⟨a,_,dx,fs,_,_,rfl,ha,T.IT.no (ky T) (j:=4) r.bR (by decide) h4,hB⟩
  walk_at "d";refine BX hr fun l0 ps cL jL=>fg (q _ l0 ps (Ext.new cL) cL Zd ?_);rw[show kz e r=r.kids from by cases r<;>first|rfl|exact absurd rfl h4];exact jL.ext (Ext.new cL)
def W8(n:Nat):T.km.Ok aQ (n+5) (a6 K (Pe P w cS n)):=by
 induction n with
 | zero=>exact oZ T.km.f T.km.s W6
 | succ n ue =>
  have G8:=W7 T (n+1);apply T.km.bF;walk_at "f";exact fun S hr=>⟨_,(Zf (ZT (iS (b8 xU T.aE (Za (pv 0) (Za (gS (v:=.ref _) (by rfl) T.gu rfl) Zg)))) (Zh (Zu (ZW (Za (dX (pv 0) rfl) Zg)))) Zz)
   (Zf (ZB (i:=2) S.nd rfl (Or.inl rfl) (ZW Zg))
   (Zf (ee YF rfl (dZ (T.tO.pc G8 hr (Za (pv 0) (Za (pv 1) Zg)))) (Zx (i:=3) S.nd rfl (Or.inl rfl))
   (Zh (Z1 (gF Yx Io Ip LA (pv 2) (Za (T.km.pc ue hr (Za (pv 3) (Za (pv 1) Zg))) Zg)))))
   (Zh (Zu (pv 2)))))),(Zk (Z0 (iN (Z6 xV (Zc Zb (Zc hX Ze)))) (Zv (ZV (Zc (d0 Zb) Ze))) ZA)
   (Zk (Zq (ZV Ze) Zi)
   (Zk (eu (ZZ Z2 (Zt (Zc Zb (Zc Zb Ze)))) Zi
   (Z5 (gI ZR LB Zb (Zc (Zt (Zc Zb (Zc Zb Ze))) Ze))))
   (Zv Zb))))⟩
  rintro us A Q ⟨a,d,r,ep,ns,e,rfl,hr,hd,hs,hn,hA,q⟩;walk_at "o";obtain⟨dx,fs,ha,hx⟩:=hr.cls yP;by_cases h2:r.ci=2
  .refine mm (fun B hB=>?_) ?_
   .walk_at "d";exact⟨a,_,dx,fs,_,_,rfl,ha,T.IT.yes (ky T) (j:=2) r.bR (by decide) h2,hB⟩
   obtain⟨z,rfl⟩:=Rl.E7 h2;obtain⟨dx,ha⟩:=hr;walk_at "d";exact⟨a,_,dx,_,_,rfl,ha,T.bZ,T.bC,nQ,qz,fun l hl=>fg (q _ l (Ext.new hl) hl Zd)⟩
  refine iZ (fun B hB=>?_) ?_
  .walk_at "d";exact⟨a,_,dx,fs,_,_,rfl,ha,T.IT.no (ky T) (j:=2) r.bR (by decide) h2,hB⟩
  walk_at "d";refine⟨by decide,fun p hp=>?_⟩;walk_at "d";refine⟨a,d,r,ep,ns,e,rfl,hr.ext (Ext.new hp),hd,hn,Ext.new hp _ _ hA,fun B l0 ps eB cL fR jL=>?_⟩;walk_at "d";refine⟨⟨_,fR⟩,?_⟩;rw[Pd h2]at q;have hlen:((kz e r).map fun x=>x.lean e).flatten.length<=60:=by rw[<- Pd h2];exact YE r.bh hs
  have bx:p≠l0:=eF Zd cL;refine nF (ps.map U.ref) (fun k ρ A2=>∃(B2:az)(x3:Option U),ρ=[some (.ref a),some (.ref d),some (.ref p),x3]/\A2=af B2 p (.lst ((((kz e r).take k).map fun x=>x.lean e).flatten.map U.str))/\B2 p=none/\Ext (lj B p) B2) ⟨lj B p,_,rfl,(Ot (eB _ _ Zd)).symm,vP,Ext.refl _⟩ (fun k ρ A2 _ aF=>by obtain⟨B2,_,_,e2,d8,vU⟩:=aF;rw[e2,Zn (Ne.symm bx)];exact vU _ _ (by rw[pq (Ne.symm bx)];exact fR)) ?_ ?_
  .rintro k u ρ A2 hu ⟨B2,x3,rfl,rfl,d8,vU⟩;obtain⟨b,hb,rfl⟩:=Z9 hu;obtain⟨x,hx,uc⟩:=jL.get hb;have hm:=W3 (Yk hx);have O9:=Rl.cq hm;have e2:∀ {o:AO} {y:Addr},y≠p->B y=some o->af B2 p (.lst ((((kz e r).take k).map fun x=>x.lean e).flatten.map U.str)) y=some o:=fun hy h=>by rw[Zn hy];exact vU _ _ (by rw[pq hy];exact h)
   have qR:=eB _ _ Zd;have W9:d≠p:=eF hA hp;have jn:=G3 (fun x:Rl=>x.lean e) (kz e r) k;walk_at "d";refine⟨⟨_,Zd⟩,b,d,x,ep,ns,e,rfl,b4.kp (fun {a C dx fs} h=>e2 (fun z=>by rw[z,qR]at h;cases h) h) uc,by lia,by lia,fun z hz=>hn z (Rl.gj hm hz),e2 W9 (eB _ _ (Ext.new hp _ _ hA)),fun B3 l3 e3 qS W_=>?_⟩;walk_at "d";have Gx:=x.bh (e:=e);refine⟨_,_,e3 _ _ Zd,W_,EY (by rw[Yc,Yc];lia),lj B3 p,_,rfl,?_,vP,?_⟩
   .rw[vQ,G4 (f:=fun x:Rl=>x.lean e) hx,Ys]
   .exact vU.trans (vR ((Ext.new d8).trans e3) d8)
  .rintro ρ A2 ⟨B2,x3,rfl,rfl,d8,vU⟩;have jM:ps.length=(kz e r).length:=jL.len;rw[Yc,jM,Y4];walk_at "d";exact fg (q _ p (((vR ((Ext.new hp).trans eB) hp).trans vU).trans (Ext.new d8)) hp Zd)
end
def bW(ps:List (Str×Addr)):List (Str×U):=ps.map fun p=>(p.1,.ref p.2)
def Pf:(bW ps).map (·.1)=ps.map (·.1):=by unfold bW;rw[jS];rfl
structure je (cs:Nat->Addr) (A:az) (ps:List (Str×Addr)) (rs:List Rl):Prop where
 os:iO cs A (ps.map (·.2)) rs
 nd:(ps.map (·.1)).Nodup
 sz:∀r∈rs,r.dep<=60/\r.size<=60/\∀z∈r.bb,z∈ps.map (·.1)
 len:ps.length<=60
def je.ext(h:je cs A ps rs)(e:Ext A B):je cs B ps rs:=⟨h.os.ext e,h.nd,h.sz,h.len⟩
def je.get(h:je cs A ps rs){k:Nat}(hp:ps[k]? = some p):∃r,rs[k]? = some r/\b4 cs A p.2 r/\r.dep<=60/\r.size<=60/\∀z∈r.bb,z∈ps.map (·.1):=by
 obtain⟨r,h1,h2⟩:=h.os.get (show(ps.map (·.2))[k]? = some p.2 by rw[Yi,hp];rfl);exact⟨r,h1,h2,h.sz r (Yk h1)⟩
def W'(P:Program)(w:World)(cs:Nat->Addr):bQ:=fun us A Q=>∃(l:Addr)(ps:List (Str×Addr))(rs:List Rl),us=[.ref l]/\A l=some (.lst (ps.map fun p=>.tup [.str p.1,.ref p.2]))/\je cs A ps rs/\∀B d ep,Ext A B->A d=none->B d=some (dS P w ep (bW ps))->Q (.ref d) B
theorem uf{α:Type}:∀ {kus:List (Str×α)},z∈kus.map (·.1)->(kus.lookup z).isSome=true
 | (a, b)::r,h=>by
  rw[List.lookup_cons]
  by_cases e:z=a
  .rw[beq_iff_eq.mpr e];rfl
  .rw[Yw.mpr e]
   exact uf ((Yo.mp h).resolve_left e)
section
include T
def Xa:T.tL.Ok aQ 64 (a6 K (W' P w cS)):=by
 have bU:=O_ T 60;apply T.tL.bF;walk_at "f";exact fun S hr=>⟨_,(Zf (ZB (i:=1) S.nd rfl (Or.inl rfl) vz)
   (Zf (ee YF rfl (dZ (pv 0)) (oj (n:=2) rfl (ZL (Zx (i:=2) S.nd rfl (Or.inl rfl)) (ZL (Zx (i:=3) S.nd rfl (Or.inl rfl)) jV)))
   (Zf (ZT (Zo Bn (pv 2) (pv 1) (by with_unfolding_all rfl)) (Zh LJ) Zz)
   (Zh (uQ (pv 3) (uP (pv 1) (pv 2) x_)))))
   (Zf (ee YF rfl (MJ (pv 1)) (Zx (i:=3) S.nd rfl (Or.inl rfl))
   (Zh (ee YF rfl (dZ (qB (pv 3) bU.mn hr g8)) (Zx (i:=2) S.nd rfl (Or.inl rfl))
   (Zh (ZT (Zo Fl (pv 2) (pv 1) (by with_unfolding_all rfl)) (Zh LJ) Zz)))))
   (Zh (Zu (pv 1)))))),(Zk (Zq vy Zi)
   (Zk (eu (ZZ Z2 Zb) (j9 (ZM Zi (ZM Zi j8)))
   (Zk (Z0 (Zp (Zj Bo Zb Zb)) LL ZA)
   (Zq Zb (yb Zb Zb))))
   (Zk (eu (ZZ ML Zb) Zi
   (eu (ZZ Z2 (qC Zb Ze)) Zi
   (Z0 (Zp (Zj Fo Zb Zb)) LL ZA)))
   (Zv Zb))))⟩
 rintro us A Q ⟨l,ps,rs,rfl,hl,hB,q⟩;walk_at "o";intro d hd;have qK:l≠d:=eF hl hd;walk_at "d";refine⟨⟨_,by rw[Zn qK];exact hl⟩,?_⟩;refine nF (ps.map fun p=>U.tup [.str p.1,.ref p.2]) (fun k ρ A2=>∃(ep:Nat)(x2 x3:Option U),ρ=[some (.ref l),some (.ref d),x2,x3]/\A2=af A d (dS P w ep (bW (ps.take k)))) ⟨0,_,_,rfl,rfl⟩ (fun k ρ A2 _ aF=>by obtain⟨ep,_,_,_,e⟩:=aF;rw[e,Zn qK];exact hl) ?_ ?_
 .rintro k u ρ A2 hu ⟨ep,x2,x3,rfl,rfl⟩;obtain⟨p,hp,rfl⟩:=Z9 hu;have hk:=(Yh.mp hp).1;have hz:p.1∉(bW (ps.take k)).map (·.1):=by
   rw[Pf,wx];intro hm;obtain⟨j,hj,e⟩:=pW.mp hm;rw[YK]at hj;rw[List.getElem_take]at e;have:=jU hB.nd (i:=j) (j:=k) (x:=p.1) (by rw[Yg (by lia),e]) (by rw[Yi,hp];rfl);lia
  walk_at "d";refine⟨rfl,iZ (fun B hB=>?_) ?_⟩
  .walk_at "d";refine⟨ep,_,Zd,?_⟩;rw[yD hz];exact hB
  walk_at "d";refine⟨d,p.1,ep,_,rfl,rfl,Zd,?_,fun aI=>⟨aI,_,_,rfl,?_⟩⟩
  .have:=hB.len;unfold bW;rw[Yc,YK,gA];lia
  .rw[ZP,nK hz];unfold bW;rw[List.take_succ_eq_append_getElem hk,Ys,(Yh.mp hp).2];rfl
 rintro ρ A2 ⟨ep,x2,x3,rfl,rfl⟩;rw[Yc,Y4];walk_at "d";refine⟨ep,_,Zd,vC (bW ps) (fun k ρ A2=>∃x2 x3,ρ=[some (.ref l),some (.ref d),x2,x3]/\Ext (af A d (dS P w ep (bW ps))) A2) ⟨_,_,rfl,Ext.refl _⟩ (fun k ρ A2 _ ⟨_,_,_,e⟩=>e _ _ Zd) ?_ ?_⟩
 .rintro k p' ρ A2 j3 ⟨x2,x3,rfl,e2⟩;unfold bW at j3;obtain⟨p,hp,rfl⟩:=Z9 j3;obtain⟨r,_,ho,h1,h2,h3⟩:=hB.get hp;walk_at "d";refine BY (ho.ext ((Ext.new hd).trans e2)) h1 h2 fun B2 l2 zs e3 cZ d8 nm=>?_;walk_at "d";refine⟨⟨_,d8⟩,?_⟩;refine nF (zs.map U.str) (fun j ρ A3=>∃x2,ρ=[some (.ref l),some (.ref d),x2,some (.ref p.2)]/\A3=B2) ⟨_,rfl,rfl⟩ (fun j ρ A3 _ aF=>by obtain⟨_,_,e⟩:=aF;rw[e];exact d8) ?_ ?_
  .rintro j u ρ A3 hu ⟨x2,rfl,rfl⟩;obtain⟨z,hz,rfl⟩:=Z9 hu;have B_:=h3 z ((nm.mem z).mp (Yk hz));walk_at "d";refine iZ (fun B hB=>?_) ?_
   .walk_at "d";refine⟨ep,_,e3 _ _ (e2 _ _ Zd),?_⟩;rw[uf (by rw[Pf];exact B_)];exact hB
   walk_at "d";exact⟨_,rfl,trivial⟩
  .rintro ρ A3 ⟨x2,rfl,rfl⟩;walk_at "d";exact⟨_,_,rfl,e2.trans e3⟩
 .rintro ρ A2 ⟨x2,x3,rfl,e2⟩;walk_at "d";exact fg (q _ d ep ((Ext.new hd).trans e2) hd (e2 _ _ Zd))
end
def fS(ps:List (Str×Addr))(rs:List Rl)(z:Str):Option Rl:=((ps.map (·.1)).zip rs).lookup z
theorem qT{α:Type}:∀ {ns:List Str} {rs:List α} {k:Nat} {z:Str} {r:α},ns.Nodup->ns[k]? = some z->rs[k]? = some r->(ns.zip rs).lookup z=some r
 | n :: ns,r0::rs,0,z,r,_,h1,h2=>by
  cases h1;cases h2
  rw[List.zip_cons_cons,List.lookup_cons_self]
 | n :: ns,r0::rs,k+1,z,r,nd,h1,h2=>by
  have e:z≠n:=fun e=>(Y7.mp nd).1 (e▸Yk h1)
  rw[List.zip_cons_cons,List.lookup_cons,Yw.mpr e]
  exact qT (Y7.mp nd).2 h1 h2
theorem vV{α:Type}:∀ {ns:List Str} {rs:List α} {z:Str} {r:α},(ns.zip rs).lookup z=some r->∃k:Nat,ns[k]? = some z/\rs[k]? = some r
 | n :: ns,r0::rs,z,r,h=>by
  rw[List.zip_cons_cons,List.lookup_cons]at h
  by_cases e:z=n
  .rw[beq_iff_eq.mpr e]at h
   exact⟨0,by rw[e];rfl,h⟩
  .rw[Yw.mpr e]at h
   obtain⟨k,h1,h2⟩:=vV h
   exact⟨k+1,h1,h2⟩
def G9(h:fS ps rs z=some r):z∈ps.map (·.1):=by
 obtain⟨k,h1,_⟩:=vV h;exact Yk h1
def je.at(h:je cs A ps rs){k:Nat}(hp:ps[k]? = some p)(hr:rs[k]? = some r):fS ps rs p.1=some r:=qT h.nd (by rw[Yi,hp];rfl) hr
def d9(ps:List (Str×Addr))(rs:List Rl):Str->On:=lV (fS ps rs) (ps.map (·.1)).length
def G_:∀ {ns:List Str} {vs:List U},vs.length=ns.length->(∀(k:Nat) y z,vs[k]? = some y->ns[k]? = some z->y=oU (e z))->ns.zip vs=ip ns e
 | [],[],_,_=>rfl
 | n :: ns,v::vs,hl,h=>by
  rw[List.zip_cons_cons,h 0 v n rfl rfl,G_ (by simpa using hl) fun k y z h1 h2=>h (k+1) y z h1 h2]
  rfl
def Xb(R:Bool->Prop)(h1:∀B:Bool->az->Prop,(∀k,R k->B k A)->c ρ A B)(h2:∀k,R k->if k=true then t D ρ A else e D ρ A):o6 c t e D ρ A:=h1 _ h2
def B'{k:Nat}{u:U}(h:((bW ps).map f)[k]? = some u):∃p,ps[k]? = some p/\u=f (p.1,.ref p.2):=by
 rw[Yi,bW,Yi]at h;cases e:ps[k]? with
 | none=>rw[e]at h;cases h
 | some p=>rw[e]at h;exact⟨p,rfl,(YD h).symm⟩
def Xc(P:Program)(w:World)(cs:Nat->Addr):bQ:=fun us A Q=>∃(d:Addr)(ps:List (Str×Addr))(rs:List Rl)(ep:Nat),us=[.ref d]/\A d=some (dS P w ep (bW ps))/\je cs A ps rs/\∀B d' aI,Ext A B->A d'=none->B d'=some (dS P w aI (ip (ps.map (·.1)) (d9 ps rs)))->Q (.ref d') B
section
include T
def Xd:T.tM.Ok aQ 64 (a6 K (Xc P w cS)):=by
 have jd:=G7 T 60;apply T.tM.bF;walk_at "f";exact fun S hr=>⟨_,(Zf (ZB (i:=1) S.nd rfl (Or.inr rfl) (Bs (ts:=["name"]) (frs':=[]) (cl:=[]) rfl ⟨rfl,rfl,(by decide +kernel),(by decide +kernel),(fun _ z=>nomatch z),(xj rfl rfl),(fun _ z=>nomatch z)⟩ (MI (pv 0)) (fun _ _ _ _=>Zx (i:=0) D2 rfl (Or.inl rfl) (.inr rfl)) (fun _ _ _ _=>kQ) (fun _ _ _ _=>by exact(pv 0)) (fun _ _ _ _=>by exact n_)))
   (Zh (wI YF (iS qe) (Zf (Ug (i:=2) S.nd rfl (Or.inl rfl) (by with_unfolding_all rfl) (ts:=["name","rule"]) (frs':=[("leasts",1)]) (cl:=_) rfl ⟨(by rfl),rfl,(by decide +kernel),(by decide +kernel),(ZD (by rfl) ZN),(j4 (by rfl) (by rfl)),(ZD ⟨(by rfl),(by first|exact .inl rfl|exact .inr rfl),(by first|exact .inl rfl|exact .inr rfl),(by rfl)⟩ ZN)⟩ (vA (pv 0)) (fun _ _ _ _=>xw K rfl 2 rfl (ZL (Zx (i:=0) (show List.Nodup (["name","rule","leasts"]:List Str)from by decide +kernel) rfl (Or.inl rfl) (.inr rfl)) (ZL (Zx (i:=1) (show List.Nodup (["name","rule","leasts"]:List Str)from by decide +kernel) rfl (Or.inl rfl) (.inr rfl)) jV)) (by rfl) (by rfl)) (fun _ _ _ _=>kQ) (fun _ _ _ _=>by exact(pv 0)) (fun _ _ _ _=>by exact(T.iw.pc jd hr (Za (pv 1) (Za (pv 2) Zg)))))
   (Zf (ZT (Zo (Uq hr) (pv 2) (pv 1) (ZF _)) (Zh (Zu (pv 1))) Zz)
   (Zh (ZB (i:=1) S.nd rfl (Or.inr rfl) (pv 2)))))))),(Zk (Zq (yg (ZZ MK Zb) Zi kT Zb oQ) Zi)
   (xD (iN qq) (Zk (Zq (yg (ZZ vB Zb) (j9 (ZM Zi (ZM Zi j8))) kT Zb (Zt (Zc Zb (Zc Zb Ze)))) Zi)
   (Zk (Z0 (Zp (Zj Us Zb Zb)) (Zv Zb) ZA)
   (Zq Zb Zi)))))⟩
 rintro us A Q ⟨d,ps,rs,ep,rfl,hA,hB,q⟩;walk_at "o";refine⟨ep,_,hA,fun d1 vW=>?_⟩;walk_at "c";have hlen:((bW ps).map fK).length=(ps.map (·.1)).length:=by unfold bW;simp
 have bx:=hB.len;refine yC ((bW ps).map fK) (ps.map (·.1)) hlen.symm hB.nd (fun _ v _=>v=.ay) (fun τ=>∃x,τ=[x]) ⟨_,rfl⟩ vW (by rw[hlen,Yc];lia) (fun k A2 _ e2=>⟨_,e2 _ _ hA,by simp[bW],rfl⟩) (fun k v A1 B _ _ h=>h) ?_ ?_
 .rintro k u z τ A2 hu hz ⟨x,rfl⟩ e2 Cy hC;obtain⟨p,hp,rfl⟩:=B' hu;rw[Yi,hp]at hz;cases hz;walk_at "d";exact hC _ _ A2 ⟨_,rfl⟩ (Ext.refl _) rfl
 intro B vs gO eB kA ff kB;rw[G_ (e:=lv (fS ps rs) 0) (by rw[ff,hlen]) fun k y z h1 _=>kB k y h1];walk_at "d";refine⟨fun m ρ A2=>∃(t:Nat)(d2:Addr)(cn:Nat)(x:Option U),m=(ps.map (·.1)).length-t/\t<=(ps.map (·.1)).length/\ρ=[some (.ref d),some (.ref d2),x]/\Ext A A2/\A d2=none/\A2 d2=some (dS P w cn (ip (ps.map (·.1)) (lv (fS ps rs) t))),⟨_,0,d1,gO,_,rfl,Y0 _,rfl,eB.trans (Ext.new kA),vW,Zd⟩,?_⟩;rintro m ρ A2 ⟨t,d2,cn,x,rfl,ht,rfl,e2,hd2,h2⟩;walk_at "d";refine⟨_,fun dh A' h=>h,?_⟩;walk_at "d";refine⟨ep,_,e2 _ _ hA,fun d3 mR=>?_⟩;walk_at "c";have hlen:((bW ps).map fI).length=(ps.map (·.1)).length:=by unfold bW;simp
 refine yC ((bW ps).map fI) (ps.map (·.1)) hlen.symm hB.nd (fun k v _=>∀r,rs[k]? = some r->v=oU (r.lst (lv (fS ps rs) t))) (fun τ=>∃x y,τ=[x,y,some (.ref d2)]) ⟨_,_,rfl⟩ mR (by rw[hlen,Yc];lia) (fun k A2 _ e3=>⟨_,e3 _ _ (e2 _ _ hA),by simp[bW],rfl⟩) (fun k v A1 B _ _ h=>h) ?_ ?_
 .rintro k u z τ A3 hu hz ⟨x1,x2,rfl⟩ e3 Cy hC;obtain⟨p,hp,rfl⟩:=B' hu;rw[Yi,hp]at hz;cases hz;obtain⟨r,hr,ho,g1,g2,g3⟩:=hB.get hp;unfold fI;walk_at "d";refine⟨rfl,p.2,d2,r,cn,_,_,rfl,ho.ext (e2.trans e3),g1,g3,e3 _ _ h2,fun B e4=>hC _ _ B ⟨_,_,rfl⟩ e4 fun r' b_=>?_⟩;rw[hr]at b_;cases b_;rfl
 intro B vs dj eB kA ff kB;rw[G_ (e:=lv (fS ps rs) (t+1)) (by rw[ff,hlen]) fun k y z h1 h2=>by
  rw[Yi]at h2;obtain⟨p,hp,rfl⟩:=YO.mp h2;obtain⟨r,hr,_⟩:=hB.get hp;rw[kB k y h1 r hr];simp only[lv,hB.at hp hr]]
 walk_at "d";have Pg:d2≠d3:=eF h2 mR;refine Xb (fun b=>b=true↔ip (ps.map (·.1)) (lv (fS ps rs) (t+1))=ip (ps.map (·.1)) (lv (fS ps rs) t)) (fun B1 jf=>?_) fun b hb=>?_
 .walk_at "d";exact⟨dj,cn,_,_,Zd,by rw[Zn Pg];exact eB _ _ h2,by rw[OC,OC],OD,OD,fun b hb=>jf b hb⟩
 rw[V9]at hb;have Ca:∀z,z∉ps.map (·.1)->∀s,lv (fS ps rs) s z=none:=fun z hz s=>by
  cases s with
  | zero=>rfl
  | succ s =>
   cases h:fS ps rs z with
   | none=>simp only[lv,h]
   | some r=>exact absurd (G9 h) hz
 cases b with
 | true =>
  refine ZS rfl ?_;walk_at "d";have he:∀z,lv (fS ps rs) (t+1) z=lv (fS ps rs) t z:=fun z=>by
   by_cases hz:z∈ps.map (·.1)
   .exact hb.mp rfl z hz
   .rw[Ca z hz,Ca z hz]
  rw[V3 (ns:=ps.map (·.1)) (fun z r h=>G9 h) ht he]at h2;exact fg (q _ d2 cn ((e2.trans eB).trans (Ext.new kA)) hd2 (by rw[Zn Pg];exact eB _ _ h2))
 | false =>
  refine Zw rfl ?_;walk_at "d";have aR:t≠(ps.map (·.1)).length:=fun e=>by
   have:=hb.mpr fun z _=>by rw[e];exact Gr (fS ps rs) (fun z r h=>G9 h) z
   cases this
  exact⟨_,by lia,t+1,d3,dj,_,rfl,by lia,rfl,(e2.trans eB).trans (Ext.new kA),i7 e2 mR,Zd⟩
end
abbrev yS(ps:List (Str×Addr))(rs:List Rl):List (Str×U):=ip (ps.map (·.1)) (d9 ps rs)
structure Xe (zs:List Str) (xs:List Str):Prop where
 so:PyProof.Rows.sortedS zs=true
 nd:zs.Nodup
 mem:∀z,z∈zs↔z∈xs
def fD(A:az)(vs:List U)(R:Nat->List Str->Prop):Prop:=∀k v,vs[k]? = some v->∃p zs,v=.ref p/\A p=some (.lst (List.map U.str zs))/\R k zs
def fD.ext(h:fD A vs R)(e:Ext A B):fD B vs R:=fun k v hv=>by
 obtain⟨p,zs,h1,h2,h3⟩:=h k v hv
 exact⟨p,zs,h1,e _ _ h2,h3⟩
def G'(e:Str->On)(rs:List Rl)(k:Nat)(zs:List Str):Prop:=∀r,rs[k]? = some r->Xe zs (r.lean e)
def Xf(P:Program)(w:World)(cs:Nat->Addr):bQ:=fun us A Q=>∃(d d2:Addr)(ps:List (Str×Addr))(rs:List Rl)(ep cn:Nat),us=[.ref d,.ref d2]/\A d=some (dS P w ep (bW ps))/\A d2=some (dS P w cn (yS ps rs))/\je cs A ps rs/\∀B d' aI vs,Ext A B->A d'=none->B d'=some (dS P w aI ((ps.map (·.1)).zip vs))->vs.length=ps.length->fD B vs (G' (d9 ps rs) rs)->Q (.ref d') B
section
include T
def Xg:T.tN.Ok aQ 66 (a6 K (Xf P w cS)):=by
 have ue:=W8 T 60;apply T.tN.bF;walk_at "f";exact fun S hr=>⟨_,(Zh (Zu (Bs (ts:=["name","rule"]) (frs':=[("leasts",1)]) (cl:=_) rfl ⟨(by rfl),rfl,(by decide +kernel),(by decide +kernel),(ZD (by rfl) ZN),(j4 (by rfl) (by rfl)),(ZD ⟨(by rfl),(by first|exact .inl rfl|exact .inr rfl),(by first|exact .inl rfl|exact .inr rfl),(by rfl)⟩ ZN)⟩ (vA (pv 0)) (fun _ _ _ _=>xw K rfl 2 rfl (ZL (Zx (i:=0) (show List.Nodup (["name","rule","leasts"]:List Str)from by decide +kernel) rfl (Or.inl rfl) (.inr rfl)) (ZL (Zx (i:=1) (show List.Nodup (["name","rule","leasts"]:List Str)from by decide +kernel) rfl (Or.inl rfl) (.inr rfl)) jV)) (by rfl) (by rfl)) (fun _ _ _ _=>kQ) (fun _ _ _ _=>by exact(pv 0)) (fun _ _ _ _=>by exact(b8 (VZ P w rfl rfl rfl) T.de (Za (yG (VY P w rfl rfl rfl) T.jK (Za (T.km.pc ue hr (Za (pv 1) (Za (pv 2) Zg))) Zg)) Zg)))))),(Zv (yg (ZZ vB Zb) (j9 (ZM Zi (ZM Zi j8))) kT Zb (Z6 Gh (Zc (Z6 Ob (Zc (Zt (Zc Zb (Zc Zb Ze))) Ze)) Ze))))⟩;rintro us A Q ⟨d,d2,ps,rs,ep,cn,rfl,hA,yT,hB,q⟩;walk_at "o";refine⟨ep,_,hA,fun d3 mR=>?_⟩;walk_at "c";have bx:=hB.len;have hlen:((bW ps).map fI).length=(ps.map (·.1)).length:=by unfold bW;simp
 refine yC ((bW ps).map fI) (ps.map (·.1)) hlen.symm hB.nd (fun k v A2=>∃p zs,v=.ref p/\A2 p=some (.lst (List.map U.str zs))/\G' (d9 ps rs) rs k zs) (fun τ=>∃x y,τ=[x,y,some (.ref d2)]) ⟨_,_,rfl⟩ mR (by rw[hlen,Yc];lia) (fun k A2 _ e3=>⟨_,e3 _ _ hA,by simp[bW],rfl⟩) ?_ ?_ ?_
 .rintro k v A1 B h1 h2 ⟨p,zs,rfl,h3,h4⟩;refine⟨p,zs,rfl,h2 _ _ (fun e=>?_) h3,h4⟩;rcases h1 with h1|⟨ep,kus,h1⟩
  .rw[e,h1]at h3;cases h3
  .rw[e,h1]at h3;cases h3
 .rintro k u z τ A3 hu hz ⟨x1,x2,rfl⟩ e3 Cy hC;obtain⟨p,hp,rfl⟩:=B' hu;rw[Yi,hp]at hz;cases hz;obtain⟨r,hr,ho,g1,g2,g3⟩:=hB.get hp;unfold fI;walk_at "d";refine⟨rfl,p.2,d2,r,cn,_,_,rfl,ho.ext e3,g1,g2,g3,e3 _ _ yT,fun B l eB hl fR=>?_⟩;have qU:=r.bh (e:=d9 ps rs);walk_at "d";refine⟨_,fR,by show(r.lean (d9 ps rs)).length+1<4096;lia,fun p3 vX=>?_⟩;walk_at "d";have hal:=BM (r.lean (d9 ps rs)) (r.lean (d9 ps rs)).length;obtain⟨di,Xh⟩:=Gj (r.lean (d9 ps rs)) (r.lean (d9 ps rs)).length (Yj _);refine⟨_,Zd,by lia,fun D zs hD jc vT=>hC _ _ _ ⟨_,_,rfl⟩ ((eB.trans (Ext.new vX)).trans (Ext.new hD)) ⟨D,zs,rfl,Zd,fun r' b_=>?_⟩⟩;rw[hr]at b_;cases b_;exact⟨vT,jc.nodup_iff.mpr di,fun z=>by rw[jc.mem_iff,Xh,Y4]⟩
 .intro B vs dj eB kA ff kB;refine fg (q _ d3 dj vs (eB.trans (Ext.new kA)) mR Zd (by rw[ff,hlen,Yc]) fun k v hv=>?_);obtain⟨p,zs,h1,h2,h3⟩:=kB k v hv;exact⟨p,zs,h1,Ext.new kA _ _ h2,h3⟩
end
inductive qV (F:Str->Option Rl):Str->Str->Prop
 | one {z y:Str} {r:Rl}:F z=some r->y∈r.bb->qV F z y
 | more {z x y:Str} {r:Rl}:qV F z x->F x=some r->y∈r.bb->qV F z y
structure Cb (F:Str->Option Rl) (z:Str) (zs:List Str):Prop where
 so:PyProof.Rows.sortedS zs=true
 nd:zs.Nodup
 mem:∀y,y∈zs↔qV F z y
def qV.mS(hn:∀r∈rs,∀z∈r.bb,z∈ps.map (·.1))(h:qV (fS ps rs) z y):y∈ps.map (·.1):=by
 cases h with
 | one h1 h2=>obtain⟨k,_,h3⟩:=vV h1;exact hn _ (Yk h3) _ h2
 | more _ h1 h2=>obtain⟨k,_,h3⟩:=vV h1;exact hn _ (Yk h3) _ h2
def Xi(P:Program)(w:World)(cs:Nat->Addr):bQ:=fun us A Q=>∃(z:Str)(d:Addr)(ps:List (Str×Addr))(rs:List Rl)(ep:Nat),us=[.str z,.ref d]/\z∈ps.map (·.1)/\A d=some (dS P w ep (bW ps))/\je cs A ps rs/\∀B l zs,Ext A B->A l=none->B l=some (.lst (List.map U.str zs))->Cb (fS ps rs) z zs->Q (.ref l) B
def lx(e:Ext A B)(h:A x=none):Ext A (af B x o):=fun y u q=>by
 rw[Zn (eF q h)]
 exact e y u q
structure pL (F:Str->Option Rl) (z:Str) (ks ws:List Str):Prop where
 nd:ks.Nodup
 sp:∀y,y∈ks\/y∈ws->qV F z y
 own:∀r,F z=some r->∀y∈r.bb,y∈ks\/y∈ws
 on:∀x∈ks,∀r,F x=some r->∀y∈r.bb,y∈ks\/y∈ws
def pL.done(h:pL F z ks [])(y:Str):y∈ks↔qV F z y:=by
 refine⟨fun hy=>h.sp y (.inl hy),fun hy=>?_⟩;induction hy with
 | one h1 h2=>exact(h.own _ h1 _ h2).resolve_right (fun z=>nomatch z)
 | more _ h1 h2 ih=>exact(h.on _ ih _ h1 _ h2).resolve_right (fun z=>nomatch z)
def pL.old(h:pL F z ks (ws++[y]))(hy:y∈ks):pL F z ks ws:=by
 have:∀x,x∈ks\/x∈ws++[y]->x∈ks\/x∈ws:=fun x hx=>hx.elim .inl fun hx=>(Yy.mp hx).elim .inr fun e=>.inl (by rw[Yp.mp e];exact hy);exact⟨h.nd,fun x hx=>h.sp x (hx.imp id (Y3 _)),fun r h1 x hx=>this x (h.own r h1 x hx),fun x hx r h1 y hy=>this y (h.on x hx r h1 y hy)⟩
def pL.new(h:pL F z ks (ws++[y]))(hy:y∉ks)(hr:F y=some r)(hz:∀x,x∈zs↔x∈r.bb):pL F z (ks++[y]) (ws++zs):=by
 have hs:=h.sp y (.inr (Yz _ (.head _)));have this:∀x,x∈ks\/x∈ws++[y]->x∈ks++[y]\/x∈ws++zs:=fun x hx=>hx.elim (fun h=>.inl (Y3 _ h)) fun hx=>(Yy.mp hx).elim (fun h=>.inr (Y3 _ h)) fun e=>.inl (Yz _ e);refine⟨List.nodup_append.mpr ⟨h.nd,by simp,fun a ha b hb e=>hy (by rw[<- Yp.mp hb,<- e];exact ha)⟩,fun x hx=>?_,fun r h1 x hx=>this x (h.own r h1 x hx),fun x hx r' h1 y' fZ=>?_⟩
 .rcases hx with hx|hx
  .rcases Yy.mp hx with hx|hx
   .exact h.sp x (.inl hx)
   .rw[Yp.mp hx];exact hs
  .rcases Yy.mp hx with hx|hx
   .exact h.sp x (.inr (Y3 _ hx))
   .exact .more hs hr ((hz x).mp hx)
 .rcases Yy.mp hx with hx|hx
  .exact this y' (h.on x hx r' h1 y' fZ)
  .rw[Yp.mp hx,hr]at h1;cases h1;exact .inr (Yz _ ((hz y').mpr fZ))
section
include T
def Xj : T.tQ.Ok aQ 64 (a6 K (Xi P w cS)):=by
 have bU:=O_ T 60;apply T.tQ.bF;walk_at "f";exact fun S hr=>⟨_,(Zf (ZB (i:=2) S.nd rfl (Or.inl rfl) (JW N5 (by rfl) T.jK (by decide +kernel)))
   (Zf (ZB (i:=3) S.nd rfl (Or.inl rfl) (qB (ZH sM (pv 1) (pv 0) (fun _ _=>rfl)) bU.mn hr g8))
   (Zf (wI YF (Dq (pv 3) (fun _=>rfl)) (Zf (ZB (i:=4) S.nd rfl (Or.inl rfl) (uV Yx uD uE uW (pv 3)))
   (Zh (ZT (Zo V4 (pv 4) (pv 2) (by with_unfolding_all rfl)) (Zf (Z1 (N8 (pv 2) (Za (pv 4) Zg)))
   (Zh (Z1 (gF Yx Io Ip LA (pv 3) (Za (qB (ZH sM (pv 1) (pv 4) (fun _ _=>rfl)) bU.mn hr g8) Zg))))) Zz))))
   (Zh (Zu (b8 (Gg rfl) T.de (Za (pv 2) Zg))))))),(Zk (Zq (Z6 N' Ze) Zi)
   (Zk (Zq (qC (Zj qD Zb Zb) Ze) Zi)
   (Zk (xD (EU Zb) (Zk (Zq (vd ZR vn Zb) Zi)
   (Z0 (Zp (Zj V5 Zb Zb)) (Zk (Z5 (Oe Zb (Zc Zb Ze)))
   (Z5 (gI ZR LB Zb (Zc (qC (Zj qD Zb Zb) Ze) Ze)))) ZA)))
   (Zv (Z6 Gh (Zc Zb Ze))))))⟩
 rintro us A Q ⟨z,d,ps,rs,ep,rfl,hz,hA,hB,q⟩;walk_at "o";intro p hp;obtain⟨i,hi⟩:=List.getElem?_of_mem hz;rw[Yi]at hi;obtain⟨pz,vM,rfl⟩:=YO.mp hi;obtain⟨r,hr,ho,g1,g2,g3⟩:=hB.get vM;have Ph:∀ {j:Nat} {q:Str×Addr},ps[j]? = some q->(bW ps).lookup q.1=some (.ref q.2):=fun {j q} h=>by
  have:=qT (rs:=ps.map fun q=>U.ref q.2) hB.nd (k:=j) (z:=q.1) (r:=.ref q.2) (by rw[Yi,h];rfl) (by rw[Yi,h];rfl);rwa [List.zip_map',]at this
 refine⟨ep,_,_,by rw[Zn (eF hA hp)];exact hA,Ph vM,BY (ho.ext (Ext.new hp)) g1 g2 fun B l1 zs eB cB fR nm=>?_⟩;walk_at "d";have cL:A l1=none:=i7 (Ext.new hp) cB;have bx:p≠l1:=eF Zd cB;have hn:=fun r hr=>(hB.sz r hr).2.2;have qW:zs.length<=(ps.map (·.1)).length:=lh nm.nd fun y hy=>g3 y ((nm.mem y).mp hy);have Pj:=hB.len;rw[Yc]at qW;refine⟨fun m ρ A2=>∃(ks ws:List Str)(x4:Option U),m=(ps.length-ks.length)*100+ws.length/\ρ=[some (.str pz.1),some (.ref d),some (.ref p),some (.ref l1),x4]/\Ext A A2/\A2 p=some (tS P w ks)/\A2 l1=some (.lst (ws.map U.str))/\pL (fS ps rs) pz.1 ks ws/\ws.length<=60*(ks.length+1),⟨_,[],zs,_,rfl,rfl,(Ext.new hp).trans eB,eB _ _ Zd,fR,⟨List.nodup_nil,fun y hy=>.one (hB.at vM hr) ((nm.mem y).mp (hy.resolve_left fun z=>nomatch z)),fun r' h y hy=>?_,fun x hx=>nomatch hx⟩,by simp only[List.length_nil];lia⟩,?_⟩
 .rw[hB.at vM hr]at h;cases h;exact .inr ((nm.mem y).mpr hy)
 rintro m ρ A2 ⟨ks,ws,x4,rfl,rfl,e2,Pk,Cc,hI,uX⟩;have jM:ks.length<=ps.length:=by
  have:=lh hI.nd (m:=ps.map (·.1)) fun y hy=>(hI.sp y (.inl hy)).mS hn;rwa [Yc]at this
 walk_at "d";refine⟨_,Cc,kc (fun aR=>?_) fun he=>?_⟩
 .obtain⟨ie,y,rfl⟩:∃ie y,ws=ie++[y]:=by
   rcases zJ ws with rfl|⟨a,b,e⟩
   .cases aR
   .exact⟨a,b,by rw[e,List.concat_eq_append]⟩
  rw[Yt,List.length_singleton]at uX ⊢;refine⟨_,fun dh A' h=>h,?_⟩;walk_at "d";refine⟨⟨_,Cc⟩,?_⟩;rw[Ys]at Cc;refine⟨_,_,Cc,?_⟩;have yU:af A2 l1 (.lst (ie.map U.str)) p=some (tS P w ks):=by rw[Zn bx];exact Pk
  have Ha:af A2 l1 (.lst (ie.map U.str)) l1=some (.lst (ie.map U.str)):=Zd;have e3:Ext A (af A2 l1 (.lst (ie.map U.str))):=lx e2 cL;generalize af A2 l1 (.lst (ie.map U.str))=A3 at yU Ha e3 ⊢;walk_at "d";refine vt (!decide (y∈ks)) (fun B hB=>?_) ?_
  .walk_at "d";exact⟨ks,yU,hB⟩
  by_cases hy:y∈ks
  .refine Zw (by simp[hy]) ?_;walk_at "d";exact⟨_,by lia,ks,ie,_,rfl,rfl,e3,yU,Ha,hI.old hy,by lia⟩
  .refine ZS (by simp[hy]) ?_;obtain⟨j,hj⟩:=List.getElem?_of_mem ((hI.sp y (.inr (Yz _ (.head _)))).mS hn);rw[Yi]at hj;obtain⟨py,Cd,rfl⟩:=YO.mp hj;obtain⟨ry,Xk,Xl,f1,f2,f3⟩:=hB.get Cd;have Xm:ks.length<ps.length:=by
    have:=lh (l:=py.1::ks) (Y7.mpr ⟨hy,hI.nd⟩) (m:=ps.map (·.1)) fun y hy=>by
     rcases Yo.mp hy with rfl|hy
     .exact Yk (by rw[Yi,Cd];rfl)
     .exact(hI.sp y (.inl hy)).mS hn
    rw[Yc,List.length_cons]at this;exact this
   walk_at "d";refine⟨p,ks,rfl,yU,_,ks,rfl,yU,by show ks.length+1<4096;lia,?_⟩;have ha:fO ks py.1=ks++[py.1]:=if_neg hy;rw[ha];have Pl:af A3 p (tS P w (ks++[py.1])) p=some (tS P w (ks++[py.1])):=Zd;have Hb:af A3 p (tS P w (ks++[py.1])) l1=some (.lst (ie.map U.str)):=by rw[Zn (Ne.symm bx)];exact Ha
   have e4:Ext A (af A3 p (tS P w (ks++[py.1]))):=lx e3 hp;generalize af A3 p (tS P w (ks++[py.1]))=A4 at Pl Hb e4 ⊢;walk_at "d";refine⟨⟨_,Hb⟩,ep,_,_,e4 _ _ hA,Ph Cd,BY (Xl.ext e4) f1 f2 fun B2 l2 ys e5 cZ d8 Hc=>?_⟩;have ly:ys.length<=(ps.map (·.1)).length:=lh Hc.nd fun y hy=>f3 y ((Hc.mem y).mp hy);rw[Yc]at ly;walk_at "d";refine⟨_,_,e5 _ _ Hb,d8,by rw[Yc,Yc,gA];lia,?_⟩;rw[<- Ys];refine⟨_,?_,ks++[py.1],ie++ys,_,rfl,rfl,lx (e4.trans e5) cL,by rw[Zn bx];exact e5 _ _ Pl,Zd,hI.new hy (hB.at Cd Xk) Hc.mem,?_⟩
   .rw[Yt,Yt,List.length_singleton];lia
   .rw[Yt,Yt,List.length_singleton];lia
 .have he:ws=[]:=by cases ws with|nil=>rfl|cons=>cases he
  subst he;walk_at "d";refine⟨ks,Pk,by lia,fun D ys hD jc vT=>fg (q _ D ys (e2.trans (Ext.new hD)) (i7 e2 hD) Zd ⟨vT,jc.nodup_iff.mpr hI.nd,fun y=>by rw[jc.mem_iff];exact hI.done y⟩)⟩
end
def Xn(P:Program)(w:World)(cs:Nat->Addr)(D:Addr):vJ:=fun us A Q X=>∃(d d2:Addr)(ps:List (Str×Addr))(rs:List Rl)(ep cn:Nat),us=[.ref d,.ref d2]/\A d=some (dS P w ep (bW ps))/\A d2=some (dS P w cn (yS ps rs))/\je cs A ps rs/\(∀z∈ps.map (·.1),z.length<=8)/\((∀r∈rs,r.hp (d9 ps rs)=false)->∀B,Ext A B->Q .ay B)/\∀(k:Nat) z r,(ps.map (·.1))[k]? = some z->rs[k]? = some r->r.hp (d9 ps rs)=true->(∀(j:Nat) r',j<k->rs[j]? = some r'->r'.hp (d9 ps rs)=false)->∀B,Ext A B->X D [("name",.str z)] B
section
include T
def Xo:T.pB.Ok aQ 1 (FL aw "name" BL):=Vm (okV:=BL) T.iu T.cM rfl rfl (Vl (t1:="the rule of ") (t2:=" takes a hollow rule any number of times") (by decide) (by decide)) (fun bg A outer s H E hr=>(Zf (Z1 (M6 T.XB (by rfl) T.bN (Za (pv 0) (Za (Tp (E3 Zr (E3 (To (pv 1)) (E3 Zr Tn)))) Zg))))
   (Zh (M8 (pv 0) (pv 1))))) T.pB.f rfl T.pB.s
def Xp:T.pC.Ok aQ 1 (Gw K aD "circle"):=Wg T.jI T.cx rfl rfl (fun bg A outer s H E hr=>(Zf (Z1 (M6 T.XB (by rfl) T.bN (Za (pv 0) (Za Zr Zg))))
   (Zh (M8 (pv 0) (yG R_ T.eU (Za (pv 1) Zg)))))) T.pC.f rfl T.pC.s
def Xq:T.mJ.Ok (gL P w) 65 (sQ K (Xn P w cS aw)):=by
 have ud:=W2 T 60;have Hd:=Xo T;apply T.mJ.yo;walk_at "f";exact fun S hr hE=>⟨_,(Zh (ee (Nb vI) rfl (vA (pv 0)) (oj (n:=2) rfl (ZL (Zx (i:=2) S.nd rfl (Or.inl rfl)) (ZL (Zx (i:=3) S.nd rfl (Or.inl rfl)) jV)))
   (Zh (ZT (iS (T.kh.pc ud hr (Za (pv 3) (Za (pv 1) Zg)))) (Zh (Nd rfl T.iu Hd.mn hr (by rfl) T.eP T.pB.b (Za (pv 2) Zg))) Zz)))),(eu (ZZ vB Zb) (j9 (ZM Zi (ZM Zi j8)))
   (Z0 (iN (Zt (Zc Zb (Zc Zb Ze)))) (UU hE Vk (Zc Zb Ze)) ZA))⟩
 rintro us A Q X ⟨d,d2,ps,rs,ep,cn,rfl,hA,yT,hB,h8,q,qx⟩;walk_at "o";refine⟨ep,_,hA,vC (bW ps) (fun k ρ A2=>∃x2 x3,ρ=[some (.ref d),some (.ref d2),x2,x3]/\Ext A A2/\∀(j:Nat) r',j<k->rs[j]? = some r'->r'.hp (d9 ps rs)=false) ⟨_,_,rfl,Ext.refl _,fun j _ h=>absurd h (CS j)⟩ (fun k ρ A2 _ ⟨_,_,_,e,_⟩=>e _ _ hA) ?_ ?_⟩
 .rintro k p' ρ A2 j3 ⟨x2,x3,rfl,e2,hj⟩;unfold bW at j3;obtain⟨p,hp,rfl⟩:=Z9 j3;obtain⟨r,hr,ho,g1,g2,g3⟩:=hB.get hp;have hz:(ps.map (·.1))[k]? = some p.1:=by rw[Yi,hp];rfl
  have hz8:=h8 _ (Yk hz);unfold fI;walk_at "d";refine⟨rfl,mD (r.hp (d9 ps rs)) (fun B hB=>?_) fun B eB=>?_⟩
  .walk_at "d";exact⟨p.2,d2,r,cn,_,_,rfl,ho.ext e2,g1,g3,e2 _ _ yT,fun B1 e1=>⟨_,rfl,hB B1 e1⟩⟩
  cases hh:r.hp (d9 ps rs)with
  | true =>
   refine ZS rfl ?_;walk_at "d";exact⟨_,rfl,⟨p.1,rfl,by lia⟩,qx k p.1 r hz hr hh hj _ (e2.trans eB)⟩
  | false =>
   refine Zw rfl ?_;walk_at "d";refine⟨_,_,rfl,e2.trans eB,fun j r' bD b_=>?_⟩;rcases Nat.lt_succ_iff_lt_or_eq.mp bD with h|rfl
   .exact hj j r' h b_
   .rw[hr]at b_;cases b_;exact hh
 .rintro ρ A2 ⟨x2,x3,rfl,e2,hj⟩;walk_at "d";refine fg (q (fun r hr=>?_) A2 e2);obtain⟨j,yV⟩:=List.getElem?_of_mem hr;refine hj j r ?_ yV;have hl:=hB.os.len;have:=(Yh.mp yV).1;unfold bW;rw[Yc]at hl ⊢;lia
end
def Ce:∀ {zs:List Str},(∀z∈zs,PyData.strOk z=true)->ic A (zs.map U.str) (zs.map PyData.str)/\PyData.canLayAll0 (zs.map PyData.str)=true/\PyData.depthAll (zs.map PyData.str)<=2
 | [],_=>⟨.nil,by simp[PyData.canLayAll0],by simp[PyData.depthAll]⟩
 | z :: zs,h=>by
  obtain⟨h1,h2,h3⟩:=Ce (A:=A) (zs:=zs) fun y hy=>h y (m3 _ hy)
  refine⟨.cons (.str z) h1,?_,?_⟩
  .simp only[Yr,PyData.canLayAll0,PyData.canLay0,h z lE,h2,zV]
  .simp only[Yr,PyData.depthAll,PyData.depth]
   lia
def He:∀ys zs:List Str,PyData.eqvAll (ys.map PyData.str) (zs.map PyData.str)=decide (ys=zs)
 | [],[]=>by simp[PyData.eqvAll]
 | [],_::_=>by simp[PyData.eqvAll]
 | _::_,[]=>by simp[PyData.eqvAll]
 | y :: ys,z::zs=>by
  have:=He ys zs
  simp only[Yr,PyData.eqvAll,PyData.eqv,this,wu]
  by_cases e:y=z<;>by_cases f:ys=zs<;>simp[e,f]
def Cf{ys zs:List Str}(hy:∀z∈ys,PyData.strOk z=true)(hz:∀z∈zs,PyData.strOk z=true)(h1:A p=some (.lst (ys.map U.str)))(h2:A q=some (.lst (zs.map U.str)))(h:Q (.bl (if neg then !decide (ys=zs)else decide (ys=zs))) A):eE neg (.ref p) (.ref q) A Q:=by
 obtain⟨g1,g2,g3⟩:=Ce (A:=A) hy;obtain⟨k1,k2,k3⟩:=Ce (A:=A) hz;refine⟨.list (ys.map PyData.str),.list (zs.map PyData.str),.lst h1 g1,.lst h2 k1,?_,?_,?_,?_⟩
 .simp only[PyData.canLay0,g2]
 .simp only[PyData.canLay0,k2]
 .simp only[PyData.depth];lia
 .rw[show PyData.eqv (.list (ys.map PyData.str)) (.list (zs.map PyData.str))=decide (ys=zs)from by simp only[PyData.eqv,He]];exact h
def Hf{L:List Str}:dD (.str y) (L.map U.str)=decide (y∈L):=by
 by_cases h:y∈L
 .rw[YA h];unfold dD ng;rw[List.any_eq_true];exact⟨U.toV (.str y),YS.mpr ⟨.str y,YS.mpr ⟨y,h,rfl⟩,rfl⟩,by simp[U.toV,lR]⟩
 .rw[Yu h];exact WE h
def Hg{L:List Str}:(L.map U.str).all U.flat=true:=by
 rw[uH];intro u hu;obtain⟨z,_,rfl⟩:=YS.mp hu;rfl
structure pM (le:Str->Str->Prop) (c:List Str):Prop where
 ne:c≠[]
 nd:c.Nodup
 st:∀(j:Nat) a b,c[j]? = some a->c[j+1]? = some b->le a b
 la:∀a b,c[c.length-1]? = some a->c[0]? = some b->le a b
structure vY (le:Str->Str->Prop) (gs:List Str) (z:Str):Prop where
 nd:gs.Nodup
 st:∀(j:Nat) a b,gs[j]? = some a->gs[j+1]? = some b->le a b
 la:∀a,gs[gs.length-1]? = some a->le a z
def vY.add(h:vY le gs z)(hz:z∉gs)(hy:le z y):vY le (gs++[z]) y:=by
 refine⟨List.nodup_append.mpr ⟨h.nd,by simp,fun a ha b hb e=>hz (by rw[<- Yp.mp hb,<- e];exact ha)⟩,fun j a b ha hb=>?_,fun a ha=>?_⟩
 .by_cases hj:j+1<gs.length
  .rw[YU (by lia)]at ha;rw[YU hj]at hb;exact h.st j a b ha hb
  .by_cases nj:j+1=gs.length
   .rw[YU (by lia)]at ha;rw[YQ (by lia),nj,qa]at hb;cases hb;exact h.la a (by rw[<- nj,CI];exact ha)
   .rw[YQ (by lia)]at hb;have:j+1-gs.length=(j-gs.length)+1:=by lia
    rw[this]at hb;cases hb
 .rw[Yt,List.length_singleton,CI,YQ (Yj _),qa]at ha;cases ha;exact hy
def vY.Xr(h:vY le gs z)(hi:gs[i]? = some z):pM le (gs.drop i):=by
 have hl:=(Yh.mp hi).1;refine⟨fun e=>?_,h.nd.sublist (List.drop_sublist _ _),fun j a b ha hb=>?_,fun a b ha hb=>?_⟩
 .have:=congrArg List.length e;rw[pZ,List.length_nil]at this;lia
 .rw[IQ]at ha hb;exact h.st (i+j) a b ha hb
 .rw[IQ]at ha hb;rw[Nat.add_zero,hi]at hb;cases hb;refine h.la a ?_;rw[pZ]at ha;rw[show gs.length-1=i+(gs.length-i-1) by lia];exact ha
def Xs(xs:List α)(k:Nat)(h:k<=xs.length):dN xs (some (k:Int)) none=xs.drop k:=by
 unfold dN;rw[show HT.aO xs.length 0 (some (k:Int))=min k xs.length from HT.cz xs.length 0 k,show HT.aO xs.length xs.length none=xs.length from rfl,rA h];exact nV (by rw[pZ];lia)
def Xu(P:Program)(w:World):bQ:=fun us A Q=>∃(z0:Str)(d:Addr)(L:List Str)(vs:List U)(ep:Nat)(le:Str->Str->Prop),us=[.str z0,.ref d]/\A d=some (dS P w ep (L.zip vs))/\vs.length=L.length/\L.Nodup/\L.length<=60/\fD A vs (fun k zs=>∀z,L[k]? = some z->∃y t,zs=y::t/\y∈L/\le z y)/\z0∈L/\∀B l c,Ext A B->A l=none->B l=some (.lst (List.map U.str c))->pM le c->(∀z∈c,z∈L)->Q (.ref l) B
section
include T
def Xv:T.tP.Ok aQ 3 (a6 K (Xu P w)):=by
 apply T.tP.bF;walk_at "f";exact fun S hr=>⟨_,(Zf (ZB (i:=2) S.nd rfl (Or.inl rfl) (ZW Zg))
   (Zf (wI YF (Zo Kt (pv 0) (pv 2) (by with_unfolding_all rfl)) (Zf (Z1 (gF Yx YM YN Z4 (pv 2) (Za (pv 0) Zg)))
   (Zh (ZB (i:=0) S.nd rfl (Or.inl rfl) (ZH aT (ZH sM (pv 1) (pv 0) (fun _ _=>rfl)) Zl (fun _ _=>rfl))))))
   (Zh (Zu (qk qp (pv 2) (oG (gF Yx PySem.F.slot_list_index PySem.F.type_list_index SK (pv 2) (Za (pv 0) Zg))) rT))))),(Zk (Zq (ZV Ze) Zi)
   (Zk (xD (Zp (Zj Ln Zb Zb)) (Zk (Z5 (gI ZR jx Zb (Zc Zb Ze)))
   (Zq (Zj ZK (Zj qD Zb Zb) Zm) Zi)))
   (Zv (qu qw Zb (oS (gI ZR S' Zb (Zc Zb Ze))) sC))))⟩
 rintro us A Q ⟨z0,d,L,vs,ep,le,rfl,hA,ff,ug,Pm,kB,Ca,q⟩;walk_at "o";refine⟨by decide,fun p hp=>⟨fun m ρ A2=>∃(gs:List Str)(z:Str),m=L.length-gs.length/\ρ=[some (.str z),some (.ref d),some (.ref p)]/\Ext A A2/\A2 p=some (.lst (gs.map U.str))/\vY le gs z/\z∈L/\∀y∈gs,y∈L,⟨_,[],z0,rfl,rfl,Ext.new hp,Zd,⟨List.nodup_nil,(fun j a b h=>nomatch h),fun a h=>nomatch h⟩,Ca,fun y h=>nomatch h⟩,?_⟩⟩;rintro m ρ A2 ⟨gs,z,rfl,rfl,e2,h2,hP,hz,Cg⟩;have hgl:gs.length<=L.length:=lh hP.nd Cg;walk_at "d";refine⟨_,h2,rfl,Hg,?_⟩;rw[Hf];refine kc (fun hb=>?_) fun hb=>?_
 .have Ci:z∉gs:=by simpa using hb
  have bD:gs.length<L.length:=by
   have:=lh (l:=z::gs) (Y7.mpr ⟨Ci,hP.nd⟩) (m:=L) fun y hy=>by
    rcases Yo.mp hy with rfl|hy
    .exact hz
    .exact Cg y hy
   rw[List.length_cons]at this;exact this
  obtain⟨i,hi⟩:=List.getElem?_of_mem hz;obtain⟨v,hv⟩:∃v,vs[i]? = some v:=⟨_,Yg (by rw[ff];exact(Yh.mp hi).1)⟩;obtain⟨p2,zs,rfl,yW,hR⟩:=kB i v hv;obtain⟨y,t,rfl,Hh,hle⟩:=hR z hi;refine⟨_,fun dh A' h=>h,?_⟩;walk_at "d";refine⟨⟨_,h2⟩,_,h2,ZX (by rw[Yc];lia),?_⟩;have e3:Ext A (af A2 p (.lst (gs.map U.str++[.str z]))):=lx e2 hp;have h3:af A2 p (.lst (gs.map U.str++[.str z])) p=some (.lst ((gs++[z]).map U.str)):=by rw[Zd,Ys];rfl
  generalize af A2 p (.lst (gs.map U.str++[.str z]))=A3 at e3 h3 ⊢;walk_at "d";refine⟨ep,_,_,e3 _ _ hA,qT ug hi hv,?_⟩;walk_at "d";refine⟨_,_,e3 _ _ yW,ZU (j:=0) rfl,⟨_,?_,gs++[z],y,rfl,rfl,e3,h3,hP.add Ci hle,Hh,fun x hx=>?_⟩⟩
  .rw[Yt,List.length_singleton];lia
  .rcases Yy.mp hx with hx|hx
   .exact Cg x hx
   .rw[Yp.mp hx];exact hz
 .have Ci:z∈gs:=by simpa using hb
  obtain⟨j,hj⟩:=List.getElem?_of_mem Ci;have yR:=(Yh.mp hj).1;walk_at "d";refine⟨⟨_,h2⟩,gs,j,h2,hj,fun m hm e=>?_,_,h2,fun l hl=>fg (q _ l (gs.drop j) (e2.trans (Ext.new hl)) (i7 e2 hl) ?_ (hP.Xr hj) fun x hx=>Cg x (List.mem_of_mem_drop hx))⟩
  .have:=jU hP.nd e hj;lia
  .rw[Zd,vp,Xs _ _ (by lia)]
end
def Xw(P:Program)(w:World)(D:Addr):vJ:=fun us A Q X=>∃(d:Addr)(ns:List Str)(vs:List U)(ep:Nat)(le:Str->Str->Prop),us=[.ref d]/\A d=some (dS P w ep (ns.zip vs))/\vs.length=ns.length/\ns.Nodup/\ns.length<=60/\(∀z∈ns,PyData.strOk z=true)/\fD A vs (fun k zs=>zs.length<=60/\∀z,ns[k]? = some z->∀y,y∈zs↔le z y)/\(∀z∈ns,∀y,le z y->y∈ns)/\((∃rk:Str->Nat,∀z∈ns,∀y,le z y->rk y<rk z)->∀B,Ext A B->Q .ay B)/\∀c,pM le c->(∀z∈c,z∈ns)->∀B l,Ext A B->A l=none->B l=some (.lst (List.map U.str c))->X D [("circle",.ref l)] B
def Xx{ns L K:List Str}{le:Str->Str->Prop}{rk:Str->Nat}(hn:∀z∈ns,∀y,le z y->y∈ns)(h:∀z∈ns,z∉L->rk z<n/\∀y,le z y->y∉L/\rk y<rk z)(hK:∀z,z∈K↔z∈L/\∃y∈L,le z y):
  ∃mT:Str->Nat,∀z∈ns,z∉K->mT z<n+1/\∀y,le z y->y∉K/\mT y<mT z:=by
 have uh:∀z,z∉L->z∉K:=fun z hz hk=>hz ((hK z).mp hk).1;refine⟨fun z=>if z∈L then n else rk z,fun z hz Hi=>?_⟩;by_cases vZ:z∈L
 .have iU:∀y,le z y->y∉L:=fun y hy Hh=>Hi ((hK z).mpr ⟨vZ,y,Hh,hy⟩);refine⟨by simp only[if_pos vZ];lia,fun y hy=>⟨uh y (iU y hy),?_⟩⟩;simp only[if_pos vZ,if_neg (iU y hy)];exact(h y (hn z hz y hy) (iU y hy)).1
 .obtain⟨h1,h2⟩:=h z hz vZ;refine⟨by simp only[if_neg vZ];lia,fun y hy=>?_⟩;obtain⟨h3,h4⟩:=h2 y hy;refine⟨uh y h3,?_⟩;simp only[if_neg vZ,if_neg h3];exact h4
section
include T
def Xy:T.mK.Ok (gL P w) 5 (sQ K (Xw P w aD)):=by
 have Hj:=Xv T;have Hk:=Xp T;apply T.mK.yo;walk_at "f";exact fun S hr hE=>⟨_,(Zf (ZB (i:=1) S.nd rfl (Or.inr rfl) (yG (MP rfl) T.eU (Za (pv 0) Zg)))
   (Zh (wI (Nb vI) (Dq (pv 1) (fun _=>rfl)) (Zf (ZB (i:=2) S.nd rfl (Or.inr rfl) (Bs (ts:=["name"]) (frs':=[("leans_by",0),("left",1)]) (cl:=_) rfl ⟨(by rfl),rfl,(by decide +kernel),(by decide +kernel),(ZD (by rfl) (ZD (by rfl) ZN)),(j4 (by rfl) (by rfl)),(ZD ⟨(by rfl),(by first|exact .inl rfl|exact .inr rfl),(by first|exact .inl rfl|exact .inr rfl),(by rfl)⟩ (ZD ⟨(by rfl),(by first|exact .inl rfl|exact .inr rfl),(by first|exact .inl rfl|exact .inr rfl),(by rfl)⟩ ZN))⟩ (dZ (pv 1)) (fun _ _ _ _=>Zx (i:=0) (show List.Nodup (["name","leans_by","left"]:List Str)from by decide +kernel) rfl (Or.inl rfl) (.inr rfl)) (fun _ _ _ _=>kQ) (fun _ _ _ _=>by exact(pv 0)) (fun _ _ _ _=>by exact(ni (ts:=["one"]) (frs':=[("left",2)]) (cl:=_) rfl ⟨(by rfl),rfl,(by decide +kernel),(by decide +kernel),(ZD (by rfl) ZN),(j4 (by rfl) (by rfl)),(ZD ⟨(by rfl),(by first|exact .inl rfl|exact .inr rfl),(by first|exact .inl rfl|exact .inr rfl),(by rfl)⟩ ZN)⟩ (dZ (ZH (Nt P w rfl rfl) (pv 1) (pv 0) (fun _ _=>rfl))) (fun _ _ _ _=>Zx (i:=0) (show List.Nodup (["one","left"]:List Str)from by decide +kernel) rfl (Or.inl rfl) (.inr rfl)) (fun _ _ _ _=>(uY (Zo (RX K rfl) (pv 0) (pv 1) (by with_unfolding_all rfl)))) (fun _ _ _ _=>by exact(pv 0))))))
   (Zf (Ee (i:=3) S.nd rfl (Or.inl rfl) (by with_unfolding_all rfl) (ts:=["name"]) (frs':=[("leaning",2)]) (cl:=_) rfl ⟨(by rfl),rfl,(by decide +kernel),(by decide +kernel),(ZD (by rfl) ZN),(j4 (by rfl) (by rfl)),(ZD ⟨(by rfl),(by first|exact .inl rfl|exact .inr rfl),(by first|exact .inl rfl|exact .inr rfl),(by rfl)⟩ ZN)⟩ (dZ (pv 1)) (fun _ _ _ _=>Zx (i:=0) (show List.Nodup (["name","leaning"]:List Str)from by decide +kernel) rfl (Or.inl rfl) (.inr rfl)) (fun _ _ _ _=>(uY (Dq (ZH (Nt P w rfl rfl) (pv 1) (pv 0) (fun _ _=>rfl)) (fun _=>rfl)))) (fun _ _ _ _=>by exact(pv 0)))
   (Zf (ZT (Zo (cN hr) (pv 3) (pv 1) (ZF _)) (Zh (Nd rfl T.jI Hk.mn hr (by rfl) T.gx T.pC.b (Za (T.tP.pc Hj hr (Za (ZH aT (pv 1) Zl (fun _ _=>rfl)) (Za (pv 2) Zg))) Zg))) Zz)
   (Zh (ZB (i:=1) S.nd rfl (Or.inr rfl) (pv 3))))))))),(Zk (Zq (Z6 MR (Zc Zb Ze)) Zi)
   (xD (EU Zb) (Zk (Zq (yg (ZZ Z2 Zb) Zi kT Zb (j_ (ZZ Z2 (Zj qD Zb Zb)) Zi (Zp (Zj vk Zb Zb)) Zb)) Zi)
   (Zk (Zq (j_ (ZZ Z2 Zb) Zi (EU (Zj qD Zb Zb)) Zb) Zi)
   (Zk (Z0 (Zp (Zj cK Zb Zb)) (Wh hE (Zc (Zt (Zc (Zj ZK Zb Zm) (Zc Zb Ze))) Ze)) ZA)
   (Zq Zb Zi))))))⟩
 rintro us A Q X ⟨d,ns,vs,ep,le,rfl,hA,ff,di,fh,aG,kB,Hl,q,qx⟩;walk_at "o";refine⟨ep,_,hA,fun l0 cL=>?_⟩;rw[show(ns.zip vs).map fK=ns.map U.str from by rw[<- nM (xs:=ns) (ys:=vs) ff.symm,jS,nM ff.symm];rfl];walk_at "d";refine⟨fun m ρ A2=>∃(l:Addr)(L:List Str)(x2 x3:Option U)(rk:Str->Nat)(n:Nat),m=L.length/\ρ=[some (.ref d),some (.ref l),x2,x3]/\Ext A A2/\A2 l=some (.lst (L.map U.str))/\L.Nodup/\(∀z∈L,z∈ns)/\∀z∈ns,z∉L->rk z<n/\∀y,le z y->y∉L/\rk y<rk z,⟨_,l0,ns,_,_,fun _=>0,0,rfl,rfl,Ext.new cL,Zd,di,fun z h=>h,fun z h h'=>absurd h h'⟩,?_⟩;rintro m ρ A2 ⟨l,L,x2,x3,rk,n,rfl,rfl,e2,hl,ug,v5,eV⟩;have Pm:L.length<=60:=YE (lh ug v5) fh;walk_at "d";refine⟨_,hl,kc (fun aR=>?_) fun he=>?_⟩;rotate_left
 .have he:L=[]:=by cases L with|nil=>rfl|cons=>cases he
  subst he;exact fg (q ⟨rk,fun z hz y hy=>((eV z hz (fun h=>nomatch h)).2 y hy).2⟩ A2 e2)
 have aR:L≠[]:=fun e=>by rw[e]at aR;cases aR
 refine⟨_,fun dh A' h=>h,?_⟩;walk_at "d";refine⟨⟨_,hl⟩,fun d3 mR=>?_⟩;walk_at "c";refine yC (L.map U.str) L (by rw[Yc]) ug (fun k v A3=>∃p zs,v=.ref p/\A3 p=some (.lst (List.map U.str zs))/\∀z,L[k]? = some z->∀y,y∈zs↔y∈L/\le z y) (fun τ=>∃x,τ=[x,some (.ref d),some (.ref l)]) ⟨_,rfl⟩ mR (by rw[Yc];lia) (fun k A2 _ e3=>⟨_,e3 _ _ hl,rfl⟩) ?_ ?_ ?_
 .rintro k v A1 B h1 h2 ⟨p,zs,rfl,h3,h4⟩;refine⟨p,zs,rfl,h2 _ _ (fun e=>?_) h3,h4⟩;rcases h1 with h1|⟨ep,kus,h1⟩
  .rw[e,h1]at h3;cases h3
  .rw[e,h1]at h3;cases h3
 .rintro k u z τ A3 hu hz ⟨x,rfl⟩ e3 Cy hC;rw[Yi,hz]at hu;cases hu;obtain⟨i,hi⟩:=List.getElem?_of_mem (v5 z (Yk hz));obtain⟨v,hv⟩:∃v,vs[i]? = some v:=⟨_,Yg (by rw[ff];exact(Yh.mp hi).1)⟩;obtain⟨p,zs,rfl,hp,qW,qX⟩:=kB i v hv;have eA:=e2.trans e3;walk_at "d";refine⟨ep,_,_,eA _ _ hA,qT di hi hv,?_⟩;walk_at "d";refine⟨⟨_,eA _ _ hp⟩,fun l4 yX=>?_⟩;walk_at "c";refine Lv (zs.map U.str) (fun j=>decide ((zs[j]?.getD z)∈L)) (fun j=>.str (zs[j]?.getD z)) yX (by rw[Yc];lia) (fun j A4 _ e4=>⟨_,e4 _ _ (eA _ _ hp),rfl⟩) ?_ ?_
  .intro j u A4 hu e4 Cy' Cn hy hn;obtain⟨y,pK,rfl⟩:=Z9 hu;rw[pK]at hy hn;walk_at "d";refine⟨_,e4 _ _ (e3 _ _ hl),rfl,Hg,?_⟩;rw[Hf];exact kc hy hn
  .refine hC _ _ _ ⟨_,rfl⟩ (Ext.new yX) ⟨l4,((List.range (zs.map U.str).length).filter fun j=>decide ((zs[j]?.getD z)∈L)).map fun j=>zs[j]?.getD z,rfl,by rw[Zd,jS];rfl,fun z' gK y=>?_⟩;rw[hz]at gK;cases gK;rw[<- qX z hi y];constructor
   .intro hy;obtain⟨j,hj,rfl⟩:=YS.mp hy;obtain⟨yY,nj⟩:=List.mem_filter.mp hj;rw[p0,Yc]at yY;refine⟨lF nj,?_⟩;rw[Yg yY];exact uI yY
   .rintro⟨h1,h2⟩;obtain⟨j,hj⟩:=List.getElem?_of_mem h2;refine YS.mpr ⟨j,List.mem_filter.mpr ⟨?_,?_⟩,by rw[hj];rfl⟩
    .rw[p0,Yc];exact(Yh.mp hj).1
    .rw[hj];exact YA h1
 intro B nG dj eB kA yZ y9;walk_at "d";have Hm:l≠d3:=eF hl mR;refine⟨⟨_,by rw[Zn Hm];exact eB _ _ hl⟩,fun l5 ui=>?_⟩;walk_at "c";have y_:af B d3 (dS P w dj (L.zip nG)) d3=some (dS P w dj (L.zip nG)):=Zd;have jN:Ext B (af B d3 (dS P w dj (L.zip nG))):=Ext.new kA;generalize af B d3 (dS P w dj (L.zip nG))=B1 at ui y_ jN ⊢;have cB:=jN _ _ (eB _ _ hl);have uj:l≠l5:=eF cB ui;refine Wa (L.map U.str) (fun k ys A3=>∃K,ys=List.map U.str K/\K.Sublist (L.take k)/\(∀z,z∈K↔z∈L.take k/\∃y∈L,le z y)/\A3=af B1 l5 (.lst ys)) ⟨[],rfl,List.nil_sublist _,fun z=>⟨fun h=>(nomatch h),fun h=>nomatch h.1⟩,rfl⟩ (by rw[Yc];lia) (fun k ys A3 aF=>by obtain⟨K,e,hs,_,_⟩:=aF;rw[e,Yc];exact YE hs.length_le (by rw[YK];lia)) (fun k ys A3 _ ⟨K,_,_,_,e⟩=>⟨_,by rw[e,Zn uj];exact cB,rfl⟩) ?_ ?_
 .rintro k u ys A3 hu ⟨K,rfl,hs,hK,rfl⟩ Cy Cn hy hn;obtain⟨z,hz,rfl⟩:=Z9 hu;have hk:=(Yh.mp hz).1;obtain⟨v,hv⟩:∃v,nG[k]? = some v:=⟨_,Yg (by rw[yZ,Yc];exact hk)⟩;obtain⟨p,zs,rfl,hp,qX⟩:=y9 k v hv;have ir:=jN _ _ hp;have ht:L.take (k+1)=L.take k++[z]:=by rw[List.take_succ_eq_append_getElem hk,(Yh.mp hz).2]
  have Pn:(zs≠[])↔∃y∈L,le z y:=by
   constructor
   .intro h;cases zs with
    | nil=>exact absurd rfl h
    | cons y zs=>obtain⟨a,b⟩:=(qX z hz y).mp (.head _);exact⟨y,a,b⟩
   .rintro⟨y,a,b⟩ e;have:=(qX z hz y).mpr ⟨a,b⟩;rw[e]at this;cases this
  walk_at "d";refine⟨dj,_,_,by rw[Zn (eF y_ ui)];exact y_,qT ug hz hv,?_⟩;walk_at "d";refine⟨_,by rw[Zn (eF ir ui)];exact ir,kc (fun h=>?_) fun h=>?_⟩
  .have j6:zs≠[]:=fun e=>by rw[e]at h;cases h
   refine hy _ _ Zd ⟨K++[z],by rw[Ys];rfl,by rw[ht];exact hs.append (List.Sublist.refl _),fun z'=>?_,by rw[ZP]⟩;rw[ht,Yy,Yy,hK];constructor
   .rintro(h|h)
    .exact⟨.inl h.1,h.2⟩
    .rw[Yp]at h;subst h;exact⟨.inr (.head _),Pn.mp j6⟩
   .rintro⟨h|h,h2⟩
    .exact .inl ⟨h,h2⟩
    .exact .inr h
  .have j6:zs=[]:=by cases zs with|nil=>rfl|cons=>cases h
   refine hn _ ⟨K,rfl,by rw[ht];exact hs.trans (List.sublist_append_left _ _),fun z'=>?_,rfl⟩;rw[ht,Yy,hK];constructor
   .exact fun h=>⟨.inl h.1,h.2⟩
   .rintro⟨h|h,h2⟩
    .exact⟨h,h2⟩
    .rw[Yp]at h;subst h;exact absurd j6 (Pn.mpr h2)
 rintro ys A3 ⟨K,rfl,hs,hK,rfl⟩;rw[Yc,Y4]at hs hK;have e5:=((e2.trans eB).trans jN).trans (Ext.new ui (o:=.lst (K.map U.str)));refine vt (decide (K=L)) (fun B2 d8=>?_) ?_
 .walk_at "d";exact Cf (fun z hz=>aG z (v5 z (hs.subset hz))) (fun z hz=>aG z (v5 z hz)) Zd (by rw[Zn uj];exact cB) ⟨_,rfl,d8⟩
 by_cases uh:K=L
 .refine ZS (YA uh) ?_;subst uh;walk_at "d";obtain⟨z0,L0,Po⟩:∃z0 L0,K=z0::L0:=by
   cases K with
   | nil=>exact absurd rfl aR
   | cons a b=>exact⟨a,b,rfl⟩
  refine⟨_,_,by rw[Zn uj];exact cB,ZU (j:=0) (by rw[Po];rfl),?_⟩;refine⟨z0,d3,K,nG,dj,le,rfl,by rw[Zn (eF y_ ui)];exact y_,by rw[yZ,Yc],ug,Pm,fun k v hv=>?_,by rw[Po];exact .head _,fun B6 l6 c e6 Pp Hn hc Xz=>?_⟩
  .obtain⟨p,zs,h1,h2,h3⟩:=y9 k v hv;refine⟨p,zs,h1,Ext.new ui _ _ (jN _ _ h2),fun z hz=>?_⟩;obtain⟨_,y,hy,hle⟩:=(hK z).mp (Yk hz);have hm:=(h3 z hz y).mpr ⟨hy,hle⟩;cases zs with
   | nil=>cases hm
   | cons a t=>obtain⟨h4,h5⟩:=(h3 z hz a).mp (.head _);exact⟨a,t,rfl,h4,h5⟩
  .have e7:=e5.trans e6;exact⟨l6,_,rfl,Hn,fun l7 Pq=>qx c hc (fun z hz=>v5 z (Xz z hz)) _ l7 (e7.trans (Ext.new Pq)) (i7 e7 Pq) Zd⟩
 .refine Zw (Yu uh) ?_;walk_at "d";obtain⟨mT,uk⟩:=Xx Hl eV hK;exact⟨_,Nat.lt_of_le_of_ne hs.length_le fun e=>uh (hs.eq_of_length e),l5,K,_,_,mT,n+1,rfl,rfl,e5,Zd,ug.sublist hs,fun z hz=>v5 z (hs.subset hz),uk⟩
end
structure za (P:Program) (w:World) (C:Addr) (A:az) (b:Addr) (ps:List (Str×Addr)) (rs:List Rl):Prop where
 mk ::
 all : ∃(dx d1 d2 d3 d4:Addr)(e1 e2 e3 e4:Nat)(v3 v4:List U),A b=some (.ins C dx [("rule_by",.ref d1),("least_by",.ref d2),("leans_by",.ref d3),("speaks_by",.ref d4)])/\A d1=some (dS P w e1 (bW ps))/\A d2=some (dS P w e2 (yS ps rs))/\A d3=some (dS P w e3 ((ps.map (·.1)).zip v3))/\A d4=some (dS P w e4 ((ps.map (·.1)).zip v4)) /\
  v3.length=ps.length/\fD A v3 (G' (d9 ps rs) rs)/\v4.length=ps.length/\fD A v4 fun k zs=>∀z,(ps.map (·.1))[k]? = some z->Cb (fS ps rs) z zs
def za.ext(h:za P w C A b ps rs)(e:Ext A B):za P w C B b ps rs:=by
 obtain⟨dx,d1,d2,d3,d4,e1,e2,e3,e4,v3,v4,h0,h1,h2,h3,h4,h5,h6,h7,h8⟩:=h.all;exact⟨dx,d1,d2,d3,d4,e1,e2,e3,e4,v3,v4,e _ _ h0,e _ _ h1,e _ _ h2,e _ _ h3,e _ _ h4,h5,h6.ext e,h7,h8.ext e⟩
structure Zv5 (ps:List (Str×Addr)) (rs:List Rl):Prop where
 ok:∀z∈ps.map (·.1),PyData.strOk z=true
 hp:∀r∈rs,r.hp (d9 ps rs)=false
 rk:∃rk:Str->Nat,∀(k:Nat) z r,(ps.map (·.1))[k]? = some z->rs[k]? = some r->∀y∈r.lean (d9 ps rs),rk y<rk z
def leB(ps:List (Str×Addr))(rs:List Rl)(z y:Str):Prop:=∃(k:Nat)(r:Rl),(ps.map (·.1))[k]? = some z/\rs[k]? = some r/\y∈r.lean (d9 ps rs)
def Pr(P:Program)(w:World)(C DH DR:Addr)(cs:Nat->Addr):vJ:=fun us A Q X=>∃(x dx l:Addr)(A0:az)(ps:List (Str×Addr))(rs:List Rl),us=[.ref x,.ref l]/\A=af A0 x (.ins C dx [])/\A0 x=none/\A0 l=some (.lst (ps.map fun p=>.tup [.str p.1,.ref p.2]))/\je cs A0 ps rs/\(∀z∈ps.map (·.1),z.length<=8/\PyData.strOk z=true)/\((∀r∈rs,r.hp (d9 ps rs)=false)->(∃rk:Str->Nat,∀z∈ps.map (·.1),∀y,leB ps rs z y->rk y<rk z)->∀B,Ext A0 B->za P w C B x ps rs->Q .ay B)/\(∀(k:Nat) z r,(ps.map (·.1))[k]? = some z->rs[k]? = some r->r.hp (d9 ps rs)=true->(∀(j:Nat) r',j<k->rs[j]? = some r'->r'.hp (d9 ps rs)=false)->∀B,Ext A0 B->X DH [("name",.str z)] B)/\((∀r∈rs,r.hp (d9 ps rs)=false)->∀c,pM (leB ps rs) c->(∀z∈c,z∈ps.map (·.1))->∀B l,Ext A0 B->A0 l=none->B l=some (.lst (List.map U.str c))->X DR [("circle",.ref l)] B)
def fD.kp(h:fD A vs R)(e:∀p us,A p=some (.lst us)->B p=some (.lst us)):fD B vs R:=fun k v hv=>by
 obtain⟨p,zs,h1,h2,h3⟩:=h k v hv
 exact⟨p,zs,h1,e _ _ h2,h3⟩
def fD.ins(h:fD A vs R)(hx:A x=some (.ins C dx fs)):fD (af A x o) vs R:=h.kp fun p us hp=>by
 rw[Zn fun e=>by rw[e,hx]at hp;cases hp]
 exact hp
def qY{r:List (Str×U)}:List.lookup a ((a,u)::r)=some u:=List.lookup_cons_self
def Cj{r:List (Str×U)}(h:(b==a)=false)(k:List.lookup b r=o):List.lookup b ((a,u)::r)=o:=by rw[List.lookup_cons,h];exact k
def XA:dq "least_by" v [(("rule_by":Str),u)]=[(("rule_by":Str),u),(("least_by":Str),v)]:=nK (by simp;decide +kernel)
def XC:dq "leans_by" x [(("rule_by":Str),u),(("least_by":Str),v)]=[(("rule_by":Str),u),(("least_by":Str),v),(("leans_by":Str),x)]:=nK (by simp;decide +kernel)
def XD:dq "speaks_by" y [(("rule_by":Str),u),(("least_by":Str),v),(("leans_by":Str),x)]=[(("rule_by":Str),u),(("least_by":Str),v),(("leans_by":Str),x),(("speaks_by":Str),y)]:=nK (by simp;decide +kernel)
section
include T
def XG:T.pF.Ok (gL P w) 70 (sQ K (Pr P w aJ aw aD cS)):=by
 have Ho:=Xa T;have Hq:=Xd T;have Hr:=Xq T;have Hs:=Xg T;have Ht:=Xy T;have Hu:=Xj T;apply T.pF.yo;walk_at "f";exact fun S hr hE=>⟨_,(Zf (jo (pv 0) (T.tL.pc Ho hr (Za (pv 1) Zg)) rfl)
   (Zf (jo (pv 0) (T.tM.pc Hq hr (Za (dX (pv 0) rfl) Zg)) rfl)
   (Zf (Z1 (Nf vI Hr.mn hr (by rfl) T.mJ.m T.mJ.f.kp T.mJ.b (Za (dX (pv 0) rfl) (Za (dX (pv 0) rfl) Zg))))
   (Zf (jo (pv 0) (T.tN.pc Hs hr (Za (dX (pv 0) rfl) (Za (dX (pv 0) rfl) Zg))) rfl)
   (Zf (Z1 (Nf vI Ht.mn hr (by rfl) T.mK.m T.mK.f.kp T.mK.b (Za (dX (pv 0) rfl) Zg)))
   (Zh (jo (pv 0) (Bs (ts:=["name"]) (frs':=[("self",0)]) (cl:=_) rfl ⟨(by rfl),rfl,(by decide +kernel),(by decide +kernel),(ZD (by rfl) ZN),(j4 (by rfl) (by rfl)),(ZD ⟨(by rfl),(by first|exact .inl rfl|exact .inr rfl),(by first|exact .inl rfl|exact .inr rfl),(by rfl)⟩ ZN)⟩ (MI (dX (pv 0) rfl)) (fun _ _ _ _=>Zx (i:=0) (show List.Nodup (["name","self"]:List Str)from by decide +kernel) rfl (Or.inl rfl) (.inr rfl)) (fun _ _ _ _=>kQ) (fun _ _ _ _=>by exact(pv 0)) (fun _ _ _ _=>by exact(T.tQ.pc Hu hr (Za (pv 0) (Za (dX (pv 1) rfl) Zg))))) rfl))))))),(Zk (jy Zb (Zt (Zc Zb Ze)))
   (Zk (jy Zb (Zt (Zc (d0 Zb) Ze)))
   (Zk (Z5 (Ni hE (Zc (d0 Zb) (Zc (d0 Zb) Ze))))
   (Zk (jy Zb (Zt (Zc (d0 Zb) (Zc (d0 Zb) Ze))))
   (Zk (Z5 (Ni hE (Zc (d0 Zb) Ze)))
   (jy Zb (yg (ZZ MK (d0 Zb)) Zi kT Zb (Zt (Zc Zb (Zc (d0 Zb) Ze))))))))))⟩
 rintro us A Q X ⟨x,dx,l,A0,ps,rs,rfl,rfl,hx,hl,hB,h8,q,q2,q3⟩;walk_at "o";refine⟨l,ps,rs,rfl,Ext.new hx _ _ hl,hB.ext (Ext.new hx),fun B1 d1 gO e1 vW h1=>?_⟩;have sP:=e1 _ _ Zd;replace e1:Ext A0 B1:=(Ext.new hx).trans e1;have n1:d1≠x:=fun e=>by rw[e,Zd]at vW;cases vW
 walk_at "d";refine⟨x,_,dx,_,rfl,sP,T.br,T.aP,by decide,x,_,dx,_,_,rfl,Zd,T.br,T.aP,by rw[nP];exact qY,?_⟩;rw[nP];refine⟨d1,ps,rs,gO,rfl,by rw[Zn n1];exact h1,hB.ext (lx e1 hx),fun B2 d2 cn e2 hd2 h2=>?_⟩;have BG:=e2 _ _ Zd;replace h1:=e2 _ _ (show af B1 x _ d1=some (dS P w gO (bW ps)) by rw[Zn n1];exact h1);replace e2:Ext A0 B2:=(lx e1 hx).trans e2;have n2:d2≠x:=fun e=>by rw[e,Zd]at hd2;cases hd2
 clear vW hd2 sP e1;walk_at "d";refine⟨x,_,dx,_,rfl,BG,T.br,T.bu,by show(1:Nat)<1000;decide,?_⟩;rw[XA];have jO:af B2 x (.ins aJ dx [("rule_by",.ref d1),("least_by",.ref d2)]) x=some (.ins aJ dx [("rule_by",.ref d1),("least_by",.ref d2)]):=Zd;have e3:Ext A0 (af B2 x (.ins aJ dx [("rule_by",.ref d1),("least_by",.ref d2)])):=lx e2 hx;replace h1:af B2 x (.ins aJ dx [("rule_by",.ref d1),("least_by",.ref d2)]) d1=some (dS P w gO (bW ps)):=by rw[Zn n1];exact h1
 replace h2:af B2 x (.ins aJ dx [("rule_by",.ref d1),("least_by",.ref d2)]) d2=some (dS P w cn (yS ps rs)):=by rw[Zn n2];exact h2
 generalize af B2 x (.ins aJ dx [("rule_by",.ref d1),("least_by",.ref d2)])=B3 at jO e3 h1 h2 ⊢;clear BG e2;walk_at "d";refine⟨x,_,dx,_,_,rfl,jO,T.br,T.aP,qY,x,_,dx,_,_,rfl,jO,T.br,T.bu,Cj (by decide +kernel) qY,d1,d2,ps,rs,gO,cn,rfl,h1,h2,hB.ext e3,fun z hz=>(h8 z hz).1,fun um B4 e4=>?_,fun k z r g1 g2 g3 g4 B e=>q2 k z r g1 g2 g3 g4 B (e3.trans e)⟩;replace jO:=e4 _ _ jO;replace h1:=e4 _ _ h1;replace h2:=e4 _ _ h2;replace e3:=e3.trans e4;clear e4;walk_at "d";refine⟨x,_,dx,_,_,rfl,jO,T.br,T.aP,qY,x,_,dx,_,_,rfl,jO,T.br,T.bu,Cj (by decide +kernel) qY,d1,d2,ps,rs,gO,cn,rfl,h1,h2,hB.ext e3,fun B5 d3 dj v3 e5 mR h3 Hv uo=>?_⟩;replace jO:=e5 _ _ jO;replace h1:=e5 _ _ h1;replace h2:=e5 _ _ h2;replace e3:=e3.trans e5;have n3:d3≠x:=fun e=>by rw[e]at h3;rw[h3]at jO;cases jO
 clear e5 mR;walk_at "d";refine⟨x,_,dx,_,rfl,jO,T.br,T.b9,by show(2:Nat)<1000;decide,?_⟩;rw[XC];have uq:af B5 x (.ins aJ dx [("rule_by",.ref d1),("least_by",.ref d2),("leans_by",.ref d3)]) x=some (.ins aJ dx [("rule_by",.ref d1),("least_by",.ref d2),("leans_by",.ref d3)]):=Zd;have e6:Ext A0 (af B5 x (.ins aJ dx [("rule_by",.ref d1),("least_by",.ref d2),("leans_by",.ref d3)])):=lx e3 hx;replace h1:af B5 x (.ins aJ dx [("rule_by",.ref d1),("least_by",.ref d2),("leans_by",.ref d3)]) d1=some (dS P w gO (bW ps)):=by rw[Zn n1];exact h1
 replace h2:af B5 x (.ins aJ dx [("rule_by",.ref d1),("least_by",.ref d2),("leans_by",.ref d3)]) d2=some (dS P w cn (yS ps rs)):=by rw[Zn n2];exact h2
 replace h3:af B5 x (.ins aJ dx [("rule_by",.ref d1),("least_by",.ref d2),("leans_by",.ref d3)]) d3=some (dS P w dj ((ps.map (·.1)).zip v3)):=by rw[Zn n3];exact h3
 replace uo:=uo.ins jO (o:=.ins aJ dx [("rule_by",.ref d1),("least_by",.ref d2),("leans_by",.ref d3)]);generalize af B5 x (.ins aJ dx [("rule_by",.ref d1),("least_by",.ref d2),("leans_by",.ref d3)])=B6 at uq e6 h1 h2 h3 uo ⊢;clear jO e3;have bx:=hB.len;walk_at "d";refine⟨x,_,dx,_,_,rfl,uq,T.br,T.b9,Cj (by decide +kernel) (Cj (by decide +kernel) qY),d3,ps.map (·.1),v3,dj,leB ps rs,rfl,h3,by rw[Hv,Yc],hB.nd,by rw[Yc];exact bx,fun z hz=>(h8 z hz).2,fun k v hv=>?_,fun z hz y ⟨k,r,g1,g2,g3⟩=>(hB.sz r (Yk g2)).2.2 y (Rl.c_ g3),fun eV B7 e7=>?_,fun c hc lz B l e hl fR=>q3 um c hc lz B l (e6.trans e) (i7 e6 hl) fR⟩
 .obtain⟨p,zs,f1,f2,f3⟩:=uo k v hv;have hk:k<ps.length:=by rw[<- Hv];exact(Yh.mp hv).1
  obtain⟨r,hr,ho,g1,g2,g3⟩:=hB.get (Yg hk);have so:=f3 r hr;refine⟨p,zs,f1,f2,?_,fun z hz y=>?_⟩
  .have:=lh so.nd (m:=ps.map (·.1)) fun y hy=>g3 y (Rl.c_ ((so.mem y).mp hy));rw[Yc]at this;lia
  .rw[so.mem];constructor
   .exact fun h=>⟨k,r,hz,hr,h⟩
   .rintro⟨k',r',h1,h2,h3⟩;have:=jU hB.nd h1 hz;subst this;rw[hr]at h2;cases h2;exact h3
 replace uq:=e7 _ _ uq;replace h1:=e7 _ _ h1;replace h2:=e7 _ _ h2;replace h3:=e7 _ _ h3;replace e6:=e6.trans e7;replace uo:=uo.ext e7;clear e7;walk_at "d";refine⟨x,_,dx,_,_,rfl,uq,T.br,T.aP,qY,?_⟩;walk_at "d";refine⟨gO,_,h1,fun d4 XH=>?_⟩;walk_at "c";have hlen:((bW ps).map fK).length=(ps.map (·.1)).length:=by unfold bW;simp
 refine yC ((bW ps).map fK) (ps.map (·.1)) hlen.symm hB.nd (fun k v A2=>∃p zs,v=.ref p/\A2 p=some (.lst (List.map U.str zs))/\∀z,(ps.map (·.1))[k]? = some z->Cb (fS ps rs) z zs) (fun τ=>∃u,τ=[u,some (.ref x)]) ⟨_,rfl⟩ XH (by rw[hlen,Yc];lia) (fun k A2 _ e3=>⟨_,e3 _ _ h1,by simp[bW],rfl⟩) ?_ ?_ ?_
 .rintro k v A1 B h1 h2 ⟨p,zs,rfl,h3,h4⟩;refine⟨p,zs,rfl,h2 _ _ (fun e=>?_) h3,h4⟩;rcases h1 with h1|⟨ep,kus,h1⟩
  .rw[e,h1]at h3;cases h3
  .rw[e,h1]at h3;cases h3
 .rintro k u z τ A3 hu hz ⟨x1,rfl⟩ e8 Cy hC;obtain⟨p,hp,rfl⟩:=B' hu;have gK:=hz;rw[Yi,hp]at gK;cases gK;unfold fK;walk_at "d";refine⟨x,_,dx,_,_,rfl,e8 _ _ uq,T.br,T.aP,qY,p.1,d1,ps,rs,gO,rfl,Yk hz,e8 _ _ h1,hB.ext (e6.trans e8),fun B9 l9 zs e9 _ h9 iM=>hC _ _ B9 ⟨_,rfl⟩ e9 ⟨l9,zs,rfl,h9,fun z gK=>?_⟩⟩;rw[hz]at gK;cases gK;exact iM
 intro B8 v4 pN e8 kA XI XJ;have zb:af B8 d4 (dS P w pN ((ps.map (·.1)).zip v4)) x=some (.ins aJ dx [("rule_by",.ref d1),("least_by",.ref d2),("leans_by",.ref d3)]):=Ext.new kA _ _ (e8 _ _ uq);have h4:af B8 d4 (dS P w pN ((ps.map (·.1)).zip v4)) d4=some (dS P w pN ((ps.map (·.1)).zip v4)):=Zd;have e9:=e8.trans (Ext.new kA (o:=dS P w pN ((ps.map (·.1)).zip v4)));have zc:fD (af B8 d4 (dS P w pN ((ps.map (·.1)).zip v4))) v4 fun k zs=>∀z,(ps.map (·.1))[k]? = some z->Cb (fS ps rs) z zs:=fD.ext (fun k v hv=>XJ k v hv) (Ext.new kA);generalize af B8 d4 (dS P w pN ((ps.map (·.1)).zip v4))=B9 at zb h4 e9 zc ⊢;have n4:d4≠x:=fun e=>by rw[e,zb]at h4;cases h4
 refine⟨x,_,dx,_,rfl,zb,T.br,T.dA,by show(3:Nat)<1000;decide,?_⟩;rw[XD];refine fg (q um eV _ (lx (e6.trans e9) hx) ⟨dx,d1,d2,d3,d4,gO,cn,dj,pN,v3,v4,Zd,by rw[Zn n1];exact e9 _ _ h1,by rw[Zn n2];exact e9 _ _ h2,by rw[Zn n3];exact e9 _ _ h3,by rw[Zn n4];exact h4,Hv,(uo.ext e9).ins zb,by rw[XI,hlen,Yc],zc.ins zb⟩)
end
def qZ:∀r:Rl,r.dep<=r.size:=by
 intro r;induction r with
 | nothing=>exact Yj _
 | bead c=>exact Yj _
 | named c=>exact Yj _
 | or x y i j=>simp only[Rl.dep,Rl.size];have:=x.eG;have:=y.eG;lia
 | a7 x y i j=>simp only[Rl.dep,Rl.size];have:=x.eG;have:=y.eG;lia
 | hold k x i=>simp only[Rl.dep,Rl.size];lia
def Hw(xs:List α)(k:Nat):dN xs none (some (k:Int))=xs.take k:=by
 unfold dN;rw[show HT.aO xs.length xs.length (some (k:Int))=min k xs.length from HT.cz xs.length xs.length k,show HT.aO xs.length 0 none=0 from rfl,zT,Nat.sub_zero];by_cases h:k<=xs.length
 .rw[rA h]
 .rw[Nat.min_eq_right (by lia),Y4,nV (by lia)]
def XM:∀ {ys:List U},(∀(k:Nat) y,ys[k]? = some y->∃z:Int,y=.int z)->∃ms:List Int,ys=ms.map U.int
 | [],_=>⟨[],rfl⟩
 | y :: ys,h=>by
  obtain⟨z,rfl⟩:=h 0 y rfl
  obtain⟨ms,rfl⟩:=XM (ys:=ys) fun k y hy=>h (k+1) y hy
  exact⟨z::ms,rfl⟩
def Pt:∀ {ns:List Str} {rs:List Rl} {ys:List U},ys.length=ns.length->rs.length=ns.length->(∀(k:Nat) y,ys[k]? = some y->∃b z r,ns[k]? = some z/\rs[k]? = some r/\y=.tup [.str z,.ref b]/\b4 cs B b r)->∃ps:List (Str×Addr),ys=ps.map (fun p=>.tup [.str p.1,.ref p.2])/\ps.map (·.1)=ns/\iO cs B (ps.map (·.2)) rs
 | [],[],[],_,_,_=>⟨[],rfl,rfl,trivial⟩
 | n :: ns,r::rs,y::ys,h1,h2,h=>by
  obtain⟨b,z,r',e1,e2,rfl,ho⟩:=h 0 y rfl
  cases e1
  cases e2
  obtain⟨ps,p1,p2,p3⟩:=Pt (ns:=ns) (rs:=rs) (ys:=ys) (by simpa using h1) (by simpa using h2) fun k y hy=>h (k+1) y hy
  exact⟨(n,b)::ps,by rw[p1];rfl,by rw[Yr,p2],ho,p3⟩
def Ck{ns:List Str}{rs:List Rl}{k:Nat}{u:U}(h:((ns.zip (rs.map Rl.toU)).map f)[k]? = some u):∃z r,ns[k]? = some z/\rs[k]? = some r/\u=f (z,r.toU):=by
 rw[Yi]at h;obtain⟨p,hp,rfl⟩:=YO.mp h;obtain⟨h1,h2⟩:=List.getElem?_zip_eq_some.mp hp;rw[Yi]at h2;obtain⟨r,hr,e⟩:=YO.mp h2;exact⟨p.1,r,h1,hr,by rw[e]⟩
def DE(kus:List (Str×U))(e:Str->On):Prop:=∀z,kus.lookup z=(e z).map fun n=>U.int n
def Pu(P:Program)(w:World)(n:Nat):bQ:=fun us A Q=>∃(r:Rl)(d:Addr)(ep:Nat)(kus:List (Str×U))(e:Str->On),us=[r.toU,.ref d]/\r.dep<=n/\A d=some (dS P w ep kus)/\DE kus e/\Q (oU (r.lst e)) A
def XN:∀us A Q,¬Pu P w 0 us A Q:=fun us A Q aF=>by obtain⟨r,_,_,_,_,_,h,_⟩:=aF;have:=r.bB;lia
def DE.get(h:DE kus e)(z:Str):(kus.lookup z).getD .ay=oU (e z):=by
 rw[h z];cases e z<;>rfl
def Mc:dD (.str (cA k)) [.str "nothing",.str "row",.str "bag",.str "choice"]=decide (k<3):=by
 rcases k with _|_|_|k
 .decide +kernel
 .decide +kernel
 .decide +kernel
 .rw[Yu (by lia),show cA (k+1+1+1)=cA 3 from rfl];decide +kernel
section
include T
def Hx(n:Nat):T.fw.Ok aQ (n+1) (a6 K (Pu P w n)):=by
 induction n with
 | zero=>exact oZ T.fw.f T.fw.s XN
 | succ n gz =>
  apply T.fw.bF;walk_at "f";exact fun S hr=>⟨_,(Zf (ZT (Zo u5 (ZH aT (pv 0) Zl (fun _ _=>rfl)) (ZJ (qm (xs:=["nothing","row","bag","choice"]) rfl)) (by with_unfolding_all rfl)) (Zh (Zu Zl)) Zz)
   (Zf (ZT (Zo (cN hr) (ZH aT (pv 0) Zl (fun _ _=>rfl)) Zr (ZF _)) (Zh (Zu Zl)) Zz)
   (Zf (ZT (Zo (cN hr) (ZH aT (pv 0) Zl (fun _ _=>rfl)) Zr (ZF _)) (Zh (Zu (MB (pv 1) (Za (ZH aT (pv 0) Zl (fun _ _=>rfl)) Zg)))) Zz)
   (Zf (ZB (i:=2) S.nd rfl (Or.inl rfl) (T.fw.pc gz hr (Za (ZH aT (pv 0) Zl (fun _ _=>rfl)) (Za (pv 1) Zg))))
   (Zf (ZT (Zo (cN hr) (ZH aT (pv 0) Zl (fun _ _=>rfl)) Zr (ZF _)) (Zh (Zu (pv 2))) Zz)
   (Zf (ZB (i:=3) S.nd rfl (Or.inl rfl) (T.fw.pc gz hr (Za (ZH aT (pv 0) Zl (fun _ _=>rfl)) (Za (pv 1) Zg))))
   (Zf (ZT (Zo (cN hr) (ZH aT (pv 0) Zl (fun _ _=>rfl)) Zr (ZF _)) (Zh (Zu (Np K rfl rfl (by rfl) T.mQ (ni (ts:=["_law_many"]) (frs':=[]) (cl:=[]) rfl ⟨rfl,rfl,(by decide +kernel),(by decide +kernel),(fun _ z=>nomatch z),(xj rfl rfl),(fun _ z=>nomatch z)⟩ (dZ (ZJ (Za (pv 2) (Za (pv 3) Zg)))) (fun _ _ _ _=>Zx (i:=0) D2 rfl (Or.inl rfl) (.inr rfl)) (fun _ _ _ _=>(uY (Zo Dm (pv 0) n_ (ZF _)))) (fun _ _ _ _=>by exact(pv 0)))))) Zz)
   (Zf (ZT ((uN (Zo JA (pv 2) n_ (ZF _)) (wF (Zo JA (pv 3) n_ (ZF _))))).pt (Zh (Zu n_)) Zz)
   (Zh (Zu (ZO f_ (pv 2) (pv 3)))))))))))),(Zk (dY (Zp (Zj vk (Zj ZK Zb Zm) (ZI sA))) (Zv Zm) ZA)
   (Zk (dY (Zp (Zj cK (Zj ZK Zb Zm) Zy)) (Zv Zm) ZA)
   (Zk (dY (Zp (Zj cK (Zj ZK Zb Zm) Zy)) (Zv (MT Zb (Zc (Zj ZK Zb Zm) Ze))) ZA)
   (Zk (Zq (Zt (Zc (Zj ZK Zb Zm) (Zc Zb Ze))) Zi)
   (Zk (dY (Zp (Zj cK (Zj ZK Zb Zm) Zy)) (Zv Zb) ZA)
   (Zk (Zq (Zt (Zc (Zj ZK Zb Zm) (Zc Zb Ze))) Zi)
   (Zk (dY (Zp (Zj cK (Zj ZK Zb Zm) Zy)) (Zv (Nr (j_ (ZZ Z2 (ZI (Zc Zb (Zc Zb Ze)))) Zi (Zp (Zj EL Zb oQ)) Zb))) ZA)
   (Zk (dY (vb (Zp (Zj Lk Zb oQ)) (Zp (Zj Lk Zb oQ))) (Zv oQ) ZA)
   (Zv (Zj gb Zb Zb))))))))))⟩
  rintro us A Q ⟨r,d,ep,kus,e,rfl,hd,hA,hE,q⟩;refine⟨rfl,?_⟩;walk_at "s";cases r with
  | nothing =>
   unfold Rl.toU;walk_at "g";exact⟨d6,rfl,rfl,ZS (by decide +kernel) (fg q)⟩
  | bead z =>
   unfold Rl.toU;walk_at "g";exact⟨d6,rfl,rfl,Zw (by decide +kernel) (ZS rfl (fg q))⟩
  | named z =>
   unfold Rl.toU;walk_at "g";refine⟨d6,rfl,rfl,Zw (by decide +kernel) (Zw (by decide +kernel) (ZS rfl ⟨d,ep,kus,rfl,hA,⟨z,.ay,ep,kus,rfl,hA,?_⟩⟩))⟩;rw[hE.get];exact fg q
  | or x y =>
   unfold Rl.toU;walk_at "g";simp only[Rl.dep]at hd;refine⟨d6,rfl,rfl,Zw (by decide +kernel) (Zw (by decide +kernel) (Zw (by decide +kernel) ⟨x,d,ep,kus,e,rfl,by lia,hA,hE,Zw (by decide +kernel) ⟨y,d,ep,kus,e,rfl,by lia,hA,hE,ZS rfl ⟨ck,fun l hl=>?_⟩⟩⟩))⟩;walk_at "c";exact OE hl (fun k A2 _ _=>rfl) fun B eB=>vo eB q
  | a7 x y =>
   unfold Rl.toU;walk_at "g";simp only[Rl.dep]at hd;refine⟨d6,rfl,rfl,Zw (by decide +kernel) (Zw (by decide +kernel) (Zw (by decide +kernel) ⟨x,d,ep,kus,e,rfl,by lia,hA,hE,Zw (by decide +kernel) ⟨y,d,ep,kus,e,rfl,by lia,hA,hE,Zw (by decide +kernel) ?_⟩⟩))⟩;simp only[Rl.lst]at q;cases hx:x.lst e with
   | none=>rw[hx]at q;exact ZS rfl (by rw[if_pos trivial];exact fg q)
   | some a =>
    rw[hx]at q;cases hy:y.lst e with
    | none=>rw[hy]at q;exact Zw rfl (ZS rfl (fg q))
    | some b=>rw[hy]at q;exact Zw rfl (Zw rfl (fg q))
  | hold k x =>
   unfold Rl.toU;walk_at "g";simp only[Rl.dep]at hd;have hk:∀z∈(["nothing","bead","name","or","by"]:List Str),decide (cA k=z)=false:=fun z hz=>Yu (xY k hz);refine⟨d6,rfl,rfl,?_⟩;rw[Mc];by_cases h3:k<3
   .refine ZS (YA h3) (fg ?_);simp only[Rl.lst,h3,if_true]at q;exact q
   .refine Zw (Yu h3) (Zw (hk _ (by decide +kernel)) (Zw (hk _ (by decide +kernel)) ⟨x,d,ep,kus,e,rfl,by lia,hA,hE,?_⟩));simp only[Rl.lst,h3,fj]at q;rw[show cA k=cA 3 from by rw[<- Tw k,Nat.min_eq_right (by lia)]];exact ZS (by decide +kernel) (fg q)
end
def Pw:∀ {kus:List (Str×U)},(dq k u kus).lookup z=if z=k then some u else kus.lookup z
 | []=>by
  show List.lookup z [(k,u)]=_
  rw[List.lookup_cons]
  by_cases e:z=k
  .rw[beq_iff_eq.mpr e,if_pos e]
  .rw[Yw.mpr e,if_neg e]
 | (a, b)::r=>by
  show List.lookup z (if a=k then(a,u)::r else(a,b)::dq k u r)=_
  by_cases h:a=k
  .rw[if_pos h,List.lookup_cons,List.lookup_cons,h]
   by_cases e:z=k
   .rw[beq_iff_eq.mpr e,if_pos e]
   .rw[Yw.mpr e,if_neg e]
  .rw[if_neg h,List.lookup_cons,List.lookup_cons,Pw]
   by_cases e:z=a
   .rw[beq_iff_eq.mpr e]
    exact(if_neg (fun e'=>h (e.symm.trans e'))).symm
   .rw[Yw.mpr e]
def Px:∀ {kus:List (Str×U)},k∈kus.map (·.1)->(dq k u kus).map (·.1)=kus.map (·.1)
 | (a,b)::r,h=>by
  show(if a=k then(a,u)::r else(a,b)::dq k u r).map (·.1)=_
  by_cases e:a=k
  .rw[if_pos e];rfl
  .rw[if_neg e,Yr,Px ((Yo.mp h).resolve_left (Ne.symm e))];rfl
def XQ{ns:List Str}(h:(kus.map (·.1)).Nodup)(hs:∀z∈kus.map (·.1),z∈ns)(hk:k∈ns):((dq k u kus).map (·.1)).Nodup/\∀z∈(dq k u kus).map (·.1),z∈ns:=by
 by_cases e:k∈kus.map (·.1)
 .rw[Px e];exact⟨h,hs⟩
 .rw[nK e,Ys];refine⟨List.nodup_append.mpr ⟨h,by simp,fun a ha b hb q=>e (by rw[show k=a from(q.trans (Yp.mp hb)).symm];exact ha)⟩,fun z hz=>?_⟩;rcases Yy.mp hz with hz|hz
  .exact hs z hz
  .rw[show z=k from Yp.mp hz];exact hk
def lA(e:Str->On)(z:Str)(v:On):Str->On:=fun y=>if y=z then mB v (e z)else e y
def XR:lA e z none=e:=by
 funext y;unfold lA;split
 .rename_i h;rw[h];rfl
 .rfl
def DE.put(h:DE kus e)(z:Str)(f:Nat):DE (dq z (.int (min (f:Int) (((e z).getD f:Nat):Int))) kus) (lA e z (some f)):=fun y=>by
 rw[Pw]
 unfold lA
 split
 .cases e z with
  | none =>
   show some (U.int (min (f:Int) (f:Int)))=some (U.int (f:Int))
   rw[Int.min_self]
  | some b=>show some (U.int (min (f:Int) (b:Int)))=some (U.int ((min f b:Nat):Int));congr 2;lia
 .exact h y
structure zd (F:Str->Option Rl) (V:Str->On) (t:Nat) (e:Str->On):Prop where
 lo:∀z,du (V z) (e z)
 hi:∀z,du (e z) (lv F t z)
def zd.up{V:Str->On}(h:zd F V t e)(hz:F z=some r)(hV:r.lst V=V z):zd F V t (lA e z (r.lst e))/\du (lA e z (r.lst e) z) (lv F (t+1) z)/\∀y,du (lA e z (r.lst e) y) (e y):=by
 have hd:∀y,du (lA e z (r.lst e) y) (e y):=fun y=>by
  unfold lA;split
  .rename_i h;rw[h];exact Gq _ _
  .exact sV _
 refine⟨⟨fun y=>?_,fun y=>vO (hd y) (h.hi y)⟩,?_,hd⟩
 .unfold lA;split
  .rename_i h';rw[h'];exact Oo (by rw[<- hV];exact r.cu h.lo) (h.lo z)
  .exact h.lo y
 .unfold lA;rw[if_pos rfl];refine vO (Gp _ _) ?_;simp only[lv,hz];exact r.cu h.hi
def iF(ns:List Str)(rs:List Rl)(z:Str):Option Rl:=(ns.zip rs).lookup z
def XS(h:iF ns rs z=some r):z∈ns:=by
 obtain⟨k,h1,_⟩:=vV h;exact Yk h1
def XU(P:Program)(w:World):bQ:=fun us A Q=>∃(d:Addr)(ns:List Str)(rs:List Rl)(ep:Nat),us=[.ref d]/\A d=some (dS P w ep (ns.zip (rs.map Rl.toU)))/\rs.length=ns.length/\ns.length<=60/\ns.Nodup/\(∀r∈rs,r.size<=60)/\∀d' aI kus,A d'=none->DE kus (lV (iF ns rs) ns.length)->Q (.ref d') (af A d' (dS P w aI kus))
section
include T
def Py : T.pH.Ok aQ 65 (a6 K (XU P w)):=by
 have gz:=Hx T 60;apply T.pH.bF;walk_at "f";exact fun S hr=>⟨_,(Zf (ZB (i:=1) S.nd rfl (Or.inl rfl) vz)
   (Zf (ee YF rfl (u6 rfl T.cD (Za (ZO f_ (b8 Fm T.bz (Za (pv 0) Zg)) Zl) Zg)) (Zx (i:=2) S.nd rfl (Or.inl rfl))
   (Zh (ee YF rfl (vA (pv 0)) (oj (n:=2) rfl (ZL (Zx (i:=3) S.nd rfl (Or.inl rfl)) (ZL (Zx (i:=4) S.nd rfl (Or.inl rfl)) jV)))
   (Zf (ZB (i:=5) S.nd rfl (Or.inl rfl) (T.fw.pc gz hr (Za (pv 4) (Za (pv 1) Zg))))
   (Zh (ZT (Zo Dm (pv 5) n_ (ZF _)) (Zh (uQ (b8 (Sf rfl) T.mQ (Za (pv 5) (Za (MB (pv 1) (Za (pv 3) (Za (pv 5) Zg))) Zg))) (uP (pv 1) (pv 3) x_))) Zz))))))
   (Zh (Zu (pv 1))))),(Zk (Zq vy Zi)
   (Zk (eu (vf (Zc (Zj gb (Z6 Fp (Zc Zb Ze)) Zm) Ze)) Zi
   (eu (ZZ vB Zb) (j9 (ZM Zi (ZM Zi j8)))
   (Zk (Zq (Zt (Zc Zb (Zc Zb Ze))) Zi)
   (Z0 (Zp (Zj EL Zb oQ)) (Zq (Z6 S2 (Zc Zb (Zc (MT Zb (Zc Zb (Zc Zb Ze))) Ze))) (yb Zb Zb)) ZA))))
   (Zv Zb)))⟩
 rintro us A Q ⟨d,ns,rs,ep,rfl,hA,df,XW,di,hsz,q⟩;walk_at "o";intro d' gB;have XX:d≠d':=eF hA gB;have hlen:(ns.zip (rs.map Rl.toU)).length=ns.length:=by rw[List.length_zip,Yc];lia
 have hF:∀z r,iF ns rs z=some r->z∈ns:=fun z r h=>XS h;walk_at "d";refine⟨ep,_,Ext.new gB _ _ hA,?_⟩;rw[hlen];walk_at "d";refine⟨by lia,by lia,?_⟩;rw[show((ns.length:Int)+1).toNat=ns.length+1 by lia];refine xM (n:=ns.length+1) (fun t ρ A2=>∃(aI:Nat)(kus:List (Str×U))(e:Str->On)(x2 x3 x4 x5:Option U),ρ=[some (.ref d),some (.ref d'),x2,x3,x4,x5]/\A2=af A d' (dS P w aI kus)/\DE kus e/\(kus.map (·.1)).Nodup/\(∀z∈kus.map (·.1),z∈ns)/\zd (iF ns rs) (lV (iF ns rs) ns.length) t e) ⟨0,[],fun _=>none,_,_,_,_,rfl,rfl,fun z=>rfl,List.nodup_nil,fun z h=>(nomatch h),fun z=>Gn _,fun z=>sV _⟩ ?_ ?_
 .rintro t ρ A2 ht ⟨aI,kus,e,x2,x3,x4,x5,rfl,rfl,hE,nR,iE,hI⟩;walk_at "d";refine⟨ep,_,Ext.new gB _ _ hA,?_⟩;refine vC (ns.zip (rs.map Rl.toU)) (fun j ρ A2=>∃(aI:Nat)(kus:List (Str×U))(e:Str->On)(x2 x3 x4 x5:Option U),ρ=[some (.ref d),some (.ref d'),x2,x3,x4,x5]/\A2=af A d' (dS P w aI kus)/\DE kus e/\(kus.map (·.1)).Nodup/\(∀z∈kus.map (·.1),z∈ns)/\zd (iF ns rs) (lV (iF ns rs) ns.length) t e/\∀i z,i<j->ns[i]? = some z->du (e z) (lv (iF ns rs) (t+1) z)) ⟨aI,kus,e,_,_,_,_,rfl,rfl,hE,nR,iE,hI,fun i z h=>absurd h (CS i)⟩ (fun j ρ A2 _ aF=>by obtain⟨_,_,_,_,_,_,_,_,e,_⟩:=aF;rw[e,Zn XX];exact hA) ?_ ?_
  .rintro j p ρ A2 hp ⟨aI,kus,e,x2,x3,x4,x5,rfl,rfl,hE,nR,iE,hI,hj⟩;obtain⟨z,r,hz,hr,e1⟩:=Ck (f:=fI) (by rw[Yi,hp];rfl);rw[e1];have bO:=hsz r (Yk hr);have w6:=qZ r;have qX:iF ns rs z=some r:=qT di hz hr;obtain⟨i1,i2,i3⟩:=hI.up qX (V2 hF qX);have nj:∀i y,i<j+1->ns[i]? = some y->du (lA e z (r.lst e) y) (lv (iF ns rs) (t+1) y):=fun i y hi hy=>by
    by_cases h:i<j
    .exact vO (i3 y) (hj i y h hy)
    .obtain rfl:i=j:=by lia
     rw[hz]at hy;cases hy;exact i2
   have jM:kus.length<=ns.length:=by
    have:=lh nR iE;rwa [Yc]at this
   unfold fI;walk_at "d";refine⟨rfl,r,d',aI,kus,e,rfl,by lia,Zd,hE,?_⟩;cases hf:r.lst e with
   | none =>
    rw[hf,XR]at i1 nj;refine iZ (fun B hB=>?_) ?_
    .walk_at "d";exact hB
    walk_at "d";exact⟨aI,kus,e,_,_,_,_,rfl,rfl,hE,nR,iE,i1,nj⟩
   | some f =>
    rw[hf]at i1 nj;refine mm (fun B hB=>?_) ?_
    .walk_at "d";exact hB
    obtain⟨n1,n2⟩:=XQ (u:=.int (min (f:Int) (((e z).getD f:Nat):Int))) nR iE (hF z r qX);walk_at "d";refine⟨d',aI,kus,rfl,Zd,z,_,aI,kus,rfl,Zd,?_⟩;rw[show(kus.lookup z).getD (oU (some f))=.int (((e z).getD f:Nat):Int)from by rw[hE z];cases e z<;>rfl];show xJ [.int (f:Int),.int (((e z).getD f:Nat):Int)] _ _;walk_at "d";exact⟨d',z,aI,kus,rfl,rfl,Zd,by rw[gA];lia,fun dj=>⟨dj,_,_,_,_,_,_,rfl,by rw[ZP],hE.put z f,n1,n2,i1,nj⟩⟩
  .rintro ρ A2 ⟨aI,kus,e,x2,x3,x4,x5,rfl,rfl,hE,nR,iE,hI,hj⟩;rw[hlen]at hj;walk_at "d";refine⟨aI,kus,e,_,_,_,_,rfl,rfl,hE,nR,iE,hI.lo,fun z=>?_⟩;by_cases hz:z∈ns
   .obtain⟨i,hi⟩:=List.getElem?_of_mem hz;exact hj i z (Yh.mp hi).1 hi
   .cases h:iF ns rs z with
    | none=>simp only[lv,h];exact Gn _
    | some r=>exact absurd (hF z r h) hz
 rintro ρ A2 ⟨aI,kus,e,x2,x3,x4,x5,rfl,rfl,hE,nR,iE,hI⟩;have:e=lV (iF ns rs) ns.length:=funext fun z=>BP (by have:=hI.hi z;rwa [Gr (iF ns rs) hF z]at this) (hI.lo z);rw[this]at hE;walk_at "d";exact fg (q d' aI kus gB hE)
end
def Pz(P:Program)(w:World)(n:Nat):bQ:=fun us A Q=>∃(r:Rl)(d:Addr)(ep:Nat)(kus:List (Str×U))(e:Str->On),us=[r.toU,.ref d]/\r.dep<=n/\r.size<=60/\A d=some (dS P w ep kus)/\DE kus e/\∀B l,Ext A B->A l=none->B l=some (.lst ((r.lean e).map U.str))->Q (.ref l) B
def XY:∀us A Q,¬Pz P w 0 us A Q:=fun us A Q aF=>by obtain⟨r,_,_,_,_,_,h,_⟩:=aF;have:=r.bB;lia
def XZ:dD (.str (cA k)) [.str "nothing",.str "bead"]=false:=by
 rcases k with _|_|_|k
 .decide +kernel
 .decide +kernel
 .decide +kernel
 .rw[show cA (k+1+1+1)=cA 3 from rfl];decide +kernel
section
include T
def PB(n:Nat):T.ix.Ok aQ (n+2) (a6 K (Pz P w n)):=by
 induction n with
 | zero=>exact oZ T.ix.f T.ix.s XY
 | succ n kC =>
  have gz:=Hx T (n+1);apply T.ix.bF;walk_at "f";exact fun S hr=>⟨_,(Zf (ZT (Zo (cN hr) (ZH aT (pv 0) Zl (fun _ _=>rfl)) Zr (ZF _)) (Zh (Zu (ZW (Za (ZH aT (pv 0) Zl (fun _ _=>rfl)) Zg)))) Zz)
   (Zf (ZT (Zo u5 (ZH aT (pv 0) Zl (fun _ _=>rfl)) (ZJ (Za Zr (Za Zr Zg))) (by with_unfolding_all rfl)) (Zh (Zu (ZW Zg))) Zz)
   (Zf (ZB (i:=2) S.nd rfl (Or.inl rfl) (ZW Zg))
   (Zf (ZT ((uN (Zo (u7 hr) (ZH aT (pv 0) Zl (fun _ _=>rfl)) Zr (ZF _)) (wF (Zo yE (T.fw.pc gz hr (Za (ZH aT (pv 0) Zl (fun _ _=>rfl)) (Za (pv 1) Zg))) Zl (ZF _))))).pt (Zh (ZB (i:=2) S.nd rfl (Or.inl rfl) (T.ix.pc kC hr (Za (ZH aT (pv 0) Zl (fun _ _=>rfl)) (Za (pv 1) Zg))))) Zz)
   (Zf (ZT ((uN (Zo (cN hr) (ZH aT (pv 0) Zl (fun _ _=>rfl)) Zr (ZF _)) (wF ((oh (Zo (cN hr) (ZH aT (pv 0) Zl (fun _ _=>rfl)) Zr (ZF _)) (qf (Zo yE (T.fw.pc gz hr (Za (ZH aT (pv 0) Zl (fun _ _=>rfl)) (Za (pv 1) Zg))) Zl (ZF _))))).pt))).pt (Zh (ZB (i:=2) S.nd rfl (Or.inl rfl) (ZO f_ (pv 2) (T.ix.pc kC hr (Za (ZH aT (pv 0) Zl (fun _ _=>rfl)) (Za (pv 1) Zg)))))) Zz)
   (Zh (Zu (pv 2)))))))),(Zk (dY (Zp (Zj cK (Zj ZK Zb Zm) Zy)) (Zv (ZV (Zc (Zj ZK Zb Zm) Ze))) ZA)
   (Zk (dY (Zp (Zj vk (Zj ZK Zb Zm) (ZI (Zc Zy (Zc Zy Ze))))) (Zv (ZV Ze)) ZA)
   (Zk (Zq (ZV Ze) Zi)
   (Zk (dY (vb (Zp (Zj vh (Zj ZK Zb Zm) Zy)) (Zp (Zj yF (Zt (Zc (Zj ZK Zb Zm) (Zc Zb Ze))) Zm))) (Zq (Zt (Zc (Zj ZK Zb Zm) (Zc Zb Ze))) Zi) ZA)
   (Zk (dY (vb (Zp (Zj cK (Zj ZK Zb Zm) Zy)) (oR (Zp (Zj cK (Zj ZK Zb Zm) Zy)) (Zp (Zj yF (Zt (Zc (Zj ZK Zb Zm) (Zc Zb Ze))) Zm)))) (Zq (Zj gb Zb (Zt (Zc (Zj ZK Zb Zm) (Zc Zb Ze)))) Zi) ZA)
   (Zv Zb))))))⟩
  rintro us A Q ⟨r,d,ep,kus,e,rfl,hd,hs,hA,hE,q⟩;refine⟨rfl,?_⟩;walk_at "s";cases r with
  | nothing =>
   unfold Rl.toU;walk_at "g";refine Zw (by decide +kernel) ⟨ck,rfl,rfl,ZS (by decide +kernel) ⟨by decide,fun l hl=>fg (q _ l (Ext.new hl) hl Zd)⟩⟩
  | bead c =>
   unfold Rl.toU;walk_at "g";refine Zw (by decide +kernel) ⟨ck,rfl,rfl,ZS (by decide +kernel) ⟨by decide,fun l hl=>fg (q _ l (Ext.new hl) hl Zd)⟩⟩
  | named c =>
   unfold Rl.toU;walk_at "g";refine ZS rfl ⟨by show 1<=sizeLine;decide,fun l hl=>fg (q _ l (Ext.new hl) hl Zd)⟩
  | or x y =>
   unfold Rl.toU;walk_at "g";simp only[Rl.dep,Rl.size]at hd hs;refine Zw (by decide +kernel) ⟨ck,rfl,rfl,Zw (by decide +kernel) ⟨by decide,fun p hp=>ZS (by decide +kernel) (gH trivial ⟨x,d,ep,kus,e,rfl,by lia,by lia,Ext.new hp _ _ hA,hE,fun B1 l1 e1 cB jf=>?_⟩)⟩⟩;replace e1:=(Ext.new hp).trans e1;refine ZS rfl (gH trivial ⟨y,d,ep,kus,e,rfl,by lia,by lia,e1 _ _ hA,hE,fun B2 l2 e2 cZ d8=>?_⟩);have h1:=x.bh (e:=e);have h2:=y.bh (e:=e);walk_at "d";refine⟨_,_,e2 _ _ jf,d8,by rw[Yc,Yc,gA];lia,fun l hl=>fg (q _ l ((e1.trans e2).trans (Ext.new hl)) (i7 (e1.trans e2) hl) ?_)⟩;rw[Zd,<- Ys];rfl
  | a7 x y =>
   unfold Rl.toU;walk_at "g";simp only[Rl.dep,Rl.size]at hd hs;simp only[Rl.lean]at q;have h1:=x.bh (e:=e);have h2:=y.bh (e:=e);refine Zw (by decide +kernel) ⟨ck,rfl,rfl,Zw (by decide +kernel) ⟨by decide,fun p hp=>Zw (by decide +kernel) ⟨y,d,ep,kus,e,rfl,by lia,Ext.new hp _ _ hA,hE,sW ⟨_,rfl,?_⟩⟩⟩⟩;by_cases hy:y.lst e=some 0
   .refine ZS (YA hy) ⟨x,d,ep,kus,e,rfl,by lia,by lia,Ext.new hp _ _ hA,hE,fun B1 l1 e1 cB jf=>?_⟩;replace cB:=i7 (Ext.new hp) cB;replace e1:=(Ext.new hp).trans e1;rw[if_pos hy]at q;refine Zw (by decide +kernel) (ZS (by decide) ⟨x,d,ep,kus,e,rfl,by lia,e1 _ _ hA,hE,sW ⟨_,rfl,?_⟩⟩);by_cases hx:x.lst e=some 0
    .refine ZS (YA hx) ⟨y,d,ep,kus,e,rfl,by lia,by lia,e1 _ _ hA,hE,fun B2 l2 e2 cZ d8=>?_⟩;walk_at "d";refine⟨_,_,e2 _ _ jf,d8,by rw[Yc,Yc,gA];lia,fun l hl=>fg (q _ l ((e1.trans e2).trans (Ext.new hl)) (i7 (e1.trans e2) hl) ?_)⟩;rw[Zd,<- Ys,if_pos hx]
    .refine Zw (Yu hx) (fg (q _ l1 e1 cB ?_));rw[jf,if_neg hx,YW]
   .refine Zw (Yu hy) ?_;rw[if_neg hy]at q;have e1:=Ext.new hp (o:=.lst []);have jf:af A p (.lst []) p=some (.lst (([]:List Str).map U.str)):=Zd;have cB:=hp;have h1:([]:List Str).length<=x.size:=Y0 _;generalize af A p (.lst [])=B1 at e1 jf ⊢;generalize X0:p=l1 at cB jf ⊢;refine Zw (by decide +kernel) (ZS (by decide) ⟨x,d,ep,kus,e,rfl,by lia,e1 _ _ hA,hE,sW ⟨_,rfl,?_⟩⟩);by_cases hx:x.lst e=some 0
    .refine ZS (YA hx) ⟨y,d,ep,kus,e,rfl,by lia,by lia,e1 _ _ hA,hE,fun B2 l2 e2 cZ d8=>?_⟩;walk_at "d";refine⟨_,_,e2 _ _ jf,d8,by rw[Yc,Yc,gA];lia,fun l hl=>fg (q _ l ((e1.trans e2).trans (Ext.new hl)) (i7 (e1.trans e2) hl) ?_)⟩;rw[Zd,<- Ys,if_pos hx]
    .refine Zw (Yu hx) (fg (q _ l1 e1 cB ?_));rw[jf,if_neg hx,YW]
  | hold k x =>
   unfold Rl.toU;walk_at "g";simp only[Rl.dep,Rl.size]at hd hs;have hk:∀z∈(["nothing","bead","name","or","by"]:List Str),decide (cA k=z)=false:=fun z hz=>Yu (xY k hz);refine Zw (hk _ (by decide +kernel)) ⟨ck,rfl,rfl,Zw XZ ⟨by decide,fun p hp=>ZS (by rw[hk _ (by decide +kernel)];rfl) (gH trivial ⟨x,d,ep,kus,e,rfl,by lia,by lia,Ext.new hp _ _ hA,hE,fun B1 l1 e1 cB jf=>Zw (hk _ (by decide +kernel)) (Zw (hk _ (by decide +kernel)) (Zw rfl (fg (q _ l1 ((Ext.new hp).trans e1) (i7 (Ext.new hp) cB) jf))))⟩)⟩⟩
end
def _root_.L2.Rl.subs:Rl->List Rl
 | .or x y=>.or x y::(x.subs++y.subs)
 | .a7 x y=>.a7 x y::(x.subs++y.subs)
 | .hold k x=>.hold k x::x.subs
 | r=>[r]
def _root_.L2.Rl.tl:Rl->List U
 | .nothing=>[]
 | .bead c=>[.str c]
 | .named c=>[.str c]
 | .or x y=>[x.toU,y.toU]
 | .a7 x y=>[x.toU,y.toU]
 | .hold _ x=>[x.toU]
def _root_.L2.Rl.hd:Rl->Str
 | .nothing=>"nothing"
 | .bead _=>"bead"
 | .named _=>"name"
 | .or _ _=>"or"
 | .a7 _ _=>"by"
 | .hold k _=>cA k
def _root_.L2.Rl.eW(r:Rl):r.toU=.tup (.str r.hd::r.tl):=by cases r<;>rfl
def _root_.L2.Rl.jP(r:Rl):r.subs=r::(r.kids.map Rl.subs).flatten:=by cases r<;>simp[Rl.subs,Rl.kids]
def _root_.L2.Rl.eX(r:Rl):r.subs.length<=r.size:=by
 induction r with
 | nothing=>exact Yj _
 | bead c=>exact Yj _
 | named c=>exact Yj _
 | or x y i j=>simp only[Rl.subs,Rl.size,List.length_cons,Yt];lia
 | a7 x y i j=>simp only[Rl.subs,Rl.size,List.length_cons,Yt];lia
 | hold k x i=>simp only[Rl.subs,Rl.size,List.length_cons];lia
def _root_.L2.Rl.ur{r:Rl}{k:Nat}{u:U}(h:r.tl[k]? = some u):(∃y,r.kids[k]? = some y/\u=y.toU)\/∃z,u=.str z/\r.kids=[]:=by
 cases r with
 | nothing=>cases h
 | bead c =>
  rcases k with _|k
  .exact .inr ⟨c,(YD h).symm,rfl⟩
  .cases h
 | named c =>
  rcases k with _|k
  .exact .inr ⟨c,(YD h).symm,rfl⟩
  .cases h
 | or x y =>
  rcases k with _|_|k
  .exact .inl ⟨x,rfl,(YD h).symm⟩
  .exact .inl ⟨y,rfl,(YD h).symm⟩
  .cases h
 | a7 x y =>
  rcases k with _|_|k
  .exact .inl ⟨x,rfl,(YD h).symm⟩
  .exact .inl ⟨y,rfl,(YD h).symm⟩
  .cases h
 | hold j x =>
  rcases k with _|k
  .exact .inl ⟨x,rfl,(YD h).symm⟩
  .cases h
def _root_.L2.Rl.pO(r:Rl):r.kids.length<=r.tl.length:=by cases r<;>simp[Rl.kids,Rl.tl]
def _root_.L2.Rl.mU{r:Rl}{z:Str}:z∈r.bb↔Rl.named z∈r.subs:=by
 induction r with
 | nothing=>simp[Rl.bb,Rl.subs]
 | bead c=>simp[Rl.bb,Rl.subs]
 | named c=>simp[Rl.bb,Rl.subs]
 | or x y i j=>simp[Rl.bb,Rl.subs,i,j]
 | a7 x y i j=>simp[Rl.bb,Rl.subs,i,j]
 | hold k x i=>simp[Rl.bb,Rl.subs,i]
def PD(n:Nat):bQ:=fun us A Q=>∃r:Rl,us=[r.toU]/\r.dep<=n/\r.size<=60/\∀B l,Ext A B->A l=none->B l=some (.lst (r.subs.map Rl.toU))->Q (.ref l) B
def X1:∀us A Q,¬PD 0 us A Q:=fun us A Q aF=>by obtain⟨r,_,h,_⟩:=aF;have:=r.bB;lia
section
include T
def PF(n:Nat):T.i8.Ok aQ (n+1) (a6 K (PD n)):=by
 induction n with
 | zero=>exact oZ T.i8.f T.i8.s X1
 | succ n mV =>
  apply T.i8.bF;walk_at "f";exact fun S hr=>⟨_,(Zf (ZB (i:=1) S.nd rfl (Or.inl rfl) (ZW (Za (pv 0) Zg)))
   (Zf (ee YF rfl (dZ (qk qp (pv 0) (oG Zl) rT)) (Zx (i:=2) S.nd rfl (Or.inl rfl))
   (Zh (ZT (iS (b8 S9 T.aE (Za (pv 2) (Za (D0 (T:="tuple") (by rfl) T.pI (by decide +kernel)) Zg)))) (Zh (ZB (i:=1) S.nd rfl (Or.inl rfl) (ZO f_ (pv 1) (T.i8.pc mV hr (Za (pv 2) Zg))))) Zz)))
   (Zh (Zu (pv 1))))),(Zk (Zq (ZV (Zc Zb Ze)) Zi)
   (Zk (eu (ZZ Z2 (qu qw Zb (oS Zm) sC)) Zi
   (dY (iN (Z6 S_ (Zc Zb (Zc Et Ze)))) (Zq (Zj gb Zb (Zt (Zc Zb Ze))) Zi) ZA))
   (Zv Zb)))⟩
  rintro us A Q ⟨r,rfl,hd,hs,q⟩;refine⟨rfl,?_⟩;walk_at "s";rw[r.eW];walk_at "g";rw[<- r.eW];refine⟨by show 1<=sizeLine;decide,fun p hp=>?_⟩;refine Lq (us:=r.tl) (fun k ρ A2=>∃(l1:Addr)(x2:Option U),ρ=[some r.toU,some (.ref l1),x2]/\Ext A A2/\A l1=none/\A2 l1=some (.lst ((r::((r.kids.take k).map Rl.subs).flatten).map Rl.toU))) ⟨p,_,rfl,Ext.new hp,hp,Zd⟩ ?_ ?_
  .rintro k u ρ A2 hu ⟨l1,x2,rfl,e2,cB,h2⟩;rcases Rl.ur hu with⟨y,hy,rfl⟩|⟨z,rfl,hk⟩
   .have hm:=Yk hy;have Pb:=Rl.cq hm;rw[y.eW];walk_at "d";rw[<- y.eW];have h3:=G3 Rl.subs r.kids k;have h4:=r.eX;rw[r.jP,List.length_cons]at h4;have h5:=y.eX;refine⟨.inr (.inr (.inr trivial)),trivial,ZS (by rw[y.eW];rfl) ⟨y,rfl,by lia,by lia,fun B1 l2 e1 cZ jf=>?_⟩⟩;walk_at "d";refine⟨_,_,e1 _ _ h2,jf,by rw[Yc,Yc,List.length_cons,gA];lia,fun l hl=>⟨l,_,rfl,(e2.trans e1).trans (Ext.new hl),i7 (e2.trans e1) hl,?_⟩⟩;rw[Zd,G4 hy,<- Ys];rfl
   .walk_at "d";refine⟨.inr (.inr (.inr trivial)),trivial,Zw rfl ⟨l1,_,rfl,e2,cB,?_⟩⟩;rw[hk]at h2 ⊢;rw[h2,List.take_nil,List.take_nil]
  .rintro ρ A2 ⟨l1,x2,rfl,e2,cB,h2⟩;walk_at "d";refine fg (q _ l1 e2 cB ?_);rw[h2,r.jP,nV r.pO]
end
def X2(P:Program)(w:World):bQ:=fun us A Q=>∃(r:Rl)(d:Addr)(ep:Nat)(kus:List (Str×U))(e:Str->On),us=[r.toU,.ref d]/\r.size<=60/\A d=some (dS P w ep kus)/\DE kus e/\∀B,Ext A B->Q (.bl (r.hp e)) B
def uu(e:Str->On):Rl->Bool
 | .hold _ x=>decide (x.lst e=some 0)
 | _=>false
def X3(e:Str->On)(r:Rl):r.hp e=r.subs.any (uu e):=by
 induction r with
 | nothing=>rfl
 | bead c=>rfl
 | named c=>rfl
 | or x y i j=>simp[Rl.hp,Rl.subs,uu,i,j]
 | a7 x y i j=>simp[Rl.hp,Rl.subs,uu,i,j]
 | hold k x i=>simp[Rl.hp,Rl.subs,uu,i]
def X4{r s:Rl}(h:s∈r.subs):s.dep<=r.dep:=by
 induction r with
 | nothing=>rw[Yp.mp h];exact Yj _
 | bead c=>rw[Yp.mp h];exact Yj _
 | named c=>rw[Yp.mp h];exact Yj _
 | or x y i j =>
  rcases Yo.mp h with rfl|h
  .exact Yj _
  .simp only[Rl.dep];rcases Yy.mp h with h|h
   .have:=i h;lia
   .have:=j h;lia
 | a7 x y i j =>
  rcases Yo.mp h with rfl|h
  .exact Yj _
  .simp only[Rl.dep];rcases Yy.mp h with h|h
   .have:=i h;lia
   .have:=j h;lia
 | hold k x i =>
  rcases Yo.mp h with rfl|h
  .exact Yj _
  .simp only[Rl.dep];have:=i h;lia
def X5:dD (.str (cA k)) [.str "row",.str "bag",.str "choice",.str "ring"]=true:=by
 rcases k with _|_|_|k
 .decide +kernel
 .decide +kernel
 .decide +kernel
 .rw[show cA (k+1+1+1)=cA 3 from rfl];decide +kernel
def iG{α:Type}{l:List α}{x s:α}(hs:l[k]? = some s)(h:x∈l.take (k+1)):x∈l.take k\/x=s:=by
 rw[List.take_succ,hs]at h;simpa using h
section
include T
def X6:T.tV.Ok aQ 63 (a6 K (X2 P w)):=by
 have mV:=PF T 61;have gz:=Hx T 61;apply T.tV.bF;walk_at "f";exact fun S hr=>⟨_,(Zf (ee YF rfl (dZ (T.i8.pc mV hr (Za (pv 0) Zg))) (Zx (i:=2) S.nd rfl (Or.inl rfl))
   (Zh (ZT ((oh (Zo u5 (ZH aT (pv 2) Zl (fun _ _=>rfl)) (ZJ (qm (xs:=["row","bag","choice","ring"]) rfl)) (by with_unfolding_all rfl)) (qf (Zo yE (T.fw.pc gz hr (Za (ZH aT (pv 2) Zl (fun _ _=>rfl)) (Za (pv 1) Zg))) Zl (ZF _))))).pt (Zh (Zu qe)) Zz)))
   (Zh (Zu qe))),(Zk (eu (ZZ Z2 (Zt (Zc Zb Ze))) Zi
   (Z0 (oR (Zp (Zj vk (Zj ZK Zb Zm) (ZI sA))) (Zp (Zj yF (Zt (Zc (Zj ZK Zb Zm) (Zc Zb Ze))) Zm))) (Zv qq) ZA))
   (Zv qq))⟩
 rintro us A Q ⟨r,d,ep,kus,e,rfl,hs,hA,hE,q⟩;walk_at "o";have w6:=qZ r;refine⟨r,rfl,by lia,hs,fun B l eB hl hB=>?_⟩;walk_at "d";refine⟨⟨_,hB⟩,?_⟩;rw[X3]at q;refine nF (r.subs.map Rl.toU) (fun k ρ A2=>∃x2,ρ=[some r.toU,some (.ref d),x2]/\A2=B/\∀s∈r.subs.take k,uu e s=false) ⟨_,rfl,rfl,fun s h=>nomatch h⟩ (fun k ρ A2 _ hq=>by obtain⟨_,_,e,_⟩:=hq;rw[e];exact hB) ?_ ?_
 .rintro k u ρ A2 hu ⟨x2,rfl,rfl,hk⟩;obtain⟨s,hG,rfl⟩:=Z9 hu;have v8:=Yk hG;have Hy:=X4 v8;walk_at "d";refine vt (uu e s) (fun C hC=>?_) ?_
  .cases s with
   | hold i x =>
    unfold Rl.toU;walk_at "g";simp only[Rl.dep]at Hy;exact⟨d6,rfl,rfl,ZS X5 ⟨x,d,ep,kus,e,rfl,by lia,eB _ _ hA,hE,sW ⟨_,rfl,hC⟩⟩⟩
   | nothing=>unfold Rl.toU;walk_at "g";exact⟨d6,rfl,rfl,Zw (by decide +kernel) hC⟩
   | bead c=>unfold Rl.toU;walk_at "g";exact⟨d6,rfl,rfl,Zw (by decide +kernel) hC⟩
   | named c=>unfold Rl.toU;walk_at "g";exact⟨d6,rfl,rfl,Zw (by decide +kernel) hC⟩
   | or a b=>unfold Rl.toU;walk_at "g";exact⟨d6,rfl,rfl,Zw (by decide +kernel) hC⟩
   | a7 a b=>unfold Rl.toU;walk_at "g";exact⟨d6,rfl,rfl,Zw (by decide +kernel) hC⟩
  cases hb:uu e s with
  | true =>
   refine ZS rfl ?_;walk_at "d";rw[List.any_eq_true.mpr ⟨s,v8,hb⟩]at q;exact fg (q _ eB)
  | false =>
   refine Zw rfl ?_;walk_at "d";refine⟨_,rfl,trivial,fun x hx=>?_⟩;rcases iG hG hx with h|rfl
   .exact hk x h
   .exact hb
 .rintro ρ A2 ⟨x2,rfl,rfl,hk⟩;walk_at "d";rw[Yc,Y4]at hk;rw[List.any_eq_false.mpr fun s h=>by rw[hk s h];decide]at q;exact fg (q _ eB)
end
def X7(P:Program)(w:World):bQ:=fun us A Q=>∃(d d2:Addr)(ns:List Str)(rs:List Rl)(ep cn:Nat)(kus:List (Str×U))(e:Str->On),us=[.ref d,.ref d2]/\A d=some (dS P w ep (ns.zip (rs.map Rl.toU)))/\rs.length=ns.length/\ns.length<=60/\ns.Nodup/\(∀r∈rs,r.size<=60/\∀y∈r.bb,y∈ns)/\A d2=some (dS P w cn kus)/\DE kus e/\∀B b,Ext A B->(b=false->∃rk:Str->Nat,∀(k:Nat) z r,ns[k]? = some z->rs[k]? = some r->∀y∈r.lean e,rk y<rk z)->(b=true->∃L:List Str,L≠[]/\(∀z∈L,z∈ns)/\∀(k:Nat) z r,ns[k]? = some z->rs[k]? = some r->z∈L->∃y∈L,y∈r.lean e)->Q (.bl b) B
def X8{ns K K':List Str}{le:Str->Str->Prop}{rk:Str->Nat}(hn:∀z∈ns,∀y,le z y->y∈ns)(h:∀z∈ns,z∉K->rk z<n/\∀y,le z y->y∉K/\rk y<rk z)(hz:z0∈K)(h0:∀y∈K,¬le z0 y)(hK:∀x,x∈K'↔x∈K/\x≠z0):
  ∃mT:Str->Nat,∀z∈ns,z∉K'->mT z<n+1/\∀y,le z y->y∉K'/\mT y<mT z:=by
 have aR:∀y,y∉K->y≠z0:=fun y hy e=>hy (e▸hz);have PK:∀y,y∉K->y∉K':=fun y hy hk=>hy ((hK y).mp hk).1;refine⟨fun z=>if z=z0 then n else rk z,fun z pP Hi=>?_⟩;by_cases e:z=z0
 .subst e;refine⟨by simp only[if_true];lia,fun y hy=>?_⟩;have Hz:y∉K:=fun hk=>h0 y hk hy;refine⟨PK y Hz,?_⟩;simp only[if_true,if_neg (aR y Hz)];exact(h y (hn z pP y hy) Hz).1
 .have HA:z∉K:=fun hk=>Hi ((hK z).mpr ⟨hk,e⟩);obtain⟨h1,h2⟩:=h z pP HA;refine⟨by simp only[if_neg e];lia,fun y hy=>?_⟩;obtain⟨h3,h4⟩:=h2 y hy;refine⟨PK y h3,?_⟩;simp only[if_neg e,if_neg (aR y h3)];exact h4
theorem PL{α:Type}{u:α}:∀ {kus:List (Str×α)},kus.lookup z=some u->(z,u)∈kus
 | (a, b)::r,h=>by
  rw[List.lookup_cons]at h
  by_cases e:z=a
  .rw[beq_iff_eq.mpr e]at h
   cases h
   rw[e];exact .head _
  .rw[Yw.mpr e]at h
   exact .tail _ (PL h)
def PM{kus:List (Str×α)}:x∈(jH z kus).map (·.1)↔x∈kus.map (·.1)/\x≠z:=by
 unfold jH;constructor
 .intro h;obtain⟨p,hp,rfl⟩:=YS.mp h;obtain⟨h1,h2⟩:=List.mem_filter.mp hp;exact⟨YS.mpr ⟨p,h1,rfl⟩,lF h2⟩
 .rintro⟨h,e⟩;obtain⟨p,hp,rfl⟩:=YS.mp h;exact YS.mpr ⟨p,List.mem_filter.mpr ⟨hp,YA e⟩,rfl⟩
def X9{kus:List (Str×α)}(h:z∈kus.map (·.1)):(jH z kus).length+1<=kus.length:=by
 obtain⟨p,hp,rfl⟩:=YS.mp h;exact List.length_filter_lt_length_iff_exists.mpr ⟨p,hp,by simp⟩
section
include T
def X_ : T.tW.Ok aQ 64 (a6 K (X7 P w)):=by
 have kC:=PB T 60;apply T.tW.bF;walk_at "f";exact fun S hr=>⟨_,(Zf (ZB (i:=2) S.nd rfl (Or.inr rfl) vz)
   (Zf (ee YF rfl (vA (pv 0)) (oj (n:=2) rfl (ZL (Zx (i:=3) S.nd rfl (Or.inl rfl)) (ZL (Zx (i:=4) S.nd rfl (Or.inl rfl)) jV)))
   (Zh (uQ (T.ix.pc kC hr (Za (pv 4) (Za (pv 1) Zg))) (uP (pv 2) (pv 3) x_))))
   (Zf (ee YF rfl (u6 rfl T.cD (Za (b8 Fm T.bz (Za (pv 0) Zg)) Zg)) (Zx (i:=5) S.nd rfl (Or.inl rfl))
   (Zh (ee YF rfl (dZ (yG (MP rfl) T.eU (Za (pv 2) Zg))) (Zx (i:=3) S.nd rfl (Or.inl rfl))
   (Zh (ZT (C9 (iS (b8 (Ov rfl) T.qO (Za (ni (ts:=["_law_other"]) (frs':=[("_law_left",2)]) (cl:=_) rfl ⟨(by rfl),rfl,(by decide +kernel),(by decide +kernel),(ZD (by rfl) ZN),(j4 (by rfl) (by rfl)),(ZD ⟨(by rfl),(by first|exact .inl rfl|exact .inr rfl),(by first|exact .inl rfl|exact .inr rfl),(by rfl)⟩ ZN)⟩ (dZ (ZH sM (pv 2) (pv 3) (fun _ _=>rfl))) (fun _ _ _ _=>Zx (i:=0) (show List.Nodup (["_law_other","_law_left"]:List Str)from by decide +kernel) rfl (Or.inl rfl) (.inr rfl)) (fun _ _ _ _=>kQ) (fun _ _ _ _=>by exact(qg (U2 P w rfl rfl) (pv 0) (pv 1) (by with_unfolding_all rfl)))) Zg)))) (Zh (Z1 (Wq (pv 2) (Za (pv 3) Zg)))) Zz)))))
   (Zh (Zu (qg xh (b8 Fm T.bz (Za (pv 2) Zg)) Zl (ZF _))))))),(Zk (Zq vy Zi)
   (Zk (eu (ZZ vB Zb) (j9 (ZM Zi (ZM Zi j8)))
   (Zq (Zt (Zc Zb (Zc Zb Ze))) (yb Zb Zb)))
   (Zk (eu (vf (Zc (Z6 Fp (Zc Zb Ze)) Ze)) Zi
   (eu (ZZ Z2 (Z6 MR (Zc Zb Ze))) Zi
   (Z0 (Eu (iN (Z6 Ox (Zc (j_ (ZZ Z2 (Zj qD Zb Zb)) Zi kT (Zj Bo Zb Zb)) Ze)))) (Z5 (Ws Zb (Zc Zb Ze))) ZA)))
   (Zv (Zj xH (Z6 Fp (Zc Zb Ze)) Zm)))))⟩
 rintro us A Q ⟨d,d2,ns,rs,ep,cn,kus,e,rfl,hA,df,fh,di,bO,yT,hE,q⟩;walk_at "o";intro p hp;have hlen:(ns.zip (rs.map Rl.toU)).length=ns.length:=by rw[List.length_zip,Yc];lia
 refine⟨ep,_,Ext.new hp _ _ hA,?_⟩;refine vC (ns.zip (rs.map Rl.toU)) (fun j ρ A2=>∃(vs:List U)(aI:Nat)(x3 x4 x5:Option U),ρ=[some (.ref d),some (.ref d2),some (.ref p),x3,x4,x5]/\Ext A A2/\A2 p=some (dS P w aI ((ns.take j).zip vs))/\vs.length=min j ns.length/\fD A2 vs fun k zs=>∀r,rs[k]? = some r->zs=r.lean e) ⟨[],0,_,_,_,rfl,Ext.new hp,Zd,by simp,fun k v h=>nomatch h⟩ (fun j ρ A2 _ hq=>by obtain⟨_,_,_,_,_,_,e,_⟩:=hq;exact e _ _ hA) ?_ ?_
 .rintro j p' ρ A2 j3 ⟨vs,aI,x3,x4,x5,rfl,e2,h2,ff,kB⟩;obtain⟨z,r,hz,hr,e1⟩:=Ck (f:=fI) (by rw[Yi,j3];rfl);rw[e1];have Y_:=(Yh.mp hz).1;rw[rA (by lia)]at ff;have HB:=bO r (Yk hr);have w6:=qZ r;unfold fI;walk_at "d";refine⟨rfl,r,d2,cn,kus,e,rfl,by lia,HB.1,e2 _ _ yT,hE,fun B l eB hl hB=>?_⟩;have pP:z∉((ns.take j).zip vs).map (·.1):=by
   rw[nM (by rw[YK,ff];lia)];intro hm;obtain⟨i,hi,e⟩:=pW.mp hm;rw[YK]at hi;rw[List.getElem_take]at e;have:=jU di (i:=i) (j:=j) (x:=z) (by rw[Yg (by lia),e]) hz;lia
  walk_at "d";refine⟨p,z,aI,_,rfl,rfl,eB _ _ h2,by rw[List.length_zip,YK,gA];lia,fun dj=>⟨vs++[.ref l],dj,_,_,_,rfl,lx (e2.trans eB) hp,?_,by rw[Yt,List.length_singleton,ff];lia,?_⟩⟩
  .rw[Zd,nK pP,List.take_succ_eq_append_getElem Y_,(Yh.mp hz).2,List.zip_append (by rw[YK,ff];lia)];rfl
  .have kp : ∀q us,B q=some (.lst us)->af B p (dS P w dj (dq z (.ref l) ((ns.take j).zip vs))) q=some (.lst us):=fun q us hq=>by
    rw[Zn fun e=>by rw[e,eB _ _ h2]at hq;cases hq];exact hq
   intro k v hv;by_cases hk:k<vs.length
   .rw[YU hk]at hv;obtain⟨q,zs,g1,g2,g3⟩:=kB k v hv;exact⟨q,zs,g1,kp _ _ (eB _ _ g2),g3⟩
   .rw[YQ (by lia)]at hv;have Z_:k=vs.length:=by
     rcases Nat.lt_or_ge vs.length k with h|h
     .rw[show k-vs.length=(k-vs.length-1)+1 by lia]at hv;cases hv
     .lia
    subst Z_;rw[qa]at hv;cases hv;refine⟨l,_,rfl,kp _ _ hB,fun r' b_=>?_⟩;rw[ff,hr]at b_;cases b_;rfl
 rintro ρ A2 ⟨vs,aI,x3,x4,x5,rfl,e2,h2,ff,kB⟩;rw[hlen,Y4]at h2;rw[hlen,Nat.min_self]at ff;walk_at "d";refine⟨ep,_,e2 _ _ hA,by rw[hlen];lia,by rw[hlen];lia,?_⟩;rw[hlen,show((ns.length:Int)).toNat=ns.length by lia];obtain⟨le,hle⟩:∃le:Str->Str->Prop,le=fun z y=>∃(k:Nat)(r:Rl),ns[k]? = some z/\rs[k]? = some r/\y∈r.lean e:=⟨_,rfl⟩;have Hl:∀z∈ns,∀y,le z y->y∈ns:=fun z _ y hy=>by
  rw[hle]at hy;obtain⟨k,r,_,h2,h3⟩:=hy;exact(bO r (Yk h2)).2 y (Rl.c_ h3)
 have HC:(ns.zip vs).map (·.1)=ns:=nM ff.symm;have Z':∀ {B:az} {gO cn:Nat} {k1 k2:List (Str×U)} {R:Nat->List Str->Prop},B p=some (dS P w gO k1)->fD B vs R->fD (af B p (dS P w cn k2)) vs R:=fun hb h=>h.kp fun q us hq=>by
  rw[Zn fun e=>by rw[e,hb]at hq;cases hq];exact hq
 refine xM (n:=ns.length) (fun t ρ A2=>∃(k':List (Str×U))(aI:Nat)(x3 x4 x5:Option U)(rk:Str->Nat)(n:Nat),ρ=[some (.ref d),some (.ref d2),some (.ref p),x3,x4,x5]/\Ext A A2/\A2 p=some (dS P w aI k')/\k'.Sublist (ns.zip vs)/\(fD A2 vs fun k zs=>∀r,rs[k]? = some r->zs=r.lean e)/\(∀z∈ns,z∉k'.map (·.1)->rk z<n/\∀y,le z y->y∉k'.map (·.1)/\rk y<rk z)/\((∀z∈k'.map (·.1),∃y∈k'.map (·.1),le z y)\/k'.length+t<=ns.length)) ⟨ns.zip vs,aI,_,_,_,fun _=>0,0,rfl,e2,h2,List.Sublist.refl _,kB,fun z hz hn=>absurd (by rw[HC];exact hz) hn,.inr (by rw[List.length_zip];lia)⟩ ?_ ?_
 .rintro t ρ A3 ht ⟨k',gO,x3,x4,x5,rk,n,rfl,e3,h3,v9,ze,eV,jn⟩;have nR:(k'.map (·.1)).Nodup:=(v9.map (·.1)).nodup (by rw[HC];exact di);have jM:k'.length<=ns.length:=by have:=v9.length_le;rw[List.length_zip]at this;lia
  walk_at "d";refine⟨gO,k',h3,fun l hl=>?_⟩;rw[show k'.map fK=(k'.map (·.1)).map U.str from by rw[jS];rfl];have bx:p≠l:=eF h3 hl;have cL:=i7 e3 hl;have e4:=e3.trans (Ext.new hl (o:=.lst ((k'.map (·.1)).map U.str)));have h4:=Ext.new hl (o:=.lst ((k'.map (·.1)).map U.str)) _ _ h3;have zf:=ze.ext (Ext.new hl (o:=.lst ((k'.map (·.1)).map U.str)));have l4:af A3 l (.lst ((k'.map (·.1)).map U.str)) l=some (.lst ((k'.map (·.1)).map U.str)):=Zd;generalize af A3 l (.lst ((k'.map (·.1)).map U.str))=A4 at e4 h4 zf l4 ⊢;walk_at "d";refine⟨⟨_,l4⟩,?_⟩;refine nF ((k'.map (·.1)).map U.str) (fun j ρ A5=>∃(kj:List (Str×U))(aI:Nat)(x3:Option U)(rk:Str->Nat)(n:Nat),ρ=[some (.ref d),some (.ref d2),some (.ref p),x3,x4,some (.int (0+(t:Int)))]/\Ext A A5/\A5 l=some (.lst ((k'.map (·.1)).map U.str))/\A5 p=some (dS P w aI kj)/\kj.Sublist k'/\(fD A5 vs fun k zs=>∀r,rs[k]? = some r->zs=r.lean e)/\(∀z∈ns,z∉kj.map (·.1)->rk z<n/\∀y,le z y->y∉kj.map (·.1)/\rk y<rk z)/\(∀(i:Nat) z,j<=i->(k'.map (·.1))[i]? = some z->z∈kj.map (·.1))/\((∀z∈k'.map (·.1),∃y∈k'.map (·.1),le z y)->kj=k')/\(kj=k'/\(∀z∈(k'.map (·.1)).take j,∃y∈k'.map (·.1),le z y)\/kj.length+1<=k'.length)) ⟨k',gO,_,rk,n,rfl,e4,l4,h4,List.Sublist.refl _,zf,eV,(fun i z _ h=>Yk h),(fun _=>rfl),.inl ⟨rfl,fun z h=>nomatch h⟩⟩ (fun j ρ A5 _ hq=>by obtain⟨_,_,_,_,_,_,_,h,_⟩:=hq;exact h) ?_ ?_
  .rintro j u ρ A5 hu ⟨kj,dj,x3,rk,n,rfl,e5,l5,h5,v_,mW,pQ,fL,pR,uw⟩;obtain⟨z,hz,rfl⟩:=Z9 hu;have Cm:=fL j z (Yj _) hz;obtain⟨v,hv⟩:=zF.mp (uf Cm);obtain⟨i,hi⟩:=List.getElem?_of_mem (v9.subset (v_.subset (PL hv)));obtain⟨HD,hi2⟩:=List.getElem?_zip_eq_some.mp hi;obtain⟨r,hr⟩:∃r,rs[i]? = some r:=⟨_,Yg (by rw[df];exact(Yh.mp HD).1)⟩;obtain⟨q5,zs,rfl,Co,j6⟩:=mW i v hi2;have j6:=j6 r hr;subst j6;have qU:=r.bh (e:=e);have iH:=bO r (Yk hr);have zg:∀y,le z y↔y∈r.lean e:=fun y=>by
    rw[hle];constructor
    .rintro⟨k,r',a,b,c⟩;have:=jU di a HD;subst this;rw[hr]at b;cases b;exact c
    .exact fun h=>⟨i,r,HD,hr,h⟩
   walk_at "d";refine mD (!((r.lean e).map fun y=>(kj.lookup y).isSome).any id) (fun B hB=>?_) fun B eB=>?_
   .walk_at "d";refine⟨dj,kj,_,h5,hv,?_⟩;walk_at "d";refine⟨⟨_,Co⟩,fun l6 Pp=>?_⟩;walk_at "c";refine yB ((r.lean e).map U.str) (fun _=>true) (fun k=>.bl (kj.lookup ((r.lean e)[k]?.getD ("":Str))).isSome) (fun τ=>∃x,τ=[x,some (.ref p)]) ⟨_,rfl⟩ Pp (by rw[Yc];lia) (fun k A2 _ e6=>⟨_,e6 _ _ Co,rfl⟩) ?_ ?_
    .rintro k u τ A6 hu ⟨x,rfl⟩ e6 Cy Cn hy _;obtain⟨y,pK,rfl⟩:=Z9 hu;walk_at "d";have:=hy rfl [some (.str y),some (.ref p)] A6 ⟨_,rfl⟩ (Ext.refl _);rw[pK,Option.getD_some]at this;exact gH trivial ⟨dj,kj,e6 _ _ h5,this⟩
    intro B6 e6 Hn;have hW:((List.range ((r.lean e).map U.str).length).filter fun _=>true).map (fun k=>U.bl (kj.lookup ((r.lean e)[k]?.getD ("":Str))).isSome)=((r.lean e).map fun y=>(kj.lookup y).isSome).map U.bl:=by
     rw[zL.mpr fun _ _=>rfl,Yc,jS];exact Gu (fun y=>U.bl (kj.lookup y).isSome) (r.lean e) ("":Str)
    rw[hW];walk_at "d";exact⟨_,Zd,hB _ (e6.trans (Ext.new Hn))⟩
   have zh:((r.lean e).map fun y=>(kj.lookup y).isSome).any id=true↔∃y∈kj.map (·.1),le z y:=by
    rw[List.any_map,List.any_eq_true];constructor
    .rintro⟨y,h1,h2⟩;refine⟨y,Classical.byContradiction fun hn=>?_,(zg y).mpr h1⟩;have h2:(kj.lookup y).isSome=true:=h2;rw[yD hn]at h2;cases h2
    .rintro⟨y,h1,h2⟩;exact⟨y,(zg y).mp h2,uf h1⟩
   by_cases hb:((r.lean e).map fun y=>(kj.lookup y).isSome).any id=true
   .refine Zw (by rw[hb];rfl) ?_;walk_at "d";refine⟨kj,dj,_,rk,n,rfl,e5.trans eB,eB _ _ l5,eB _ _ h5,v_,mW.ext eB,pQ,fun i z' h=>fL i z' (by lia),pR,?_⟩;rcases uw with⟨rfl,h⟩|h
    .refine .inl ⟨rfl,fun x hx=>?_⟩;rcases iG hz hx with hx|rfl
     .exact h x hx
     .exact zh.mp hb
    .exact .inr h
   .refine ZS (by rw[Bool.not_eq_true]at hb;rw[hb];rfl) ?_;have h0:∀y∈kj.map (·.1),¬le z y:=fun y hy hl=>hb (zh.mpr ⟨y,hy,hl⟩);obtain⟨mT,uk⟩:=X8 Hl pQ Cm h0 (fun x=>PM (z:=z) (kus:=kj));have bD:=X9 Cm;have yR:=v_.length_le;walk_at "d";refine⟨p,dj,kj,rfl,eB _ _ h5,z,dj,kj,_,rfl,eB _ _ h5,hv,fun pN=>⟨jH z kj,pN,_,mT,n+1,rfl,lx (e5.trans eB) hp,by rw[Zn (Ne.symm bx)];exact eB _ _ l5,Zd,List.filter_sublist.trans v_,Z' (eB _ _ h5) (mW.ext eB),uk,fun i z' hi gK=>PM.mpr ⟨fL i z' (by lia) gK,fun e=>?_⟩,fun hs=>?_,.inr (by lia)⟩⟩
    .rw[e]at gK;have:=jU nR gK hz;lia
    .have hk:=pR hs;subst hk;obtain⟨y,hy,hl⟩:=hs z Cm;exact absurd hl (h0 y hy)
  .rintro ρ A5 ⟨kj,dj,x3,rk,n,rfl,e5,l5,h5,v_,mW,pQ,fL,pR,uw⟩;walk_at "d";refine⟨kj,dj,_,_,_,rk,n,rfl,e5,h5,v_.trans v9,mW,pQ,?_⟩;rcases uw with⟨rfl,h⟩|h
   .refine .inl ?_;rw[Yc,Y4]at h;exact h
   .rcases jn with hs|bD
    .have hk:=pR hs;rw[hk]at h;lia
    .exact .inr (by lia)
 rintro ρ A3 ⟨k',gO,x3,x4,x5,rk,n,rfl,e3,h3,v9,ze,eV,jn⟩;walk_at "d";refine⟨gO,k',h3,fg (q _ _ e3 (fun hb=>?_) fun hb=>?_)⟩
 .have hk:k'=[]:=wk.mp (by have:=of_decide_eq_false hb;lia);subst hk;refine⟨rk,fun k z r hz hr y hy=>((eV z (Yk hz) (fun h=>nomatch h)).2 y ?_).2⟩;rw[hle];exact⟨k,r,hz,hr,hy⟩
 .have hb:=lF hb;have hs:∀z∈k'.map (·.1),∃y∈k'.map (·.1),le z y:=by
   rcases jn with h|h
   .exact h
   .lia
  refine⟨k'.map (·.1),fun h=>?_,fun z hz=>by rw[<- HC];exact(v9.map (·.1)).subset hz,fun k z r hz hr hm=>?_⟩
  .rw[List.map_eq_nil_iff]at h;rw[h]at hb;cases hb
  .obtain⟨y,hy,hl⟩:=hs z hm;rw[hle]at hl;obtain⟨k2,r2,a,b,c⟩:=hl;have:=jU di a hz;subst this;rw[hr]at b;cases b;exact⟨y,hy,c⟩
end
def dU(ns:List Str)(rs:List Rl):Str->On:=lV (iF ns rs) ns.length
def ZiW(P:Program)(w:World):bQ:=fun us A Q=>∃(l:Addr)(ns:List Str)(rs:List Rl),us=[.ref l]/\A l=some (.lst ((ns.zip rs).map fun p=>.tup [.str p.1,p.2.toU]))/\rs.length=ns.length/\ns.length<=60/\ns.Nodup/\(∀r∈rs,r.size<=60/\∀y∈r.bb,y∈ns)/\(∀(k:Nat) z r,ns[k]? = some z->rs[k]? = some r->r.hp (dU ns rs)=true->(∀(j:Nat) r',j<k->rs[j]? = some r'->r'.hp (dU ns rs)=false)->∀B,Ext A B->Q (.tup [.str "hollow",.str z]) B) /\
 ((∀r∈rs,r.hp (dU ns rs)=false)->(∃L:List Str,L≠[]/\(∀z∈L,z∈ns)/\∀(k:Nat) z r,ns[k]? = some z->rs[k]? = some r->z∈L->∃y∈L,y∈r.lean (dU ns rs))->∀B,Ext A B->Q (.tup [.str "round",.str ""]) B) /\
 ((∀r∈rs,r.hp (dU ns rs)=false)->(∃rk:Str->Nat,∀(k:Nat) z r,ns[k]? = some z->rs[k]? = some r->∀y∈r.lean (dU ns rs),rk y<rk z)->∀B,Ext A B->Q (.tup [.str "sound",.str ""]) B)
def Zn7(R:Bool->Prop)(h1:∀B:Bool->az->Prop,(∀k A',R k->Ext A A'->B k A')->c ρ A B)(h2:∀k A',R k->Ext A A'->if k=true then t D ρ A' else e D ρ A'):o6 c t e D ρ A:=h1 _ h2
section
include T
def Zkk:T.tX.Ok aQ 66 (a6 K (ZiW P w)):=by
 have mV:=PF T 61;have ux:=Py T;have HE:=X6 T;have HF:=X_ T;apply T.tX.bF;walk_at "f";exact fun S hr=>⟨_,(Zf (ZB (i:=1) S.nd rfl (Or.inr rfl) vz)
   (Zf (ee YF rfl (dZ (pv 0)) (oj (n:=2) rfl (ZL (Zx (i:=2) S.nd rfl (Or.inl rfl)) (ZL (Zx (i:=3) S.nd rfl (Or.inl rfl)) jV)))
   (Zf (ZT (Zo Bn (pv 2) (pv 1) (by with_unfolding_all rfl)) (Zh (Zu (ZJ (Za Zr (Za (pv 2) Zg))))) Zz)
   (Zh (uQ (pv 3) (uP (pv 1) (pv 2) x_)))))
   (Zf (ee YF rfl (MJ (pv 1)) (Zx (i:=3) S.nd rfl (Or.inl rfl))
   (Zf (ZB (i:=4) S.nd rfl (Or.inl rfl) (b8 We T.de (Za (ni (ts:=["_law_one"]) (frs':=[("_law_rules_here",1)]) (cl:=_) rfl ⟨(by rfl),rfl,(by decide +kernel),(by decide +kernel),(ZD (by rfl) ZN),(j4 (by rfl) (by rfl)),(ZD ⟨(by rfl),(by first|exact .inl rfl|exact .inr rfl),(by first|exact .inl rfl|exact .inr rfl),(by rfl)⟩ ZN)⟩ (dZ (T.i8.pc mV hr (Za (pv 3) Zg))) (fun _ _ _ _=>Zx (i:=0) (show List.Nodup (["_law_one","_law_rules_here"]:List Str)from by decide +kernel) rfl (Or.inl rfl) (.inr rfl)) (fun _ _ _ _=>(uY ((oh (Zo (KA K rfl hr) (ZH (xk K rfl) (pv 0) Zl (fun _ _=>rfl)) Zr (ZF _)) (qf (Zo (U3 P w rfl rfl) (ZH (xk K rfl) (pv 0) Zl (fun _ _=>rfl)) (pv 1) (by with_unfolding_all rfl))))).pt)) (fun _ _ _ _=>by exact(ZH (xk K rfl) (pv 0) Zl (fun _ _=>rfl)))) Zg)))
   (Zh (ZT (Zo (u7 hr) (pv 4) (ZW Zg) (ZF _)) (Zh (Zu (ZJ (Za Zr (Za (ZH aT (pv 4) Zl (fun _ _=>rfl)) Zg))))) Zz))))
   (Zf (ZB (i:=5) S.nd rfl (Or.inl rfl) (T.pH.pc ux hr (Za (pv 1) Zg)))
   (Zf (ee YF rfl (vA (pv 1)) (oj (n:=2) rfl (ZL (Zx (i:=2) S.nd rfl (Or.inl rfl)) (ZL (Zx (i:=3) S.nd rfl (Or.inl rfl)) jV)))
   (Zh (ZT (iS (T.tV.pc HE hr (Za (pv 3) (Za (pv 5) Zg)))) (Zh (Zu (ZJ (Za Zr (Za (pv 2) Zg))))) Zz)))
   (Zf (ZT (iS (T.tW.pc HF hr (Za (pv 1) (Za (pv 5) Zg)))) (Zh (Zu (ZJ (Za Zr (Za Zr Zg))))) Zz)
   (Zh (Zu (ZJ (Za Zr (Za Zr Zg))))))))))),(Zk (Zq vy Zi)
   (Zk (eu (ZZ Z2 Zb) (j9 (ZM Zi (ZM Zi j8)))
   (Zk (Z0 (Zp (Zj Bo Zb Zb)) (Zv (ZI (Zc Zy (Zc Zb Ze)))) ZA)
   (Zq Zb (yb Zb Zb))))
   (Zk (eu (ZZ ML Zb) Zi
   (Zk (Zq (Z6 Wf (Zc (j_ (ZZ Z2 (Zt (Zc Zb Ze))) Zi (oR (Zp (Zj cK (Zj ZK Zb Zm) Zy)) (Zp (Zj Fo (Zj ZK Zb Zm) Zb))) (Zj ZK Zb Zm)) Ze)) Zi)
   (Z0 (Zp (Zj vh Zb (ZV Ze))) (Zv (ZI (Zc Zy (Zc (Zj ZK Zb Zm) Ze)))) ZA)))
   (Zk (Zq (Zt (Zc Zb Ze)) Zi)
   (Zk (eu (ZZ vB Zb) (j9 (ZM Zi (ZM Zi j8)))
   (Z0 (iN (Zt (Zc Zb (Zc Zb Ze)))) (Zv (ZI (Zc Zy (Zc Zb Ze)))) ZA))
   (Zk (Z0 (iN (Zt (Zc Zb (Zc Zb Ze)))) (Zv (ZI (Zc Zy (Zc Zy Ze)))) ZA)
   (Zv (ZI (Zc Zy (Zc Zy Ze))))))))))⟩
 rintro us A Q ⟨l,ns,rs,rfl,hl,df,fh,di,bO,qh,qr,qs⟩;walk_at "o";intro d hd;have uy:l≠d:=eF hl hd;have qW:(ns.zip rs).length=ns.length:=by rw[List.length_zip];lia
 walk_at "d";refine⟨⟨_,by rw[Zn uy];exact hl⟩,?_⟩;refine nF ((ns.zip rs).map fun p=>.tup [.str p.1,p.2.toU]) (fun k ρ A2=>∃(ep:Nat)(x2 x3 x4 x5:Option U),ρ=[some (.ref l),some (.ref d),x2,x3,x4,x5]/\A2=af A d (dS P w ep ((ns.zip (rs.map Rl.toU)).take k))) ⟨0,_,_,_,_,rfl,rfl⟩ (fun k ρ A2 _ hq=>by obtain⟨_,_,_,_,_,_,e⟩:=hq;rw[e,Zn uy];exact hl) ?_ ?_
 .rintro k u ρ A2 hu ⟨ep,x2,x3,x4,x5,rfl,rfl⟩;obtain⟨p,hp,rfl⟩:=Z9 hu;obtain⟨hz,hr⟩:=List.getElem?_zip_eq_some.mp hp;have zi:(ns.zip (rs.map Rl.toU))[k]? = some (p.1,p.2.toU):=List.getElem?_zip_eq_some.mpr ⟨hz,by rw[Yi,hr];rfl⟩;have hk:=(Yh.mp zi).1;have pP:p.1∉((ns.zip (rs.map Rl.toU)).take k).map (·.1):=by
   rw[wx,nM (by rw[Yc];lia)];intro hm;obtain⟨j,hj,e⟩:=pW.mp hm;rw[YK]at hj;rw[List.getElem_take]at e;have:=jU di (i:=j) (j:=k) (x:=p.1) (by rw[Yg (by lia),e]) hz;lia
  walk_at "d";refine⟨rfl,iZ (fun B hB=>?_) ?_⟩
  .walk_at "d";refine⟨ep,_,Zd,?_⟩;rw[yD pP];exact hB
  walk_at "d";refine⟨d,p.1,ep,_,rfl,rfl,Zd,?_,fun aI=>⟨aI,_,_,_,_,rfl,?_⟩⟩
  .rw[YK,List.length_zip,gA];lia
  .rw[ZP,nK pP,List.take_succ_eq_append_getElem hk,(Yh.mp zi).2]
 rintro ρ A2 ⟨ep,x2,x3,x4,x5,rfl,rfl⟩;rw[Yc,nV (by rw[List.length_zip,List.length_zip,Yc];exact Yj _)];have e1:=Ext.new hd (o:=dS P w ep (ns.zip (rs.map Rl.toU)));have d1:af A d (dS P w ep (ns.zip (rs.map Rl.toU))) d=some (dS P w ep (ns.zip (rs.map Rl.toU))):=Zd;generalize af A d (dS P w ep (ns.zip (rs.map Rl.toU)))=A1 at e1 d1 ⊢;walk_at "d";refine⟨ep,_,d1,?_⟩;have hlen:(ns.zip (rs.map Rl.toU)).length=ns.length:=by rw[List.length_zip,Yc];lia
 refine vC (ns.zip (rs.map Rl.toU)) (fun k ρ A2=>∃(x2 x3 x4 x5:Option U),ρ=[some (.ref l),some (.ref d),x2,x3,x4,x5]/\Ext A1 A2) ⟨_,_,_,_,rfl,Ext.refl _⟩ (fun k ρ A2 _ hq=>by obtain⟨_,_,_,_,_,e⟩:=hq;exact e _ _ d1) ?_ ?_
 .rintro k p' ρ A2 j3 ⟨x2,x3,x4,x5,rfl,e2⟩;obtain⟨z,r,hz,hr,e3⟩:=Ck (f:=fun x=>x.2) (by rw[Yi,j3];rfl);have e3:p'.2=r.toU:=e3;rw[e3];have iH:=bO r (Yk hr);have w6:=qZ r;have pf:=r.eX;walk_at "d";refine⟨r,rfl,by lia,iH.1,fun B l2 eB cZ d8=>?_⟩;walk_at "d";refine⟨⟨_,d8⟩,fun l3 qS=>?_⟩;walk_at "c";refine yB (r.subs.map Rl.toU) (fun _=>false) (fun _=>.ay) (fun τ=>∃x,τ=[x,some (.ref d)]) ⟨_,rfl⟩ qS (by rw[Yc];lia) (fun k A2 _ e4=>⟨_,e4 _ _ d8,rfl⟩) ?_ ?_
  .rintro m u τ A6 hu ⟨x,rfl⟩ e6 Cy Cn _ hn;obtain⟨s,hs,rfl⟩:=Z9 hu;have hn:=hn rfl [some s.toU,some (.ref d)] A6 ⟨_,rfl⟩ (Ext.refl _);cases s with
   | named v =>
    have hv:v∈ns:=iH.2 v (Rl.mU.mpr (Yk hs));unfold Rl.toU at hn ⊢;walk_at "g";refine ZS rfl ⟨ep,_,(e2.trans (eB.trans e6)) _ _ d1,?_⟩;rw[uf (by rw[nM (by rw[Yc];lia)];exact hv)];exact Zw rfl hn
   | nothing=>unfold Rl.toU at hn ⊢;walk_at "g";exact Zw (by decide +kernel) (Zw rfl hn)
   | bead c=>unfold Rl.toU at hn ⊢;walk_at "g";exact Zw (by decide +kernel) (Zw rfl hn)
   | or a b=>unfold Rl.toU at hn ⊢;walk_at "g";exact Zw (by decide +kernel) (Zw rfl hn)
   | a7 a b=>unfold Rl.toU at hn ⊢;walk_at "g";exact Zw (by decide +kernel) (Zw rfl hn)
   | hold i a=>unfold Rl.toU at hn ⊢;walk_at "g";exact Zw (Yu (xY i (by decide +kernel))) (Zw rfl hn)
  intro B5 e5 hB5;rw[List.filter_eq_nil_iff.mpr fun _ _=>by decide,YaY];walk_at "d";refine⟨[],Zd,by decide,fun D zs hD jc vT=>?_⟩;cases jc.eq_nil;have e7:=(eB.trans (e5.trans (Ext.new hB5))).trans (Ext.new hD (o:=.lst (([]:List Str).map U.str)));have d7:af (af B5 l3 (.lst [])) D (.lst (([]:List Str).map U.str)) D=some (.lst (([]:List Str).map U.str)):=Zd;generalize af (af B5 l3 (.lst [])) D (.lst (([]:List Str).map U.str))=A7 at e7 d7 ⊢;refine mD false (fun C hC=>?_) fun A8 e8=>?_
  .walk_at "d";exact⟨by decide,fun l4 yX=>Cf (ys:=[]) (zs:=[]) (fun z h=>nomatch h) (fun z h=>nomatch h) (Ext.new yX _ _ d7) Zd ⟨_,rfl,hC _ (Ext.new yX)⟩⟩
  refine Zw rfl ?_;walk_at "d";exact⟨_,_,_,_,rfl,(e2.trans e7).trans e8⟩
 rintro ρ A2 ⟨x2,x3,x4,x5,rfl,e2⟩;walk_at "d";refine⟨d,ns,rs,ep,rfl,e2 _ _ d1,df,fh,di,fun r hr=>(bO r hr).1,fun d' aI kus gB hE=>?_⟩;have e3:=e2.trans (Ext.new gB (o:=dS P w aI kus));have d3:af A2 d' (dS P w aI kus) d'=some (dS P w aI kus):=Zd;generalize af A2 d' (dS P w aI kus)=A3 at e3 d3 ⊢;walk_at "d";refine⟨ep,_,e3 _ _ d1,?_⟩;refine vC (ns.zip (rs.map Rl.toU)) (fun k ρ A4=>∃(x2 x3 x4:Option U),ρ=[some (.ref l),some (.ref d),x2,x3,x4,some (.ref d')]/\Ext A3 A4/\∀(j:Nat) r',j<k->rs[j]? = some r'->r'.hp (dU ns rs)=false) ⟨_,_,_,rfl,Ext.refl _,fun j _ h=>absurd h (CS j)⟩ (fun k ρ A4 _ hq=>by obtain⟨_,_,_,_,e,_⟩:=hq;exact e _ _ (e3 _ _ d1)) ?_ ?_
 .rintro k p' ρ A4 j3 ⟨x2,x3,x4,rfl,e4,hj⟩;obtain⟨z,r,hz,hr,e5⟩:=Ck (f:=fI) (by rw[Yi,j3];rfl);rw[e5];unfold fI;walk_at "d";refine⟨rfl,mD (r.hp (dU ns rs)) (fun C hC=>?_) fun B eB=>?_⟩
  .walk_at "d";exact⟨r,d',aI,kus,_,rfl,(bO r (Yk hr)).1,e4 _ _ d3,hE,fun B1 e1=>⟨_,rfl,hC B1 e1⟩⟩
  cases hh:r.hp (dU ns rs)with
  | true =>
   refine ZS rfl ?_;walk_at "d";exact⟨ck,fg (qh k z r hz hr hh hj _ (e1.trans (e3.trans (e4.trans eB))))⟩
  | false =>
   refine Zw rfl ?_;walk_at "d";refine⟨_,_,_,rfl,e4.trans eB,fun j r' bD b_=>?_⟩;rcases Nat.lt_succ_iff_lt_or_eq.mp bD with h|rfl
   .exact hj j r' h b_
   .rw[hr]at b_;cases b_;exact hh
 rintro ρ A4 ⟨x2,x3,x4,rfl,e4,hj⟩;have oJ:∀r∈rs,r.hp (dU ns rs)=false:=fun r hr=>by
  obtain⟨j,yV⟩:=List.getElem?_of_mem hr;exact hj j r (by rw[hlen,<- df];exact(Yh.mp yV).1) yV
 walk_at "d";have e5:=e1.trans (e3.trans e4);refine Zn7 (fun b=>(b=false->∃rk:Str->Nat,∀(k:Nat) z r,ns[k]? = some z->rs[k]? = some r->∀y∈r.lean (dU ns rs),rk y<rk z)/\(b=true->∃L:List Str,L≠[]/\(∀z∈L,z∈ns)/\∀(k:Nat) z r,ns[k]? = some z->rs[k]? = some r->z∈L->∃y∈L,y∈r.lean (dU ns rs))) (fun C hC=>?_) fun b A5 hb e6=>?_
 .walk_at "d";exact⟨d,d',ns,rs,ep,aI,kus,_,rfl,e4 _ _ (e3 _ _ d1),df,fh,di,bO,e4 _ _ d3,hE,fun B b eB h1 h2=>⟨_,rfl,hC b B ⟨h1,h2⟩ eB⟩⟩
 cases b with
 | true =>
  refine ZS rfl ?_;walk_at "d";exact⟨ck,fg (qr oJ (hb.2 rfl) _ (e5.trans e6))⟩
 | false =>
  refine Zw rfl ?_;walk_at "d";exact⟨ck,fg (qs oJ (hb.1 rfl) _ (e5.trans e6))⟩
end
def uz(ns:List Str)(rs:List Rl)(z y:Str):Prop:=∃(k:Nat)(r:Rl),ns[k]? = some z/\rs[k]? = some r/\y∈r.lean (dU ns rs)
def Zk7(P:Program)(w:World):bQ:=fun us A Q=>∃(lc l:Addr)(c:List Str)(ns:List Str)(rs:List Rl),us=[.ref lc,.ref l]/\A lc=some (.lst (c.map U.str))/\A l=some (.lst ((ns.zip rs).map fun p=>.tup [.str p.1,p.2.toU]))/\rs.length=ns.length/\ns.length<=60/\ns.Nodup/\(∀r∈rs,r.size<=60/\∀y∈r.bb,y∈ns)/\pM (uz ns rs) c/\(∀z∈c,z∈ns)/\∀B,Ext A B->Q (.bl true) B
section
include T
def Zoz:T.tY.Ok aQ 67 (a6 K (Zk7 P w)):=by
 have ux:=Py T;have kC:=PB T 60;apply T.tY.bF;walk_at "f";exact fun S hr=>⟨_,(Zf (ZB (i:=2) S.nd rfl (Or.inl rfl) vz)
   (Zf (ee YF rfl (dZ (pv 1)) (oj (n:=2) rfl (ZL (Zx (i:=3) S.nd rfl (Or.inl rfl)) (ZL (Zx (i:=4) S.nd rfl (Or.inl rfl)) jV)))
   (Zh (uQ (pv 4) (uP (pv 2) (pv 3) x_))))
   (Zf (ZB (i:=5) S.nd rfl (Or.inl rfl) (T.pH.pc ux hr (Za (pv 2) Zg)))
   (Zf (ZT ((uN (C9 (iS (b8 VR T.aE (Za (pv 0) (Za (D0 (T:="list") (by rfl) T.eU (by decide +kernel)) Zg))))) (uN (Zo (cN hr) (b8 kR T.bz (Za (pv 0) Zg)) Zl (ZF _)) (wF (Zo (u7 hr) (b8 Wt T.bz (Za (yG (N6 rfl) T.jK (Za (pv 0) Zg)) Zg)) (b8 kR T.bz (Za (pv 0) Zg)) (ZF _)))))).pt (Zh (Zu qe)) Zz)
   (Zf (ee YF rfl (u6 rfl T.cD (Za (b8 kR T.bz (Za (pv 0) Zg)) Zg)) (Zx (i:=6) S.nd rfl (Or.inl rfl))
   (Zh (ZT ((uN (Zo Fl (ZH aT (pv 0) (ZO Au (pv 6) Zl) (fun _ _=>rfl)) (pv 2) (by with_unfolding_all rfl)) (wF (Zo Kt (ZH aT (pv 0) (pv 6) (fun _ _=>rfl)) (T.ix.pc kC hr (Za (ZH sM (pv 2) (ZH aT (pv 0) (ZO Au (pv 6) Zl) (fun _ _=>rfl)) (fun _ _=>rfl)) (Za (pv 5) Zg))) (by with_unfolding_all rfl))))).pt (Zh (Zu qe)) Zz)))
   (Zh (Zu qe))))))),(Zk (Zq vy Zi)
   (Zk (eu (ZZ Z2 Zb) (j9 (ZM Zi (ZM Zi j8)))
   (Zq Zb (yb Zb Zb)))
   (Zk (Zq (Zt (Zc Zb Ze)) Zi)
   (Zk (Z0 (vb (Eu (iN (Z6 VS (Zc Zb (Zc Et Ze))))) (vb (Zp (Zj cK (Z6 kX (Zc Zb Ze)) Zm)) (Zp (Zj vh (Z6 Wu (Zc (Z6 Ob (Zc Zb Ze)) Ze)) (Z6 kX (Zc Zb Ze)))))) (Zv qq) ZA)
   (Zk (eu (vf (Zc (Z6 kX (Zc Zb Ze)) Ze)) Zi
   (Z0 (vb (Zp (Zj Fo (Zj ZK Zb (Zj AW Zb Zm)) Zb)) (Zp (Zj Ln (Zj ZK Zb Zb) (Zt (Zc (Zj qD Zb (Zj ZK Zb (Zj AW Zb Zm))) (Zc Zb Ze)))))) (Zv qq) ZA))
   (Zv qq))))))⟩
 rintro us A Q ⟨lc,l,c,ns,rs,rfl,hc,hl,df,fh,di,bO,zj,lz,q⟩;walk_at "o";intro d hd;have uy:l≠d:=eF hl hd;walk_at "d";refine⟨⟨_,by rw[Zn uy];exact hl⟩,?_⟩;refine nF ((ns.zip rs).map fun p=>.tup [.str p.1,p.2.toU]) (fun k ρ A2=>∃(ep:Nat)(x3 x4 x5 x6:Option U),ρ=[some (.ref lc),some (.ref l),some (.ref d),x3,x4,x5,x6]/\A2=af A d (dS P w ep ((ns.zip (rs.map Rl.toU)).take k))) ⟨0,_,_,_,_,rfl,rfl⟩ (fun k ρ A2 _ hq=>by obtain⟨_,_,_,_,_,_,e⟩:=hq;rw[e,Zn uy];exact hl) ?_ ?_
 .rintro k u ρ A2 hu ⟨ep,x3,x4,x5,x6,rfl,rfl⟩;obtain⟨p,hp,rfl⟩:=Z9 hu;obtain⟨hz,hr⟩:=List.getElem?_zip_eq_some.mp hp;have zi:(ns.zip (rs.map Rl.toU))[k]? = some (p.1,p.2.toU):=List.getElem?_zip_eq_some.mpr ⟨hz,by rw[Yi,hr];rfl⟩;have hk:=(Yh.mp zi).1;have pP:p.1∉((ns.zip (rs.map Rl.toU)).take k).map (·.1):=by
   rw[wx,nM (by rw[Yc];lia)];intro hm;obtain⟨j,hj,e⟩:=pW.mp hm;rw[YK]at hj;rw[List.getElem_take]at e;have:=jU di (i:=j) (j:=k) (x:=p.1) (by rw[Yg (by lia),e]) hz;lia
  walk_at "d";refine⟨rfl,d,p.1,ep,_,rfl,rfl,Zd,?_,fun aI=>⟨aI,_,_,_,_,rfl,?_⟩⟩
  .rw[YK,List.length_zip,gA];lia
  .rw[ZP,nK pP,List.take_succ_eq_append_getElem hk,(Yh.mp zi).2]
 rintro ρ A2 ⟨ep,x3,x4,x5,x6,rfl,rfl⟩;rw[Yc,nV (by rw[List.length_zip,List.length_zip,Yc];exact Yj _)];have e1:=Ext.new hd (o:=dS P w ep (ns.zip (rs.map Rl.toU)));have d1:af A d (dS P w ep (ns.zip (rs.map Rl.toU))) d=some (dS P w ep (ns.zip (rs.map Rl.toU))):=Zd;generalize af A d (dS P w ep (ns.zip (rs.map Rl.toU)))=A1 at e1 d1 ⊢;walk_at "d";refine⟨d,ns,rs,ep,rfl,d1,df,fh,di,fun r hr=>(bO r hr).1,fun d' aI kus gB hE=>?_⟩;have e3:=Ext.new gB (o:=dS P w aI kus);have d3:af A1 d' (dS P w aI kus) d'=some (dS P w aI kus):=Zd;generalize af A1 d' (dS P w aI kus)=A3 at e3 d3 ⊢;have c3:=e3 _ _ (e1 _ _ hc);have r3:=e3 _ _ d1;replace e3:=e1.trans e3;walk_at "d";have i5:0<c.length/\c.length<=60:=⟨List.length_pos_iff.mpr zj.ne,YE (lh zj.nd lz) fh⟩;refine mD false (fun C hC=>?_) fun A4 e4=>?_
 .walk_at "d";obtain⟨Hy,v8⟩:=Gj c c.length (Yj _);have pf:(ij c c.length).length=c.length:=(Oj Hy zj.nd fun z=>by rw[v8,Y4]).length_eq;refine⟨_,c3,Zw rfl ⟨_,c3,Zw (Yu ?_) ⟨c,c3,by show c.length+1<4096;lia,fun p hp=>⟨_,Zd,_,Ext.new hp _ _ c3,?_⟩⟩⟩⟩
  .rw[Yc];lia
  .rw[pf,Yc,YA rfl];exact hC _ (Ext.new hp)
 refine Zw rfl ?_;walk_at "d";refine⟨_,e4 _ _ c3,by rw[Yc];lia,by rw[Yc];lia,?_⟩;rw[Yc,show((c.length:Int)).toNat=c.length by lia];refine xM (n:=c.length) (fun k ρ A5=>∃x6,ρ=[some (.ref lc),some (.ref l),some (.ref d),x3,x4,some (.ref d'),x6]/\Ext A4 A5) ⟨_,rfl,Ext.refl _⟩ ?_ ?_
 .rintro k ρ A5 hk ⟨x6,rfl,e5⟩;obtain⟨b,hb⟩:∃b,c[k]? = some b:=⟨_,Yg hk⟩;obtain⟨a,ha,sd,sv⟩:∃a,a∈c/\uz ns rs a b/\cm (c.map U.str) (0+(k:Int)-1)=some (.str a):=by
   rcases k with _|k
   .obtain⟨a,ha⟩:∃a,c[c.length-1]? = some a:=⟨_,Yg (by lia)⟩;refine⟨a,Yk ha,zj.la a b ha hb,?_⟩;show(jr (c.map U.str).length (-1)).bind _=_;unfold jr;rw[if_neg (by decide),Yc,if_pos (by lia),Option.bind_some,show((-1:Int)+(c.length:Int)).toNat=c.length-1 by lia,Yi,ha];rfl
   .obtain⟨a,ha⟩:∃a,c[k]? = some a:=⟨_,Yg (by lia)⟩;refine⟨a,Yk ha,zj.st k a b ha hb,?_⟩;rw[show(0:Int)+((k+1:Nat):Int)-1=(k:Int) by lia];exact ZU (by rw[Yi,ha];rfl)
  have e6:=e4.trans e5;obtain⟨i,r,hi,hr,hl⟩:=sd;have iH:=bO r (Yk hr);have w6:=qZ r;walk_at "d";refine mD false (fun C hC=>?_) fun A6 f6=>?_
  .walk_at "d";refine⟨_,_,e6 _ _ c3,sv,?_⟩;walk_at "d";refine⟨ep,_,e6 _ _ r3,?_⟩;rw[uf (by rw[nM (by rw[Yc];lia)];exact Yk hi)];refine Zw rfl ⟨_,_,e6 _ _ c3,by rw[Int.zero_add];exact ZU (by rw[Yi,hb];rfl),_,_,e6 _ _ c3,sv,?_⟩;walk_at "d";refine⟨ep,_,_,e6 _ _ r3,qT di hi (by rw[Yi,hr];rfl),r,d',aI,kus,_,rfl,by lia,iH.1,e6 _ _ d3,hE,fun B l2 eB cZ hB=>?_⟩;walk_at "d";refine⟨_,hB,rfl,Hg,?_⟩;rw[Hf,YA (show b∈r.lean (lV (iF ns rs) ns.length)from hl)];exact hC _ eB
  refine Zw rfl ?_;walk_at "d";exact⟨_,rfl,e5.trans f6⟩
 .rintro ρ A5 ⟨x6,rfl,e5⟩;walk_at "d";exact fg (q _ (e3.trans (e4.trans e5)))
end
def gf(H:List Str):Rl->Bool
 | .nothing=>true
 | .bead _=>false
 | .named z=>decide (z∈H)
 | .or x y=>gf H x||gf H y
 | .a7 x y=>gf H x&&gf H y
 | .hold k _=>decide (k<3)
inductive Gd (low H:List Str):Rl->Prop
 | nothing:Gd low H .nothing
 | bead {c:Str}:Gd low H (.bead c)
 | named {z:Str}:z∈low->Gd low H (.named z)
 | or {x y:Rl}:Gd low H x->Gd low H y->Gd low H (.or x y)
 | a7 {x y:Rl}:Gd low H x->Gd low H y->Gd low H (.a7 x y)
 | hold {k:Nat} {x:Rl}:Gd low H x->gf H x=false->Gd low H (.hold k x)
 | HG {c z:Str}:Gd low H (.a7 (.bead c) (.named z))
def Gd.zero(he:∀z∈low,e z=some 0->z∈H)(g:Gd low H r):r.lst e=some 0->gf H r=true:=by
 induction g with
 | nothing=>exact fun _=>rfl
 | bead=>exact fun h=>nomatch h
 | named hz=>exact fun h=>YA (he _ hz h)
 | or _ _ i j =>
  intro h;simp only[gf,Bool.or_eq_true];exact(c9 h).imp i j
 | a7 _ _ i j =>
  intro h;obtain⟨a,c,h1,h2,h3⟩:=ph h;have ha:a=0:=by lia
  have hc:c=0:=by lia
  subst ha hc;simp only[gf,i h1,j h2,Bool.and_self]
 | @hold k x _ hh i =>
  intro h;simp only[Rl.lst]at h;split at h
  .rename_i hk;exact YA hk
  .rw[i h]at hh;cases hh
 | HG =>
  intro h;obtain⟨a,c,h1,h2,h3⟩:=ph h;cases h1;lia
def Gd.hp(he:∀z∈low,e z=some 0->z∈H)(g:Gd low H r):r.hp e=false:=by
 induction g with
 | or _ _ i j=>simp only[Rl.hp,i,j,Bool.or_self]
 | a7 _ _ i j=>simp only[Rl.hp,i,j,Bool.or_self]
 | hold g hh i =>
  simp only[Rl.hp,i,Bool.or_false];exact Yu fun h=>by rw[g.zero he h]at hh;cases hh
 | _=>rfl
def Gd.lean(g:Gd low H r):∀z∈r.lean e,z∈low:=by
 induction g with
 | nothing=>exact fun z h=>nomatch h
 | bead=>exact fun z h=>nomatch h
 | named hz=>exact fun z h=>by rw[Yp.mp h];exact hz
 | or _ _ i j=>exact fun z h=>(Yy.mp h).elim (i z) (j z)
 | a7 _ _ i j =>
  intro z h;refine(Yy.mp h).elim (fun h=>?_) fun h=>?_
  .split at h
   .exact i z h
   .cases h
  .split at h
   .exact j z h
   .cases h
 | hold _ _ i=>exact i
 | @HG c y =>
  intro z h;refine(Yy.mp h).elim (fun h=>?_) fun h=>?_
  .split at h<;>cases h
  .split at h
   .rename_i hh;cases hh
   .cases h
structure cU (ns low H:List Str) (r:Rl):Prop where
 gd:Gd low H r
 wd:r.wd=true
 nm:∀z∈r.bb,z∈ns
def PN(P:Program)(w:World)(n:Nat):bQ:=fun us A Q=>∃(r:Rl)(d:Addr)(ep:Nat)(kus:List (Str×U)),us=[r.toU,.ref d]/\r.dep<=n/\A d=some (dS P w ep kus)/\Q (.bl (gf (kus.map (·.1)) r)) A
def ZvW:∀us A Q,¬PN P w 0 us A Q:=fun us A Q aF=>by obtain⟨r,_,_,_,_,h,_⟩:=aF;have:=r.bB;lia
def Zt7:List Str:=["red","ash","blue","redder","as"]
def KL(h0:0<=k)(h5:k<5):∃c,cm (Zt7.map U.str) k=some (.str c)/\fv c=true:=by
 obtain⟨n,rfl⟩:=rg h0;have hn:n<5:=by lia
 rcases n with _|_|_|_|_|n
 .exact⟨"red",rfl,by decide +kernel⟩
 .exact⟨"ash",rfl,by decide +kernel⟩
 .exact⟨"blue",rfl,by decide +kernel⟩
 .exact⟨"redder",rfl,by decide +kernel⟩
 .exact⟨"as",rfl,by decide +kernel⟩
 .lia
def ZkD{α:Type}{kus:List (Str×α)}:(kus.lookup z).isSome=decide (z∈kus.map (·.1)):=by
 by_cases h:z∈kus.map (·.1)
 .rw[uf h,YA h]
 .rw[yD h,Yu h];rfl
def Zg5:bQ:=fun us A Q=>∃z:Int,us=[.int z]/\∀c,fv c=true->Q (.str c) A
section
include T
def PQ:T.pG.Ok aQ 1 (a6 K Zg5):=by
 apply T.pG.bF;walk_at "f";exact fun S hr=>⟨_,(Zh (Zu (ZH aT (ZW (qm (xs:=["red","ash","blue","redder","as"]) rfl)) (ZO dI (pv 0) Zl) (fun _ _=>rfl)))),(Zv (Zj ZK (ZV sA) (Zj dM Zb Zm)))⟩;rintro us A Q ⟨z,rfl,q⟩;walk_at "o";have h5:0<=z % 5/\z % 5<5:=⟨kH _ (by decide),m4 _ (by decide)⟩;obtain⟨c,hc,hw⟩:=KL h5.1 h5.2;exact⟨show 5<=sizeLine by decide,fun p hp=>⟨by decide,_,_,Zd,hc,vo (Ext.new hp) (q c hw)⟩⟩
def Zpb(n:Nat):T.gm.Ok aQ (n+1) (a6 K (PN P w n)):=by
 induction n with
 | zero=>exact oZ T.gm.f T.gm.s ZvW
 | succ n kD =>
  apply T.gm.bF;walk_at "f";exact fun S hr=>⟨_,(Zf (ZT (Zo (cN hr) (ZH aT (pv 0) Zl (fun _ _=>rfl)) Zr (ZF _)) (Zh (Zu (Qk (T.gm.pc kD hr (Za (ZH aT (pv 0) Zl (fun _ _=>rfl)) (Za (pv 1) Zg))) (z8 (T.gm.pc kD hr (Za (ZH aT (pv 0) Zl (fun _ _=>rfl)) (Za (pv 1) Zg))))))) Zz)
   (Zf (ZT (Zo (cN hr) (ZH aT (pv 0) Zl (fun _ _=>rfl)) Zr (ZF _)) (Zh (Zu (C_ (T.gm.pc kD hr (Za (ZH aT (pv 0) Zl (fun _ _=>rfl)) (Za (pv 1) Zg))) (z8 (T.gm.pc kD hr (Za (ZH aT (pv 0) Zl (fun _ _=>rfl)) (Za (pv 1) Zg))))))) Zz)
   (Zf (ZT (Zo (cN hr) (ZH aT (pv 0) Zl (fun _ _=>rfl)) Zr (ZF _)) (Zh (Zu (qg Bn (ZH aT (pv 0) Zl (fun _ _=>rfl)) (pv 1) (by with_unfolding_all rfl)))) Zz)
   (Zh (Zu (qg u5 (ZH aT (pv 0) Zl (fun _ _=>rfl)) (ZJ (qm (xs:=["nothing","row","bag","choice"]) rfl)) (by with_unfolding_all rfl))))))),(Zk (dY (Zp (Zj cK (Zj ZK Zb Zm) Zy)) (Zv (SM (Zt (Zc (Zj ZK Zb Zm) (Zc Zb Ze))) (Zt (Zc (Zj ZK Zb Zm) (Zc Zb Ze))))) ZA)
   (Zk (dY (Zp (Zj cK (Zj ZK Zb Zm) Zy)) (Zv (Ew (Zt (Zc (Zj ZK Zb Zm) (Zc Zb Ze))) (Zt (Zc (Zj ZK Zb Zm) (Zc Zb Ze))))) ZA)
   (Zk (dY (Zp (Zj cK (Zj ZK Zb Zm) Zy)) (Zv (Zj Bo (Zj ZK Zb Zm) Zb)) ZA)
   (Zv (Zj vk (Zj ZK Zb Zm) (ZI sA))))))⟩
  rintro us A Q ⟨r,d,ep,kus,rfl,hd,hA,q⟩;refine⟨rfl,?_⟩;walk_at "s";cases r with
  | nothing =>
   unfold Rl.toU;walk_at "g";exact Zw (by decide +kernel) (Zw (by decide +kernel) (Zw (by decide +kernel) ⟨d6,rfl,rfl,by rw[show dD (.str "nothing") [.str "nothing",.str "row",.str "bag",.str "choice"]=true by decide +kernel];exact fg q⟩))
  | bead z =>
   unfold Rl.toU;walk_at "g";exact Zw (by decide +kernel) (Zw (by decide +kernel) (Zw (by decide +kernel) ⟨d6,rfl,rfl,by rw[show dD (.str "bead") [.str "nothing",.str "row",.str "bag",.str "choice"]=false by decide +kernel];exact fg q⟩))
  | named z =>
   unfold Rl.toU;walk_at "g";refine Zw (by decide +kernel) (Zw (by decide +kernel) (ZS rfl ⟨ep,_,hA,?_⟩));rw[ZkD];exact fg q
  | or x y =>
   unfold Rl.toU;walk_at "g";simp only[Rl.dep]at hd;refine ZS rfl ⟨x,d,ep,kus,rfl,by lia,hA,_,rfl,?_⟩;simp only[gf]at q;cases h:gf (kus.map (·.1)) x with
   | true=>rw[h]at q;exact ZS rfl (fg q)
   | false=>rw[h]at q;exact Zw rfl ⟨y,d,ep,kus,rfl,by lia,hA,fg q⟩
  | a7 x y =>
   unfold Rl.toU;walk_at "g";simp only[Rl.dep]at hd;refine Zw (by decide +kernel) (ZS rfl ⟨x,d,ep,kus,rfl,by lia,hA,_,rfl,?_⟩);simp only[gf]at q;cases h:gf (kus.map (·.1)) x with
   | true=>rw[h]at q;exact ZS rfl ⟨y,d,ep,kus,rfl,by lia,hA,fg q⟩
   | false=>rw[h]at q;exact Zw rfl (fg q)
  | hold k x =>
   unfold Rl.toU;walk_at "g";have hk:∀z∈(["nothing","bead","name","or","by"]:List Str),decide (cA k=z)=false:=fun z hz=>Yu (xY k hz);refine Zw (hk _ (by decide +kernel)) (Zw (hk _ (by decide +kernel)) (Zw (hk _ (by decide +kernel)) ⟨d6,rfl,rfl,?_⟩));have e:dD (.str (cA k)) [.str "nothing",.str "row",.str "bag",.str "choice"]=decide (k<3):=by
    rcases k with _|_|_|k
    .decide +kernel
    .decide +kernel
    .decide +kernel
    .rw[Yu (by lia),show cA (k+1+1+1)=cA 3 from rfl];decide +kernel
   rw[e];exact fg q
end
def eY(rs:List Rl):Nat:=(rs.map Rl.size).sum
def Cp(a b:List Rl):eY (a++b)=eY a+eY b:=by unfold eY;rw[Ys,List.sum_append_nat]
def Cq(a:Rl):eY [a]=a.size:=by simp[eY]
def HH:∀rs:List Rl,rs.length<=eY rs
 | []=>Yj _
 | r :: rs=>by
  have:=HH rs
  have h:=r.eG
  have e:eY (r::rs)=r.size+eY rs:=by simp[eY]
  rw[e,List.length_cons];lia
def HI:∀ {rs:List Rl},r∈rs->r.size<=eY rs
 | x :: rs,h=>by
  have e:eY (x::rs)=x.size+eY rs:=by simp[eY]
  rcases Yo.mp h with rfl|h
  .lia
  .have:=HI h;lia
def Ai(h:ns≠[]):∃z∈ns,0<(ns.length:Int)/\cm (ns.map U.str) (t % (ns.length:Int))=some (.str z):=by
 have hp:0<(ns.length:Int):=by have:=List.length_pos_iff.mpr h;lia
 have h0:=kH t (show(ns.length:Int)≠0 by lia);have h1:=m4 t hp;obtain⟨n,hn⟩:=rg h0;have hl:n<ns.length:=by lia
 refine⟨ns[n],uI hl,hp,?_⟩;rw[hn];exact ZU (by rw[Yi,Yg hl];rfl)
def ZtA(h:k=5\/k=6\/k=7):∃(z:Str)(f:Rl->Rl->Rl),cm [U.str "or",U.str "by",U.str "or"] (k-5)=some (.str z)/\(∀x y,U.tup [.str z,x.toU,y.toU]=(f x y).toU/\(f x y).size=x.size+y.size+1)/\∀ns low H x y,cU ns low H x->cU ns low H y->cU ns low H (f x y):=by
 have ho:∀ns low H x y,cU ns low H x->cU ns low H y->cU ns low H (.or x y):=fun ns low H x y a b=>⟨.or a.gd b.gd,by simp only[Rl.wd,a.wd,b.wd,Bool.and_self],fun z hz=>(Yy.mp hz).elim (a.nm z) (b.nm z)⟩;have hb:∀ns low H x y,cU ns low H x->cU ns low H y->cU ns low H (.a7 x y):=fun ns low H x y a b=>⟨.a7 a.gd b.gd,by simp only[Rl.wd,a.wd,b.wd,Bool.and_self],fun z hz=>(Yy.mp hz).elim (a.nm z) (b.nm z)⟩;rcases h with rfl|rfl|rfl
 .exact⟨_,.or,rfl,fun x y=>⟨rfl,rfl⟩,ho⟩
 .exact⟨_,.a7,rfl,fun x y=>⟨rfl,rfl⟩,hb⟩
 .exact⟨_,.or,rfl,fun x y=>⟨rfl,rfl⟩,ho⟩
def Kx(l:Addr)(A B:az):Prop:=∀y u,y≠l->A y=some u->B y=some u
def Kx.of(e:Ext A B):Kx l A B:=fun y u _ h=>e y u h
def Kx.upd(e:Kx l A B):Kx l A (af B l o):=fun y u n h=>by rw[Zn n];exact e y u n h
def Kx.new(e:Kx l A B)(hp:B p=none):Kx l A (af B p o):=fun y u n h=>Ext.new hp y u (e y u n h)
def Kx.put(e:Kx l A B):Ext (af A l o) (af B l o):=fun y u h=>by
 by_cases n:y=l
 .rw[n,Zd]at h ⊢;exact h
 .rw[Zn n]at h ⊢;exact e y u n h
def PR:dD (.int k) [.int 5,.int 6,.int 7]=decide (k=5\/k=6\/k=7):=by
 unfold dD ng;simp only[Yr,YaY,List.any_cons,List.any_nil,U.toV,lR,Bool.or_false];by_cases h:k=5\/k=6\/k=7
 .rw[YA h];rcases h with rfl|rfl|rfl<;>rfl
 .rw[Yu h];simp only[Bool.or_eq_false_iff,Yw];exact⟨fun e=>h (by lia),fun e=>h (by lia),fun e=>h (by lia)⟩
def iQ{α:Type}{a b c:α}:[a,b,c].length<=sizeLine:=by show 3<=sizeLine;decide
def Mj(P:Program)(w:World):bQ:=fun us A Q=>∃(l nl ll d:Addr)(c:Int)(rs:List Rl)(ns low:List Str)(ep:Nat)(kus:List (Str×U)),us=[.ref l,.int c,.ref nl,.ref ll,.ref d]/\A l=some (.lst (rs.map Rl.toU))/\A nl=some (.lst (ns.map U.str))/\A ll=some (.lst (low.map U.str))/\A d=some (dS P w ep kus)/\0<=c/\ns≠[]/\(∀z∈ns,fv z=true)/\(∀z∈low,z∈ns)/\(∀r∈rs,cU ns low (kus.map (·.1)) r)/\eY rs<=27 /\
 ∀kE,(∀r∈kE,cU ns low (kus.map (·.1)) r)->eY kE<=eY rs+3->kE≠[]->Q .ay (af A l (.lst (kE.map Rl.toU)))
section
include T
def Zt5 : T.tT.Ok aQ 62 (a6 K (Mj P w)):=by
 have uA:=PQ T;have kD:=Zpb T 60;apply T.tT.bF;walk_at "f";exact fun S hr=>⟨_,(Zf (ZB (i:=5) S.nd rfl (Or.inl rfl) (ZO dI (pv 1) Zl))
   (Zf (ZB (i:=6) S.nd rfl (Or.inl rfl) (ZO nh (pv 1) Zl))
   (Zf (ZB (i:=7) S.nd rfl (Or.inl rfl) (ZJ (Za Zr (Za (T.pG.pc uA hr (Za (pv 6) Zg)) Zg))))
   (Zh (ZT (Zo (cN hr) (pv 5) Zl (ZF _)) (Zh (Z1 (gF Yx YM YN Z4 (pv 0) (Za (ZJ (Za Zr Zg)) Zg)))) (Zh (ZT (Zo (cN hr) (pv 5) Zl (ZF _)) (Zh (Z1 (gF Yx YM YN Z4 (pv 0) (Za (ZJ (Za Zr (Za (pv 7) (Za (ZJ (Za Zr (Za (ZH aT (pv 2) (ZO dI (ZO nh (pv 6) Zl) (b8 kR T.bz (Za (pv 2) Zg))) (fun _ _=>rfl)) Zg))) Zg)))) Zg)))) (Zh (ZT ((oh (Zo (cN hr) (pv 5) Zl (ZF _)) (qf (Zo (u7 hr) (pv 3) (ZW Zg) (ZF _))))).pt (Zh (Z1 (gF Yx YM YN Z4 (pv 0) (Za (ZJ (Za Zr (Za (ZH aT (pv 3) (ZO dI (pv 6) (b8 kR T.bz (Za (pv 3) Zg))) (fun _ _=>rfl)) Zg))) Zg)))) (Zh (ZT ((oh (Zo u5 (pv 5) (ZJ (Za Zl (Za Zl (Za Zl Zg)))) (by with_unfolding_all rfl)) (qf (Zo xh (b8 kR T.bz (Za (pv 0) Zg)) Zl (ZF _))))).pt (Zf (ZB (i:=8) S.nd rfl (Or.inl rfl) (uV Yx uD uE uW (pv 0)))
   (Zh (Z1 (gF Yx YM YN Z4 (pv 0) (Za (ZJ (Za (ZH aT (ZW (qm (xs:=["or","by","or"]) rfl)) (ZO Au (pv 5) Zl) (fun _ _=>rfl)) (Za (uV Yx uD uE uW (pv 0)) (Za (pv 8) Zg)))) Zg))))) (Zh (ZT ((oh (Zo xh (pv 5) Zl (ZF _)) (oh (Zo Kr (pv 5) Zl (ZF _)) (qf (Zo xh (b8 kR T.bz (Za (pv 0) Zg)) Zl (ZF _)))))).pt (Zf (ZB (i:=9) S.nd rfl (Or.inl rfl) (uV Yx uD uE uW (pv 0)))
   (Zf (ZT (iS (T.gm.pc kD hr (Za (pv 9) (Za (pv 4) Zg)))) (Zh (ZB (i:=9) S.nd rfl (Or.inl rfl) (ZJ (Za Zr (Za (pv 7) (Za (pv 9) Zg)))))) Zz)
   (Zh (Z1 (gF Yx YM YN Z4 (pv 0) (Za (ZJ (Za (ZH aT (ZW (qm (xs:=["row","bag","choice","ring"]) rfl)) (ZO Au (pv 5) Zl) (fun _ _=>rfl)) (Za (pv 9) Zg))) Zg)))))) (Zh (Z1 (gF Yx YM YN Z4 (pv 0) (Za (pv 7) Zg))))))))))))))))),(Zk (Zq (Zj dM Zb Zm) Zi)
   (Zk (Zq (Zj nA Zb Zm) Zi)
   (Zk (Zq (ZI (Zc Zy (Zc (Zt (Zc Zb Ze)) Ze))) Zi)
   (Z0 (Zp (Zj cK Zb Zm)) (Z5 (gI ZR jx Zb (Zc (ZI (Zc Zy Ze)) Ze))) (Z0 (Zp (Zj cK Zb Zm)) (Z5 (gI ZR jx Zb (Zc (ZI (Zc Zy (Zc Zb (Zc (ZI (Zc Zy (Zc (Zj ZK Zb (Zj dM (Zj nA Zb Zm) (Z6 kX (Zc Zb Ze)))) Ze))) Ze)))) Ze))) (Z0 (oR (Zp (Zj cK Zb Zm)) (Zp (Zj vh Zb (ZV Ze)))) (Z5 (gI ZR jx Zb (Zc (ZI (Zc Zy (Zc (Zj ZK Zb (Zj dM Zb (Z6 kX (Zc Zb Ze)))) Ze))) Ze))) (Z0 (oR (Zp (Zj vk Zb (ZI (Zc Zm (Zc Zm (Zc Zm Ze)))))) (Zp (Zj xH (Z6 kX (Zc Zb Ze)) Zm))) (Zk (Zq (vd ZR vn Zb) Zi)
   (Z5 (gI ZR jx Zb (Zc (ZI (Zc (Zj ZK (ZV sA) (Zj AW Zb Zm)) (Zc (vd ZR vn Zb) (Zc Zb Ze)))) Ze)))) (Z0 (oR (Zp (Zj xH Zb Zm)) (oR (Zp (Zj Li Zb Zm)) (Zp (Zj xH (Z6 kX (Zc Zb Ze)) Zm)))) (Zk (Zq (vd ZR vn Zb) Zi)
   (Zk (Z0 (iN (Zt (Zc Zb (Zc Zb Ze)))) (Zq (ZI (Zc Zy (Zc Zb (Zc Zb Ze)))) Zi) ZA)
   (Z5 (gI ZR jx Zb (Zc (ZI (Zc (Zj ZK (ZV sA) (Zj AW Zb Zm)) (Zc Zb Ze))) Ze))))) (Z5 (gI ZR jx Zb (Zc Zb Ze)))))))))))⟩
 rintro us A Q ⟨l,nl,ll,d,c,rs,ns,low,ep,kus,rfl,hl,fh,qU,hd,hc,aR,iI,mX,bO,jg,q⟩;walk_at "o";have hk:0<=c % 13/\c % 13<13:=⟨kH _ (by decide),m4 _ (by decide)⟩;refine⟨by decide,⟨by decide,by decide⟩,c / 13,rfl,fun cc kL=>⟨ck,?_⟩⟩;generalize c % 13=k at hk ⊢;generalize c / 13=t;have df:=HH rs;have Cr:(rs.map Rl.toU).length=rs.length:=Yc _;have fin:∀(A3:az)(r:Rl),Ext A A3->cU ns low (kus.map (·.1)) r->r.size<=3->Fg Q .ay (af A3 l (.lst (rs.map Rl.toU++[r.toU]))):=fun A3 r e h1 h2=>by
  have:=q (rs++[r]) (fun x hx=>(Yy.mp hx).elim (bO x) fun hx=>by rw[Yp.mp hx];exact h1) (by rw[Cp,Cq];lia) (by simp);rw[Ys]at this;exact vo e.put this
 have hbd:cU ns low (kus.map (·.1)) (.bead cc):=⟨.bead,kL,fun z hz=>nomatch hz⟩;by_cases h2:k=2
 .refine mm (fun B hB=>?_) ?_
  .walk_at "d";rw[YA h2];exact hB
  walk_at "d";exact⟨⟨_,hl⟩,qz,_,hl,ZX (by lia),fin A .nothing (Ext.refl A) ⟨.nothing,rfl,fun z hz=>nomatch hz⟩ (by decide)⟩
 refine iZ (fun B hB=>?_) ?_
 .walk_at "d";rw[Yu h2];exact hB
 by_cases h3:k=3
 .refine mm (fun B hB=>?_) ?_
  .walk_at "d";rw[YA h3];exact hB
  obtain⟨z,hz,hp,sv⟩:=Ai (t:=t / 5) aR;walk_at "d";refine⟨⟨_,hl⟩,⟨by decide,by decide⟩,_,fh,?_⟩;rw[Yc];exact⟨hp,_,_,fh,sv,ck,Ta,_,hl,ZX (by lia),fin A (.a7 (.bead cc) (.named z)) (Ext.refl A) ⟨.HG,by simp only[Rl.wd,kL,iI z hz,Bool.and_self],fun y hy=>by rw[Yp.mp hy];exact hz⟩ (Yj 3)⟩
 refine iZ (fun B hB=>?_) ?_
 .walk_at "d";rw[Yu h3];exact hB
 have zk:∀z∈low,PyData.strOk z=true:=fun z hz=>L5 (iI z (mX z hz));by_cases h4:k=4/\low≠[]
 .refine mD true (fun B hB=>?_) fun B eB=>ZS rfl ?_
  .walk_at "d";refine ZS (YA h4.1) ⟨by decide,fun p hp=>Cf zk (zs:=[]) (fun z hz=>nomatch hz) (Ext.new hp _ _ qU) Zd ⟨_,rfl,?_⟩⟩;rw[Yu h4.2];exact hB _ (Ext.new hp)
  obtain⟨z,hz,hp,sv⟩:=Ai (t:=t) h4.2;walk_at "d";refine⟨⟨_,eB _ _ hl⟩,_,eB _ _ qU,?_⟩;rw[Yc];exact⟨hp,_,_,eB _ _ qU,sv,ck,_,eB _ _ hl,ZX (by lia),fin B (.named z) eB ⟨.named hz,iI z (mX z hz),fun y hy=>by rw[Yp.mp hy];exact mX z hz⟩ (show 1<=3 by decide)⟩
 refine mD false (fun B hB=>?_) fun B eB=>Zw rfl ?_
 .walk_at "d";refine kc (fun h=>⟨by decide,fun p hp=>Cf zk (zs:=[]) (fun z hz=>nomatch hz) (Ext.new hp _ _ qU) Zd ⟨_,rfl,?_⟩⟩) fun _=>hB A (Ext.refl A);have:low=[]:=Classical.byContradiction fun e=>h4 ⟨lF h,e⟩;rw[YA this];exact hB _ (Ext.new hp)
 replace hl:=eB _ _ hl;replace hd:=eB _ _ hd;have zl:∀(A3:az)(kE:List Rl),Kx l A A3->(∀r∈kE,cU ns low (kus.map (·.1)) r)->eY kE<=eY rs+3->kE≠[]->Fg Q .ay (af A3 l (.lst (kE.map Rl.toU))):=fun A3 kE e h1 h2 h3=>vo e.put (q kE h1 h2 h3);by_cases h5:(k=5\/k=6\/k=7)/\1<rs.length
 .refine mm (fun B hB=>?_) ?_
  .walk_at "d";refine⟨iQ,rfl,rfl,?_⟩;rw[PR];refine ZS (YA h5.1) ⟨_,hl,?_⟩;rw[Cr,YA (by lia)];exact hB
  obtain⟨cb,x,y,rfl⟩:=Mi h5.2;obtain⟨zz,f,hz,hf,hR⟩:=ZtA h5.1;rw[Ys]at hl;walk_at "d";refine⟨⟨_,hl⟩,_,_,hl,⟨_,Zd⟩,iQ,fun p hp=>⟨_,_,Zd,hz,?_⟩⟩;have bx:p≠l:=fun e=>by rw[e,Zd]at hp;cases hp
  have h3:af (af B l (.lst ((cb++[x]).map Rl.toU))) p (.lst [.str "or",.str "by",.str "or"]) l=some (.lst (cb.map Rl.toU++[x.toU])):=by rw[Zn (Ne.symm bx),Zd,Ys];rfl
  refine⟨⟨_,h3⟩,_,_,h3,iQ,_,Zd,ZX (by rw[Yc];simp only[Yt,List.length_cons,List.length_nil]at df;lia),?_⟩;rw[ZP,(hf x y).1];rw[show cb.map Rl.toU++[(f x y).toU]=(cb++[f x y]).map Rl.toU from by rw[Ys];rfl];refine zl _ _ ((Kx.of eB).upd.new hp) (fun r hr=>?_) ?_ (by simp)
  .rcases Yy.mp hr with hr|hr
   .exact bO r (by simp[hr])
   .rw[Yp.mp hr];exact hR _ _ _ x y (bO x (by simp)) (bO y (by simp))
  .simp only[Cp,Cq,(hf x y).2];lia
 refine iZ (fun B hB=>?_) ?_
 .walk_at "d";refine⟨iQ,rfl,rfl,?_⟩;rw[PR];refine kc (fun h=>⟨_,hl,?_⟩) fun _=>hB;rw[Cr,Yu fun h'=>h5 ⟨lF h,by lia⟩];exact hB
 by_cases h6:(7<k/\k<12)/\0<rs.length
 .refine mm (fun B hB=>?_) ?_
  .walk_at "d";refine ZS (YA h6.1.1) (ZS (YA h6.1.2) ⟨_,hl,?_⟩);rw[Cr,YA (by lia)];exact hB
  obtain⟨cb,x,rfl⟩:=TQ h6.2;obtain⟨j,hj⟩:=TR (k:=k-8) (by lia) (by lia);have hx:=bO x (by simp);rw[Ys]at hl;walk_at "d";refine⟨⟨_,hl⟩,_,_,hl,?_⟩;have uy:d≠l:=fun e=>by rw[e,hl]at hd;cases hd
  have FH:=HI (r:=x) (rs:=cb++[x]) (by simp);have O9:=qZ x;have h7 : ∀(y:Rl),cU ns low (kus.map (·.1)) y->gf (kus.map (·.1)) y=false->y.size<=x.size+2->EB (EA Ba Bb (mh 0) (qt (AH (qt (xB nE (Ey (Ex [U.str "row",U.str "bag",U.str "choice",U.str "ring"])) (xB (xI fun i j=>U.int (i-j)) (mh 5) (aC (U.int 8)))) (qt (mh 9) vc))) vc)) { nx:=fun _ A'=>Fg Q U.ay A',rt:=Fg Q } [some (.ref l),some (.int c),some (.ref nl),some (.ref ll),some (.ref d),some (.int k),some (.int t),some (.tup [.str "bead",.str cc]),none,some y.toU] (af B l (.lst (cb.map Rl.toU))):=fun y hy hh hs=>by
   walk_at "d";refine⟨⟨_,Zd⟩,d6,fun p hp=>⟨_,_,Zd,hj,ck,?_⟩⟩;have bx:p≠l:=fun e=>by rw[e,Zd]at hp;cases hp
   refine⟨_,by rw[Zn (Ne.symm bx),Zd],ZX (by rw[Yc];simp only[Yt,List.length_cons,List.length_nil]at df;lia),?_⟩;rw[show cb.map Rl.toU++[U.tup [.str (cA j),y.toU]]=(cb++[Rl.hold j y]).map Rl.toU from by rw[Ys];rfl];refine zl _ _ ((Kx.of eB).upd.new hp) (fun r hr=>?_) ?_ (by simp)
   .rcases Yy.mp hr with hr|hr
    .exact bO r (by simp[hr])
    .rw[Yp.mp hr];exact⟨.hold hy.gd hh,hy.wd,hy.nm⟩
   .simp only[Cp,Cq,Rl.size];lia
  walk_at "d";refine vt (gf (kus.map (·.1)) x) (fun B hB=>?_) ?_
  .walk_at "d";exact⟨x,d,ep,kus,rfl,by lia,by rw[Zn uy];exact hd,_,rfl,hB⟩
  cases hh:gf (kus.map (·.1)) x with
  | true =>
   refine ZS rfl ?_;walk_at "d";exact⟨iQ,h7 (.a7 (.bead cc) x) ⟨.a7 .bead hx.gd,by simp only[Rl.wd,kL,hx.wd,Bool.and_self],hx.nm⟩ rfl (by simp only[Rl.size];lia)⟩
  | false =>
   refine Zw rfl ?_;walk_at "d";exact h7 x hx hh (by lia)
 refine iZ (fun B hB=>?_) ?_
 .walk_at "d";refine kc (fun g1=>kc (fun g2=>⟨_,hl,?_⟩) fun _=>hB) fun _=>hB;rw[Cr,Yu fun h'=>h6 ⟨⟨lF g1,lF g2⟩,by lia⟩];exact hB
 walk_at "d";exact⟨⟨_,hl⟩,_,hl,ZX (by lia),fin B (.bead cc) eB hbd (show 1<=3 by decide)⟩
end
def Zji(P:Program)(w:World):bQ:=fun us A Q=>∃(cl nl ll d:Addr)(cs:List Int)(ns low:List Str)(ep:Nat)(kus:List (Str×U)),us=[.ref cl,.ref nl,.ref ll,.ref d]/\A cl=some (.lst (cs.map U.int))/\cs.length<=10/\A nl=some (.lst (ns.map U.str))/\A ll=some (.lst (low.map U.str))/\A d=some (dS P w ep kus)/\ns≠[]/\(∀z∈ns,fv z=true)/\(∀z∈low,z∈ns) /\
 ∀r,cU ns low (kus.map (·.1)) r->r.size<=60->Q r.toU A
def Zp9(h:k=0\/k=1):∃(z:Str)(f:Rl->Rl->Rl),cm [U.str "or",U.str "by"] k=some (.str z)/\(∀x y,U.tup [.str z,x.toU,y.toU]=(f x y).toU/\(f x y).size=x.size+y.size+1)/\∀ns low H x y,cU ns low H x->cU ns low H y->cU ns low H (f x y):=by
 have ho:∀ns low H x y,cU ns low H x->cU ns low H y->cU ns low H (.or x y):=fun ns low H x y a b=>⟨.or a.gd b.gd,by simp only[Rl.wd,a.wd,b.wd,Bool.and_self],fun z hz=>(Yy.mp hz).elim (a.nm z) (b.nm z)⟩;have hb:∀ns low H x y,cU ns low H x->cU ns low H y->cU ns low H (.a7 x y):=fun ns low H x y a b=>⟨.a7 a.gd b.gd,by simp only[Rl.wd,a.wd,b.wd,Bool.and_self],fun z hz=>(Yy.mp hz).elim (a.nm z) (b.nm z)⟩;rcases h with rfl|rfl
 .exact⟨_,.or,rfl,fun x y=>⟨rfl,rfl⟩,ho⟩
 .exact⟨_,.a7,rfl,fun x y=>⟨rfl,rfl⟩,hb⟩
def Ztk(k:Bool)(h1:∀B:Bool->az->Prop,B k A->c ρ A B)(h2:k=true->∀N:a8->az->Prop,N ρ A'->t { D with nx:=N } ρ A)(h3:k=false->∀N:a8->az->Prop,N ρ A'->e { D with nx:=N } ρ A)(h:D.nx ρ A'):o6 c t e D ρ A:=h1 _ (by
 cases k with
 | true=>exact gH rfl (h2 rfl D.nx h)
 | false=>exact jv (by decide) (h3 rfl D.nx h))
section
include T
def Zka:T.tU.Ok aQ 64 (a6 K (Zji P w)):=by
 have HJ:=Zt5 T;apply T.tU.bF;walk_at "f";exact fun S hr=>⟨_,(Zf (ZB (i:=4) S.nd rfl (Or.inl rfl) (ZW Zg))
   (Zf (ee YF rfl (dZ (pv 0)) (Zx (i:=5) S.nd rfl (Or.inl rfl))
   (Zh (Z1 (T.tT.pc HJ hr (Za (pv 4) (Za (ZO dI (pv 5) (ZO Av Zl Zl)) (Za (pv 1) (Za (pv 2) (Za (pv 3) Zg)))))))))
   (Zf (ZT (Zo (cN hr) (b8 kR T.bz (Za (pv 4) Zg)) Zl (ZF _)) (Zh (Z1 (gF Yx YM YN Z4 (pv 4) (Za (ZJ (Za Zr (Za Zr Zg))) Zg)))) Zz)
   (Zf (wI YF (Zo xh (b8 kR T.bz (Za (pv 4) Zg)) Zl (ZF _)) (Zf (ZB (i:=6) S.nd rfl (Or.inl rfl) (uV Yx uD uE uW (pv 4)))
   (Zh (Z1 (gF Yx YM YN Z4 (pv 4) (Za (ZJ (Za (ZH aT (ZW (Za Zr (Za Zr Zg))) (ZO dI (b8 kR T.bz (Za (pv 4) Zg)) Zl) (fun _ _=>rfl)) (Za (uV Yx uD uE uW (pv 4)) (Za (pv 6) Zg)))) Zg))))))
   (Zh (Zu (ZH aT (pv 4) Zl (fun _ _=>rfl)))))))),(Zk (Zq (ZV Ze) Zi)
   (Zk (eu (ZZ Z2 Zb) Zi
   (Z5 (Zt (Zc Zb (Zc (Zj dM Zb (Zj A9 Zm Zm)) (Zc Zb (Zc Zb (Zc Zb Ze))))))))
   (Zk (Z0 (Zp (Zj cK (Z6 kX (Zc Zb Ze)) Zm)) (Z5 (gI ZR jx Zb (Zc (ZI (Zc Zy (Zc Zy Ze))) Ze))) ZA)
   (Zk (xD (Zp (Zj xH (Z6 kX (Zc Zb Ze)) Zm)) (Zk (Zq (vd ZR vn Zb) Zi)
   (Z5 (gI ZR jx Zb (Zc (ZI (Zc (Zj ZK (ZV (Zc Zy (Zc Zy Ze))) (Zj dM (Z6 kX (Zc Zb Ze)) Zm)) (Zc (vd ZR vn Zb) (Zc Zb Ze)))) Ze)))))
   (Zv (Zj ZK Zb Zm))))))⟩
 rintro us A Q ⟨cl,nl,ll,d,cs,ns,low,ep,kus,rfl,i5,oF,fh,qU,hd,aR,iI,mX,q⟩;walk_at "o";refine⟨by decide,fun l hl=>⟨⟨_,Ext.new hl _ _ i5⟩,?_⟩⟩;refine nF (cs.map U.int) (fun k ρ A2=>∃(rs:List Rl)(x5 x6:Option U),ρ=[some (.ref cl),some (.ref nl),some (.ref ll),some (.ref d),some (.ref l),x5,x6]/\A2=af A l (.lst (rs.map Rl.toU))/\(∀r∈rs,cU ns low (kus.map (·.1)) r)/\eY rs<=3*k) ⟨[],_,_,rfl,rfl,fun r h=>(nomatch h),Y0 _⟩ (fun k ρ A2 _ aF=>by obtain⟨rs,_,_,_,e,_⟩:=aF;rw[e,Zn (eF i5 hl)];exact i5) ?_ ?_
 .rintro k u ρ A2 hu ⟨rs,x5,x6,rfl,rfl,bO,jg⟩;obtain⟨c,hc,rfl⟩:=Z9 hu;have hk:=(Yh.mp hc).1;walk_at "d";refine⟨⟨by decide,by decide,by decide⟩,by decide,l,nl,ll,d,_,rs,ns,low,ep,kus,rfl,Zd,Ext.new hl _ _ fh,Ext.new hl _ _ qU,Ext.new hl _ _ hd,kH _ (by decide),aR,iI,mX,bO,by lia,fun kE h1 h2 _=>⟨kE,_,_,rfl,by rw[ZP],h1,by lia⟩⟩
 rintro ρ A2 ⟨rs,x5,x6,rfl,rfl,bO,jg⟩;rw[Yc]at jg;walk_at "d";obtain⟨jQ,h1,h2,h3,h4⟩:∃jQ:List Rl,jQ≠[]/\(∀r∈jQ,cU ns low (kus.map (·.1)) r)/\eY jQ<=30/\jQ=if rs=[]then[.bead "red"]else rs:=by
  by_cases h:rs=[]
  .exact⟨[.bead "red"],by simp,fun r hr=>by rw[Yp.mp hr];exact⟨.bead,by decide +kernel,fun z hz=>nomatch hz⟩,by simp[eY,Rl.size],by rw[if_pos h]⟩
  .exact⟨rs,h,bO,by lia,by rw[if_neg h]⟩
 refine Ztk (decide (rs=[])) (A':=af A l (.lst (jQ.map Rl.toU))) (fun B hB=>?_) (fun h=>?_) (fun h=>?_) ?_
 .walk_at "d";refine⟨_,Zd,?_⟩;rw[Yc,show decide ((rs.length:Int)=0)=decide (rs=[])from decide_eq_decide.mpr (by rw[<- wk];lia)];exact hB
 .rw[if_pos (lF h)]at h4;subst h4;intro N hN;walk_at "d";refine⟨⟨_,Zd⟩,ck,_,Zd,?_⟩;rw[lF h];exact⟨ZX (Y0 _),by rw[ZP];exact hN⟩
 .rw[if_neg (of_decide_eq_false h)]at h4;subst h4;intro N hN;exact hN
 clear jg bO h4;walk_at "d";have hlen:=HH jQ;refine⟨fun m ρ A2=>∃(rs:List Rl)(x5 x6:Option U),m=rs.length/\ρ=[some (.ref cl),some (.ref nl),some (.ref ll),some (.ref d),some (.ref l),x5,x6]/\Kx l A A2/\A2 l=some (.lst (rs.map Rl.toU))/\rs≠[]/\(∀r∈rs,cU ns low (kus.map (·.1)) r)/\eY rs+rs.length<=60,⟨_,jQ,_,_,rfl,rfl,(Kx.of (Ext.refl A)).upd,Zd,h1,h2,by lia⟩,?_⟩;rintro m ρ A2 ⟨rs,x5,x6,rfl,rfl,e2,cZ,hn,bO,jg⟩;walk_at "d";refine⟨_,cZ,?_⟩;rw[Yc];refine kc (fun bD=>?_) fun bD=>?_
 .have bD:=lF bD;obtain⟨cb,x,y,rfl⟩:=Mi (ws:=rs) (by lia);rw[Ys]at cZ;refine⟨_,fun dh A' h=>h,?_⟩;walk_at "d";refine⟨⟨_,cZ⟩,_,_,cZ,⟨_,Zd⟩,ck,fun p hp=>?_⟩;have bx:p≠l:=fun e=>by rw[e,Zd]at hp;cases hp
  have h3:af (af A2 l (.lst ((cb++[x]).map Rl.toU))) p (.lst [.str "or",.str "by"]) l=some (.lst (cb.map Rl.toU++[x.toU])):=by rw[Zn (Ne.symm bx),Zd,Ys];rfl
  have hk:(((cb.map Rl.toU++[x.toU]).length:Nat):Int) % 2=0\/(((cb.map Rl.toU++[x.toU]).length:Nat):Int) % 2=1:=by lia
  obtain⟨zz,f,hz,hf,hR⟩:=Zp9 hk;refine⟨_,h3,by decide,_,_,Zd,hz,⟨_,h3⟩,_,_,h3,iQ,_,Zd,ZX (by rw[Yc];simp only[Yt,List.length_cons,List.length_nil]at jg;lia),?_⟩;rw[ZP,(hf x y).1,show cb.map Rl.toU++[(f x y).toU]=(cb++[f x y]).map Rl.toU from by rw[Ys];rfl];refine⟨_,?_,cb++[f x y],_,_,rfl,rfl,(e2.upd.new hp).upd,Zd,by simp,fun r hr=>?_,?_⟩
  .simp only[Yt,List.length_cons,List.length_nil];lia
  .rcases Yy.mp hr with hr|hr
   .exact bO r (by simp[hr])
   .rw[Yp.mp hr];exact hR _ _ _ x y (bO x (by simp)) (bO y (by simp))
  .simp only[Cp,Cq,(hf x y).2,Yt,List.length_cons,List.length_nil]at jg ⊢;lia
 .have bD:=of_decide_eq_false bD;cases rs with
  | nil=>exact absurd rfl hn
  | cons r rs =>
   walk_at "d";refine⟨_,_,cZ,ZU (j:=0) rfl,vo (fun y u h=>e2 y u (eF h hl) h) (q r (bO r (.head _)) ?_)⟩;have:=HI (r:=r) (rs:=r::rs) (.head _);lia
end
def Znz(e:Ext A B)(h:B x=some o):Ext (af A x o) B:=fun y u q=>by
 by_cases n:y=x
 .rw[n,Zd]at q;rw[n,h];exact q
 .rw[Zn n]at q;exact e y u q
def ZsY:∀ts:List Str,(Txt.join "" ts).cps.toList=(ts.map fun t=>t.cps.toList).flatten:=by
 have e0:(("":Str)).cps.toList=[]:=by decide +kernel
 have go:∀(x:Str)(ts:List Str),(Str.join "" (x::ts)).cps.toList=((x::ts).map fun t=>t.cps.toList).flatten:=fun x ts=>by
  induction ts generalizing x with
  | nil=>show x.cps.toList=_;simp
  | cons y ts ih =>
   show(x++""++Str.join "" (y::ts)).cps.toList=_;rw[Str.cps_append,Str.cps_append,II,II,e0,ih y];simp
 intro ts;unfold Txt.join;rw[StrLaws.glued_eq_join];cases ts with
 | nil=>exact e0
 | cons x ts=>exact go x ts
def pS:List Nat:=(Str.ofString "ckmpsuvxzdhjqt").cps.toList
def fE(cs:List Nat):Str:=⟨cs.toArray⟩
def Zld(cs:List Nat):Txt.join "" (cs.map fun c=>fE [c])=fE cs:=by
 apply Str.ext';rw[<- zQ,ZsY,jS];show(cs.map fun c=>[c]).flatten=cs;induction cs with
 | nil=>rfl
 | cons c cs ih=>rw[Yr,List.flatten_cons,ih];rfl
def Zr9(h:∀c∈cs,c∈pS)(h1:1<=cs.length)(h8:cs.length<=8):fv (fE cs)=true:=by
 have k1:∀c∈pS,c∈E6.cps.toList:=by decide +kernel
 have k2:∀t∈i0,∃c∈t.cps.toList,c∉pS:=by decide +kernel
 have hl:(fE cs).length=cs.length:=rfl;unfold fv;rw[Y8,Y8,Y8,uH];refine⟨⟨fun c hc=>YA (k1 c (h c hc)),YA (by lia),YA (by lia)⟩,?_⟩;simp only[Bool.not_eq_true',List.contains_eq_mem,Ir];intro hm;obtain⟨c,hc,hn⟩:=k2 _ hm;exact hn (h c hc)
def ZnG(h:∀t∈ts,t.length<=1)(hl:ts.length<=1000):JoinOk "" ts=true:=by
 unfold JoinOk;have h3:(("":Str)).length=0:=by decide +kernel
 rw[StrLaws.joinFits h (by rw[h3];lia)];rfl
def HL(pre post:List Nat)(s:Nat):Str:=fE (pre++s::post)
def ZhU(h:HL pre post s=HL pre post t):s=t:=by
 have:=congrArg (fun z:Str=>z.cps.toList) h;have:=List.append_cancel_left (show pre++s::post=pre++t::post from this);injection this
def PU(xs:List α)(k:Nat)(h:k<=xs.length):dN xs (some (k:Int)) none=xs.drop k:=by
 unfold dN;rw[show HT.aO xs.length 0 (some (k:Int))=min k xs.length from HT.cz xs.length 0 k,show HT.aO xs.length xs.length none=xs.length from rfl,rA h];exact nV (by rw[pZ];lia)
theorem PV{α:Type}:∀ {l:List α},(∀(i j:Nat) x,l[i]? = some x->l[j]? = some x->i=j)->l.Nodup
 | [],_=>List.nodup_nil
 | a :: l,h=>Y7.mpr ⟨fun hm=>by
   obtain⟨i,hi⟩:=List.getElem?_of_mem hm
   have:=h 0 (i+1) a rfl hi
   lia,PV fun i j x h1 h2=>by
   have:=h (i+1) (j+1) x h1 h2
   lia⟩
def ZjS:bQ:=fun us A Q=>∃(c:Int)(m:Nat),us=[.int c,.int m]/\0<=c/\m<=14/\∀l ws,A l=none->ws.length=m->ws.Nodup->(∀z∈ws,fv z=true)->Q (.ref l) (af A l (.lst (List.map U.str ws)))
section
include T
def Zlc:T.tR.Ok aQ 2 (a6 K ZjS):=by
 apply T.tR.bF;walk_at "f";exact fun S hr=>⟨_,(Zf (ZB (i:=2) S.nd rfl (Or.inr rfl) Zr)
   (Zf (Ee (i:=3) S.nd rfl (Or.inl rfl) (by with_unfolding_all rfl) (ts:=["_law_k"]) (frs':=[("_law_letters",2),("_law_cell_here",0)]) (cl:=_) rfl ⟨(by rfl),rfl,(by decide +kernel),(by decide +kernel),(ZD (by rfl) (ZD (by rfl) ZN)),(j4 (by rfl) (by rfl)),(ZD ⟨(by rfl),(by first|exact .inl rfl|exact .inr rfl),(by first|exact .inl rfl|exact .inr rfl),(by rfl)⟩ (ZD ⟨(by rfl),(by first|exact .inl rfl|exact .inr rfl),(by first|exact .inl rfl|exact .inr rfl),(by rfl)⟩ ZN))⟩ (u6 rfl T.cD (Za (ZO dI (pv 0) Zl) Zg)) (fun _ _ _ _=>Zx (i:=0) (show List.Nodup (["_law_k","_law_letters","_law_cell_here"]:List Str)from by decide +kernel) rfl (Or.inl rfl) (.inr rfl)) (fun _ _ _ _=>kQ) (fun _ _ _ _=>by exact(ZH (xk K rfl) (pv 1) (ZO dI (ZO (Sn K rfl) (ZO nh (pv 2) Zl) (ZO Ay (pv 0) (pv 0))) Zl) (fun _ _=>rfl))))
   (Zf (ZB (i:=4) S.nd rfl (Or.inl rfl) (ZO dI (ZO nh (pv 0) Zl) (ZO f_ (b8 kR T.bz (Za (pv 3) Zg)) Zl)))
   (Zf (ZB (i:=5) S.nd rfl (Or.inl rfl) (ZW Zg))
   (Zf (ee YF rfl (u6 rfl T.cD (Za (pv 1) Zg)) (Zx (i:=6) S.nd rfl (Or.inl rfl))
   (Zf (ZB (i:=7) S.nd rfl (Or.inl rfl) (ZH aT (pv 2) (ZO dI (ZO f_ (pv 6) (ZO nh (pv 0) Zl)) Zl) (fun _ _=>rfl)))
   (Zh (Z1 (gF Yx YM YN Z4 (pv 5) (Za (gF PySem.F.plainAttrs_str PySem.F.slot_str_join PySem.F.type_str_join Th Zr (Za (ZO f_ (ZO f_ (qk qp (pv 3) rT (oG (pv 4))) (ZW (Za (pv 7) Zg))) (qk qp (pv 3) (oG (pv 4)) rT)) Zg)) Zg))))))
   (Zh (Zu (pv 5)))))))),(Zk (Zq Zy Zi)
   (Zk (Zq (j_ (vf (Zc (Zj dM Zb Zm) Ze)) Zi kT (Zj ZK Zb (Zj dM (Zj gb (Zj nA Zb Zm) (Zj AZ Zb Zb)) Zm))) Zi)
   (Zk (Zq (Zj dM (Zj nA Zb Zm) (Zj gb (Z6 kX (Zc Zb Ze)) Zm)) Zi)
   (Zk (Zq (ZV Ze) Zi)
   (Zk (eu (vf (Zc Zb Ze)) Zi
   (Zk (Zq (Zj ZK Zb (Zj dM (Zj gb Zb (Zj nA Zb Zm)) Zm)) Zi)
   (Z5 (gI ZR jx Zb (Zc (gI Ti Tj Zy (Zc (Zj gb (Zj gb (qu qw Zb sC (oS Zb)) (ZV (Zc Zb Ze))) (qu qw Zb (oS Zb) sC)) Ze)) Ze)))))
   (Zv Zb))))))⟩
 rintro us A Q ⟨c,m,rfl,hc,hm,q⟩;walk_at "o";have h8:0<=c % 8/\c % 8<8:=⟨kH _ (by decide),m4 _ (by decide)⟩;have l14:pS.length=14:=by decide +kernel
 have HM:pS.Nodup:=by decide +kernel
 refine⟨by decide,by lia,by lia,fun l1 cB=>?_⟩;walk_at "c";have zo:∀t:Int,∃v,cm (Str.ofString "ckmpsuvxzdhjqt").cps.toList (t % 14)=some v/\pS[(t % 14).toNat]? = some v:=fun t=>Kz (kH _ (by decide)) (by rw[show(Str.ofString "ckmpsuvxzdhjqt").cps.toList.length=14 from l14];exact m4 _ (by decide));refine Ou (mi 0 (c % 8).toNat) (fun _ v _=>∃s∈pS,v=.str (fE [s])) (fun τ=>∃x,τ=[x,some (.str "ckmpsuvxzdhjqt"),some (.int c)]) ⟨_,rfl⟩ cB (by rw[eD];lia) (fun j A3 _ _=>rfl) (fun j v A1 B _ _ h=>h) ?_ ?_
 .rintro k u τ A3 hu ⟨x,rfl⟩ e3 Cy hC;rw[EG]at hu;split at hu
  .rename_i hk;cases hu;obtain⟨v,h1,h2⟩:=zo (c / 8+(0+(k:Int))*(0+(k:Int)));walk_at "d";refine⟨⟨by decide,by decide⟩,Az (.inl ⟨by lia,by lia⟩),by decide,by decide +kernel,v,h1,hC _ _ A3 ⟨_,rfl⟩ (Ext.refl _) ⟨v,Yk h2,rfl⟩⟩
  .cases hu
 intro B ys eB fR ly Cs;rw[eD]at ly;obtain⟨cs,oF,rfl⟩:∃cs:List Nat,(∀c∈cs,c∈pS)/\ys=(cs.map fun c=>fE [c]).map U.str:=by
  clear ly;induction ys with
  | nil=>exact⟨[],(fun c h=>by cases h),rfl⟩
  | cons y ys ih =>
   obtain⟨s,hs,rfl⟩:=Cs 0 y rfl;obtain⟨cs,h1,rfl⟩:=ih fun k y hy=>Cs (k+1) y hy;exact⟨s::cs,fun c hc=>(Yo.mp hc).elim (fun e=>e▸hs) (h1 c),rfl⟩
 rw[Yc,Yc]at ly;have e1:Ext A (af B l1 (.lst ((cs.map fun c=>fE [c]).map U.str))):=eB.trans (Ext.new fR);have h1:af B l1 (.lst ((cs.map fun c=>fE [c]).map U.str)) l1=some (.lst ((cs.map fun c=>fE [c]).map U.str)):=Zd;generalize af B l1 (.lst ((cs.map fun c=>fE [c]).map U.str))=B1 at e1 h1 ⊢;refine⟨⟨by decide,by decide⟩,?_⟩;walk_at "d";refine⟨_,h1,?_⟩;rw[Yc,Yc];walk_at "d";have zp:(0:Int)<(cs.length:Int)+1:=by lia
 have ha0:=kH (c / 112) (show(cs.length:Int)+1≠0 by lia);have sN:=m4 (c / 112) zp;obtain⟨a,ha⟩:=rg ha0;rw[ha]at sN ⊢;refine⟨zp,by decide,fun l hl=>⟨by lia,by lia,?_⟩⟩;have PX:A l=none:=i7 e1 hl;refine xM (n:=m) (fun k ρ A2=>∃(ss:List Nat)(x6 x7:Option U),ρ=[some (.int c),some (.int m),some (.str "ckmpsuvxzdhjqt"),some (.ref l1),some (.int a),some (.ref l),x6,x7]/\Ext A A2/\A2 l1=some (.lst ((cs.map fun c=>fE [c]).map U.str))/\A2 l=some (.lst ((ss.map (HL (cs.take a) (cs.drop a))).map U.str))/\ss.length=k/\∀(j:Nat) s,ss[j]? = some s->pS[(((j:Int)+c / 896) % 14).toNat]? = some s) ⟨[],_,_,rfl,e1.trans (Ext.new hl),Ext.new hl _ _ h1,Zd,rfl,fun j s h=>by simp at h⟩ ?_ ?_
 .rintro k ρ A2 hk ⟨ss,x6,x7,rfl,e2,h2,h3,pf,zq⟩;obtain⟨v,h4,h5⟩:=zo (0+(k:Int)+c / 896);walk_at "d";refine⟨⟨by decide,by decide⟩,by decide,by decide +kernel,v,h4,⟨⟨_,h3⟩,trivial,_,h2,?_⟩⟩;rw[vp,Hw,<- wx];refine fun p hp=>⟨qz,fun p1 ir=>⟨_,_,Ext.new ir _ _ Zd,Zd,EY (by simp;lia),fun p2 yW=>?_⟩⟩;rw[show((cs.take a).map fun c=>fE [c]).map U.str++[U.str ⟨#[v]⟩]=((cs.take a++[v]).map fun c=>fE [c]).map U.str from by rw[Ys,Ys];rfl];have e3:=((Ext.new hp (o:=.lst (((cs.take a).map fun c=>fE [c]).map U.str))).trans (Ext.new ir (o:=.lst [.str ⟨#[v]⟩]))).trans (Ext.new yW (o:=.lst (((cs.take a++[v]).map fun c=>fE [c]).map U.str)));have h6:af (af (af A2 p (.lst (((cs.take a).map fun c=>fE [c]).map U.str))) p1 (.lst [.str ⟨#[v]⟩])) p2 (.lst (((cs.take a++[v]).map fun c=>fE [c]).map U.str)) p2=some (.lst (((cs.take a++[v]).map fun c=>fE [c]).map U.str)):=Zd;generalize af (af (af A2 p (.lst (((cs.take a).map fun c=>fE [c]).map U.str))) p1 (.lst [.str ⟨#[v]⟩])) p2 (.lst (((cs.take a++[v]).map fun c=>fE [c]).map U.str))=A3 at e3 h6 ⊢;refine⟨_,e3 _ _ h2,?_⟩;rw[vp,PU _ a (by rw[Yc];lia),<- List.map_drop];refine fun p3 vX=>⟨_,_,Ext.new vX _ _ h6,Zd,EY (by simp;lia),fun p4 lB=>?_⟩;rw[<- Ys,<- Ys,wq];walk_at "d";refine⟨_,Zd,ZnG (fun t ht=>?_) (by simp;lia),_,Ext.new lB _ _ (Ext.new vX _ _ (e3 _ _ h3)),ZX (by simp;lia),ss++[v],_,_,rfl,?_,?_,?_,by simp[pf],fun j s hj=>?_⟩
  .obtain⟨c,_,rfl⟩:=YS.mp ht;exact Yj 1
  .exact lx (((e2.trans e3).trans (Ext.new vX)).trans (Ext.new lB)) PX
  .rw[Zn (eF h1 hl)];exact Ext.new lB _ _ (Ext.new vX _ _ (e3 _ _ h2))
  .rw[Zd,Zld,Ys,Ys];rfl
  .by_cases yR:j<ss.length
   .rw[YU yR]at hj;exact zq j s hj
   .rw[YQ (by lia)]at hj;have yY:=(Yh.mp hj).1;simp only[List.length_cons,List.length_nil]at yY;obtain rfl:j=ss.length:=by lia
    rw[qa]at hj;cases hj;rw[pf];rw[Int.zero_add]at h5;exact h5
 rintro ρ A2 ⟨ss,x6,x7,rfl,e2,h2,h3,pf,zq⟩;walk_at "d";refine vo (Znz e2 h3) (q l _ PX (by rw[Yc,pf]) ?_ fun z hz=>?_)
 .refine PV fun i j x h1 h2=>?_;rw[Yi]at h1 h2;obtain⟨s,g1,rfl⟩:=YO.mp h1;obtain⟨t,g2,e⟩:=YO.mp h2;obtain rfl:=ZhU e;have hi:=(Yh.mp g1).1;have hj:=(Yh.mp g2).1;have f1:=Yh.mp (zq i t g1);have f2:=Yh.mp (zq j t g2);have:=(List.getElem_inj HM).mp (f1.2.trans f2.2.symm);lia
 .obtain⟨s,hs,rfl⟩:=YS.mp hz;obtain⟨j,hj⟩:=List.getElem?_of_mem hs;have v8:=Yk (zq j s hj);refine Zr9 (fun c hc=>?_) (by simp;lia) (by simp;lia);rcases Yy.mp hc with hc|hc
  .exact oF c (List.mem_of_mem_take hc)
  .rcases Yo.mp hc with rfl|hc
   .exact v8
   .exact oF c (List.mem_of_mem_drop hc)
end
def ZkP:bQ:=fun us A Q=>∃ns:List Int,us=[.bI (ns.map U.int)]/\ns.length<=63/\∀l ms,A l=none->ms.length<=63->Q (.ref l) (af A l (.lst (List.map U.int ms)))
def Zin:bQ:=fun us A Q=>∃(l:Addr)(ns:List Int)(k:Int),us=[.ref l,.int k]/\A l=some (.lst (ns.map U.int))/\0<=k/\∀z,Q (.int z) A
section
include T
def Zj8:T.kn.Ok aQ 1 (a6 K Zin):=by
 apply T.kn.bF
 walk_at "f"
 exact fun S hr=>⟨_,(Zf (ZT (Zo Kr (pv 1) (b8 kR T.bz (Za (pv 0) Zg)) (ZF _)) (Zh (Zu (ZH aT (pv 0) (pv 1) (fun _ _=>rfl)))) Zz)
   (Zh (Zu Zl))),(Zk (dY (Zp (Zj Li Zb (Z6 kX (Zc Zb Ze)))) (Zv (Zj ZK Zb Zb)) ZA)
   (Zv Zm))⟩
 rintro us A Q ⟨l,ns,k,rfl,hl,hk,q⟩
 walk_at "o"
 refine⟨_,hl,?_⟩
 rw[Yc]
 refine kc (fun h=>?_) fun _=>fg (q 0)
 have h':k<ns.length:=by simpa using h
 obtain⟨z,h1,_⟩:=Tc hk h'
 exact⟨_,_,hl,h1,fg (q z)⟩
def Zoi:T.t_.Ok aQ 1 (a6 K ZkP):=by
 apply T.t_.bF;walk_at "f";exact fun S hr=>⟨_,(Zf (ZB (i:=1) S.nd rfl (Or.inl rfl) (ZW Zg))
   (Zf (ee YF rfl (Td (by rfl) T.iD (Za (pv 0) Zg)) (oj (n:=2) rfl (ZL (Zx (i:=2) S.nd rfl (Or.inl rfl)) (ZL (Zx (i:=3) S.nd rfl (Or.inl rfl)) jV)))
   (Zh (Z1 (gF Yx YM YN Z4 (pv 1) (Za (ZO dI (ZO Ay (ZO dI (ZO f_ (ZO Ay (ZO dI (pv 3) (ZO Av Zl Zl)) Zl) (ZO Ay Zl (pv 2))) Zl) Zl) Zl) Zg)))))
   (Zh (Zu (pv 1))))),(Zk (Zq (ZV Ze) Zi)
   (Zk (eu (Ld Te (Zc Zb Ze)) (j9 (ZM Zi (ZM Zi j8)))
   (Z5 (gI ZR jx Zb (Zc (Zj dM (Zj AZ (Zj dM (Zj gb (Zj AZ (Zj dM Zb (Zj A9 Zm Zm)) Zm) (Zj AZ Zm Zb)) Zm) Zm) Zm) Ze))))
   (Zv Zb)))⟩
 rintro us A Q ⟨ns,rfl,hn,q⟩;walk_at "o";refine⟨by decide,fun p hp=>Lq (us:=gJ (ns.map U.int)) (fun k ρ A2=>∃(ms:List Int)(x2 x3:Option U),ρ=[some (.bI (ns.map U.int)),some (.ref p),x2,x3]/\A2=af A p (.lst (ms.map U.int))/\ms.length=k) ⟨[],_,_,rfl,rfl,rfl⟩ ?_ ?_⟩
 .rintro k u ρ A2 hu ⟨ms,x2,x3,rfl,rfl,hm⟩;rw[EI,Yi]at hu;cases hk:ns[k]? with
  | none=>rw[hk]at hu;cases hu
  | some z =>
   rw[hk]at hu;cases hu;have jM:=(Yh.mp hk).1;walk_at "d";refine⟨rfl,⟨_,Zd⟩,⟨by decide,by decide,by decide⟩,by decide,Az (.inr ⟨by decide,by decide⟩),Az (.inl ⟨by decide,by decide⟩),by decide,Az (.inr ⟨by decide,by decide⟩),by decide,_,Zd,ZX (by rw[Yc];lia),ms++[_],_,_,rfl,by rw[ZP,Ys];rfl,by simp[hm]⟩
 .rintro ρ A2 ⟨ms,x2,x3,rfl,rfl,hm⟩;rw[SW,Yc]at hm;walk_at "d";exact fg (q p ms hp (by lia))
end
def Zj2(P:Program)(w:World):bQ:=fun us A Q=>∃(l:Addr)(ns:List Str)(rs:List Rl),us=[.ref l]/\A l=some (.lst ((ns.zip rs).map fun p=>.tup [.str p.1,p.2.toU]))/\rs.length=ns.length/\ns.length<=60/\ns.Nodup/\(∀z∈ns,fv z=true)/\(∀r∈rs,r.size<=60/\r.wd=true/\∀y∈r.bb,y∈ns) /\
 ((∀r∈rs,r.hp (dU ns rs)=false)->(∃rk:Str->Nat,∀z∈ns,∀y,uz ns rs z y->rk y<rk z)->∀B lc,Ext A B->Q (.tup [.str "sound",.str "",.ref lc]) B) /\
 (∀(k:Nat) z r,ns[k]? = some z->rs[k]? = some r->r.hp (dU ns rs)=true->(∀(j:Nat) r',j<k->rs[j]? = some r'->r'.hp (dU ns rs)=false)->∀B lc,Ext A B->Q (.tup [.str "hollow",.str z,.ref lc]) B) /\
 ((∀r∈rs,r.hp (dU ns rs)=false)->∀c,pM (uz ns rs) c->(∀z∈c,z∈ns)->∀B lc,Ext A B->B lc=some (.lst (List.map U.str c))->Q (.tup [.str "round",.str "",.ref lc]) B)
def PY(h1:A p=some (.lst [.bl a,.bl b,.bl c,.bl d,.bl e]))(h2:A q=some (.lst [.bl a,.bl b,.bl c,.bl d,.bl e]))(h:Q (.bl false) A):eE true (.ref p) (.ref q) A Q:=by
 have g:ic A [.bl a,.bl b,.bl c,.bl d,.bl e] [.bool a,.bool b,.bool c,.bool d,.bool e]:=.cons (.bl a) (.cons (.bl b) (.cons (.bl c) (.cons (.bl d) (.cons (.bl e) .nil))));refine⟨.list [.bool a,.bool b,.bool c,.bool d,.bool e],.list [.bool a,.bool b,.bool c,.bool d,.bool e],.lst h1 g,.lst h2 g,rfl,rfl,by simp[PyData.depth,PyData.depthAll],?_⟩;rw[if_pos rfl,show PyData.eqv (.list [.bool a,.bool b,.bool c,.bool d,.bool e]) (.list [.bool a,.bool b,.bool c,.bool d,.bool e])=true from by cases a<;>cases b<;>cases c<;>cases d<;>cases e<;>decide +kernel];exact h
def pM.jh{ns:List Str}{rk:Str->Nat}(h:pM le c)(hc:∀z∈c,z∈ns)(hr:∀z∈ns,∀y,le z y->rk y<rk z):False:=by
 have hlen:0<c.length:=List.length_pos_iff.mpr h.ne;have h0:c[0]? = some c[0]:=Yg hlen;have go:∀(j:Nat) a,c[j]? = some a->rk a+j<=rk c[0]:=by
  intro j;induction j with
  | zero=>intro a ha;rw[h0]at ha;cases ha;exact Yj _
  | succ j ih =>
   intro a ha;have hj:=(Yh.mp ha).1;have hb:c[j]? = some c[j]:=Yg (by lia);have i1:=ih _ hb;have i2:=hr _ (hc _ (Yk hb)) _ (h.st j _ _ hb ha);lia
 have hz:c[c.length-1]? = some c[c.length-1]:=Yg (by lia);have i1:=go _ _ hz;have i2:=hr _ (hc _ (Yk hz)) _ (h.la _ _ hz h0);lia
section
include T
def Ct{N:U->Addr->az->Prop}(hl:A l=some (.lst ((ns.zip rs).map fun p=>.tup [.str p.1,p.2.toU])))(df:rs.length=ns.length)(fh:ns.length<=60)(di:ns.Nodup)(iI:∀z∈ns,fv z=true)(bO:∀r∈rs,r.size<=60/\r.wd=true/\∀y∈r.bb,y∈ns)(cB:A l1=none)(q1:(∀r∈rs,r.hp (dU ns rs)=false)->(∃rk:Str->Nat,∀z∈ns,∀y,uz ns rs z y->rk y<rk z)->∀B x ps,Ext A B->ps.map (·.1)=ns->je cS B ps rs->za P w aJ B x ps rs->N .ay x B)(q2:∀(k:Nat) z r,ns[k]? = some z->rs[k]? = some r->r.hp (dU ns rs)=true->(∀(j:Nat) r',j<k->rs[j]? = some r'->r'.hp (dU ns rs)=false)->∀B,Ext A B->X aw [("name",.str z)] B)(q3:(∀r∈rs,r.hp (dU ns rs)=false)->∀c,pM (uz ns rs) c->(∀z∈c,z∈ns)->∀B lc,Ext A B->B lc=some (.lst (List.map U.str c))->X aD [("circle",.ref lc)] B):
  ny (sF l) (EE 2 (AM (nq 0) (AM (nq 1) ED))) sy (AH (qt (mh 0) (qt (Ez (Fe cS 60) (qt (mh 1) vc)) vc))) l1 (fun x A1=>∀Cu dx,A1 Cu=none->Pr P w aJ aw aD cS [.ref Cu,x] (af A1 Cu (.ins aJ dx [])) (fun u A2=>N u Cu A2) X) [none,none] (af A l1 (.lst [])):=by
 have hlen:((ns.zip rs).map fun p:Str×Rl=>U.tup [.str p.1,p.2.toU]).length=ns.length:=by rw[Yc,List.length_zip];lia
 refine Ou ((ns.zip rs).map fun p=>.tup [.str p.1,p.2.toU]) (fun k v A1=>∃b z r,ns[k]? = some z/\rs[k]? = some r/\v=.tup [.str z,.ref b]/\b4 cS A1 b r) (fun τ=>∃x y,τ=[x,y]) ⟨_,_,rfl⟩ cB (by rw[hlen];lia) (fun k A2 _ e2=>⟨_,e2 _ _ hl,rfl⟩) ?_ ?_ ?_
 .rintro k v A1 B h1 h2 ⟨b,z,r,g1,g2,g3,ho⟩;refine⟨b,z,r,g1,g2,g3,b4.kp (fun {a C dx fs} h=>h2 _ _ (fun e=>?_) h) ho⟩;rcases h1 with h1|⟨ys,h1⟩
  .rw[e,h1]at h;cases h
  .rw[e,h1]at h;cases h
 .rintro k u τ A2 hu ⟨x,y,rfl⟩ e2 Cy hC;obtain⟨p,hp,rfl⟩:=Z9 hu;obtain⟨hz,hr⟩:=List.getElem?_zip_eq_some.mp hp;have:=(bO p.2 (Yk hr)).1;have:=qZ p.2;walk_at "d";exact⟨rfl,p.2,rfl,by lia,fun B b eB ho=>⟨ck,hC _ _ B ⟨_,_,rfl⟩ eB ⟨b,p.1,p.2,hz,hr,rfl,ho⟩⟩⟩
 .intro B ys eB fR ly Cs;rw[hlen]at ly;obtain⟨ps,rfl,p2,p3⟩:=Pt ly df Cs;intro x dx hx;subst p2;have e6:=eB.trans (Ext.new fR (o:=.lst (List.map (fun p:Str×Addr=>.tup [.str p.1,.ref p.2]) ps)));have hB:je cS (af B l1 (.lst (List.map (fun p:Str×Addr=>.tup [.str p.1,.ref p.2]) ps))) ps rs:=⟨p3.ext (Ext.new fR),di,fun r hr=>by
   have h:=bO r hr;have:=qZ r;exact⟨by lia,h.1,h.2.2⟩,by rw[Yc]at fh;exact fh⟩
  exact⟨x,dx,l1,_,ps,rs,rfl,rfl,hx,Zd,hB,fun z hz=>⟨(L4 (iI z hz)).2.2.1,L5 (iI z hz)⟩,fun h1 h2 B2 e2 hb=>q1 h1 h2 B2 x ps (e6.trans e2) rfl (hB.ext e2) hb,fun k z r g1 g2 g3 g4 B2 e2=>q2 k z r g1 g2 g3 g4 B2 (e6.trans e2),fun h1 c hc lz B2 lc e2 _ hb=>q3 h1 c hc lz B2 lc (e6.trans e2) hb⟩
def ZkC : T.tZ.Ok aQ 75 (a6 K (Zj2 P w)):=by
 have kq:=WG T 60;have zr:=XG T;apply T.tZ.bF;walk_at "f";exact fun S hr=>⟨_,(Zf (ZB (i:=1) S.nd rfl (Or.inr rfl) (ZJ (Za Zr (Za Zr Zg))))
   (Zf (ZB (i:=2) S.nd rfl (Or.inl rfl) (ZW Zg))
   (Zf (ZB (i:=3) S.nd rfl (Or.inl rfl) (ZW Zg))
   (Zf (Vd (j:=4) ⟨rfl,rfl⟩ S.nd rfl rfl (NC (OS T.mI zr.mn hr (by rfl) T.mP T.pF.b (Za (ni (ts:=["_law_name","_law_rule_here"]) (frs':=[]) (cl:=[]) rfl ⟨rfl,rfl,(by decide +kernel),(by decide +kernel),(fun _ z=>nomatch z),(xj rfl rfl),(fun _ z=>nomatch z)⟩ (dZ (pv 0)) (fun _ _ _ _=>xw K rfl 2 rfl (ZL (Zx (i:=0) (show List.Nodup (["_law_name","_law_rule_here"]:List Str)from by decide +kernel) rfl (Or.inl rfl) (.inr rfl)) (ZL (Zx (i:=1) (show List.Nodup (["_law_name","_law_rule_here"]:List Str)from by decide +kernel) rfl (Or.inl rfl) (.inr rfl)) jV)) (by rfl) (by rfl)) (fun _ _ _ _=>kQ) (fun _ _ _ _=>by exact(ZJ (Za (pv 0) (Za (T.gn.pc kq hr (Za (pv 1) Zg)) Zg))))) Zg))) (by rfl) T.bN (fun _=>(Zf (ZB (i:=3) S.nd rfl (Or.inl rfl) (ZW (Za (b8 yq T.aE (Za (pv 4) (Za (gS (v:=.ref _) (by rfl) T.jJ rfl) Zg))) (Za (b8 yq T.aE (Za (pv 4) (Za (gS (v:=.ref _) (by rfl) T.fQ rfl) Zg))) (Za (b8 yq T.aE (Za (pv 4) (Za (gS (v:=.ref _) (by rfl) T.eP rfl) Zg))) (Za (b8 yq T.aE (Za (pv 4) (Za (gS (v:=.ref _) (by rfl) T.gx rfl) Zg))) Zg))))))
   (Zh (Z1 (gF Yx YM YN Z4 (pv 3) (Za (b8 yq T.aE (Za (pv 4) (Za (D0 (T:="ValueError") (by rfl) T.gy (by decide +kernel)) Zg))) Zg)))))))
   (Zf (Wl ⟨rfl,rfl⟩ (NC (OS T.mI zr.mn hr (by rfl) T.mP T.pF.b (Za (ni (ts:=["_law_name","_law_rule_here"]) (frs':=[]) (cl:=[]) rfl ⟨rfl,rfl,(by decide +kernel),(by decide +kernel),(fun _ z=>nomatch z),(xj rfl rfl),(fun _ z=>nomatch z)⟩ (dZ (pv 0)) (fun _ _ _ _=>xw K rfl 2 rfl (ZL (Zx (i:=0) (show List.Nodup (["_law_name","_law_rule_here"]:List Str)from by decide +kernel) rfl (Or.inl rfl) (.inr rfl)) (ZL (Zx (i:=1) (show List.Nodup (["_law_name","_law_rule_here"]:List Str)from by decide +kernel) rfl (Or.inl rfl) (.inr rfl)) jV)) (by rfl) (by rfl)) (fun _ _ _ _=>kQ) (fun _ _ _ _=>by exact(ZJ (Za (pv 0) (Za (T.gn.pc kq hr (Za (pv 1) Zg)) Zg))))) Zg))) (BQ (j:=4) ⟨rfl,rfl⟩ S.nd rfl rfl (by rfl) T.jJ (fun _=>(Zh (ZB (i:=1) S.nd rfl (Or.inr rfl) (ZJ (Za Zr (Za (BH (pv 4) rfl) Zg)))))) (BQ (j:=4) ⟨rfl,rfl⟩ S.nd rfl rfl (by rfl) T.fQ (fun _=>(Zh (ZB (i:=1) S.nd rfl (Or.inr rfl) (ZJ (Za Zr (Za (BH (pv 4) rfl) Zg)))))) (BQ (j:=4) ⟨rfl,rfl⟩ S.nd rfl rfl (by rfl) T.eP (fun _=>(Zh (ZB (i:=1) S.nd rfl (Or.inr rfl) (ZJ (Za Zr (Za (BH (pv 4) rfl) Zg)))))) (BQ (j:=4) ⟨rfl,rfl⟩ S.nd rfl rfl (by rfl) T.gx (fun _=>(Zf (ZB (i:=1) S.nd rfl (Or.inr rfl) (ZJ (Za Zr (Za Zr Zg))))
   (Zh (ZB (i:=2) S.nd rfl (Or.inl rfl) (BH (pv 4) rfl))))) Wk)))))
   (Zf (ZB (i:=5) S.nd rfl (Or.inl rfl) (ZW (qm (xs:=["twice","class","hollow","round"]) rfl)))
   (Zf (ZT ((oh (Zo (u7 hr) (ZH aT (pv 1) Zl (fun _ _=>rfl)) Zr (ZF _)) (qf (Zo (u7 hr) (pv 3) (ZO f_ (ni (ts:=["_law_word"]) (frs':=[("_law_told",1)]) (cl:=_) rfl ⟨(by rfl),rfl,(by decide +kernel),(by decide +kernel),(ZD (by rfl) ZN),(j4 (by rfl) (by rfl)),(ZD ⟨(by rfl),(by first|exact .inl rfl|exact .inr rfl),(by first|exact .inl rfl|exact .inr rfl),(by rfl)⟩ ZN)⟩ (dZ (pv 5)) (fun _ _ _ _=>Zx (i:=0) (show List.Nodup (["_law_word","_law_told"]:List Str)from by decide +kernel) rfl (Or.inl rfl) (.inr rfl)) (fun _ _ _ _=>kQ) (fun _ _ _ _=>by exact(qg (KA K rfl hr) (ZH (xk K rfl) (pv 1) Zl (fun _ _=>rfl)) (pv 0) (ZF _)))) (ZW (Za qe Zg))) (ZF _))))).pt (Zh (Zu (ZJ (Za Zr (Za Zr (Za (ZW Zg) Zg)))))) Zz)
   (Zh (Zu (ZJ (Za (ZH aT (pv 1) Zl (fun _ _=>rfl)) (Za (ZH aT (pv 1) Zl (fun _ _=>rfl)) (Za (pv 2) Zg))))))))))))),(Zk (Zq (ZI (Zc Zy (Zc Zy Ze))) Zi)
   (Zk (Zq (ZV Ze) Zi)
   (Zk (Zq (ZV Ze) Zi)
   (Zk (Vi (NI (OX (Zc (j_ (ZZ Z2 Zb) (j9 (ZM Zi (ZM Zi j8))) kT (ZI (Zc Zb (Zc (Zt (Zc Zb Ze)) Ze)))) Ze))) (Zk (Zq (ZV (Zc (Z6 yr (Zc Zb (Zc hX Ze))) (Zc (Z6 yr (Zc Zb (Zc hX Ze))) (Zc (Z6 yr (Zc Zb (Zc hX Ze))) (Zc (Z6 yr (Zc Zb (Zc hX Ze))) Ze))))) Zi)
   (Z5 (gI ZR jx Zb (Zc (Z6 yr (Zc Zb (Zc Et Ze))) Ze)))))
   (Zk (Wn (NI (OX (Zc (j_ (ZZ Z2 Zb) (j9 (ZM Zi (ZM Zi j8))) kT (ZI (Zc Zb (Zc (Zt (Zc Zb Ze)) Ze)))) Ze))) (BS (Zq (ZI (Zc Zy (Zc (BI Zb) Ze))) Zi) (BS (Zq (ZI (Zc Zy (Zc (BI Zb) Ze))) Zi) (BS (Zq (ZI (Zc Zy (Zc (BI Zb) Ze))) Zi) (BS (Zk (Zq (ZI (Zc Zy (Zc Zy Ze))) Zi)
   (Zq (BI Zb) Zi)) Wm)))))
   (Zk (Zq (ZV sA) Zi)
   (Zk (Z0 (oR (Zp (Zj vh (Zj ZK Zb Zm) Zy)) (Zp (Zj vh Zb (Zj gb (j_ (ZZ Z2 Zb) Zi kT (Zj cK (Zj ZK Zb Zm) Zb)) (ZV (Zc qq Ze)))))) (Zv (ZI (Zc Zy (Zc Zy (Zc (ZV Ze) Ze))))) ZA)
   (Zv (ZI (Zc (Zj ZK Zb Zm) (Zc (Zj ZK Zb Zm) (Zc Zb Ze))))))))))))⟩
 rintro us A Q ⟨l,ns,rs,rfl,hl,df,fh,di,iI,bO,q1,q2,q3⟩;walk_at "o";refine⟨ck,by decide,fun p hp=>⟨by decide,fun p1 ir=>?_⟩⟩;have Cv:p≠p1:=fun e=>by rw[<- e,Zd]at ir;cases ir
 have e1:=(Ext.new hp (o:=.lst [])).trans (Ext.new ir (o:=.lst []));have b1:af (af A p (.lst [])) p1 (.lst []) p=some (.lst []):=by rw[Zn Cv,Zd]
 have b2:af (af A p (.lst [])) p1 (.lst []) p1=some (.lst []):=Zd;generalize af (af A p (.lst [])) p1 (.lst [])=A1 at e1 b1 b2 ⊢;refine⟨⟨_,e1 _ _ hl⟩,fun l1 cB=>Ct (e1 _ _ hl) df fh di iI bO cB (fun hh eV A2 x ps e2 jL hbi hbk=>⟨rfl,⟨_,(e1.trans e2) _ _ hl⟩,fun l2 cZ=>?_⟩) (fun k z r g1 g2 g3 g4 A2 e2=>?_) (fun hh c hc lz A2 lc e2 PZ=>?_)⟩
 .refine Ct ((e1.trans e2) _ _ hl) df fh di iI bO cZ (fun _ _ A3 x3 ps3 e3 _ _ _=>⟨rfl,d6,fun p4 lB=>?_⟩) (fun k z r g1 g2 g3=>by rw[hh r (Yk g2)]at g3;cases g3) (fun _ c hc lz A3 lc e3 _=>by obtain⟨rk,eV⟩:=eV;exact(hc.jh lz eV).elim);have e4:=((e1.trans e2).trans e3).trans (Ext.new lB (o:=.lst [.str "twice",.str "class",.str "hollow",.str "round"]));refine iZ (fun B hB=>?_) ?_
  .walk_at "d";exact Zw (by decide) hB
  walk_at "d";exact⟨iQ,fg (q1 hh eV _ p e4)⟩
 .have zt:¬ ∀r∈rs,r.hp (dU ns rs)=false:=fun h=>by rw[h r (Yk g2)]at g3;cases g3
  refine⟨T.cy,fun a ax ha HN aR=>?_⟩;have f1:af (af A2 ax (fM [("name",.str z)])) a (oX aw ax) a=some (oX aw ax):=Zd;have f2:af (af A2 ax (fM [("name",.str z)])) a (oX aw ax) ax=some (fM [("name",.str z)]):=by rw[Zn (Ne.symm aR),Zd]
  have f3:Ext A1 (af (af A2 ax (fM [("name",.str z)])) a (oX aw ax)):=(e2.trans (Ext.new HN)).trans (Ext.new (by rw[Zn aR];exact ha));generalize af (af A2 ax (fM [("name",.str z)])) a (oX aw ax)=A3 at f1 f2 f3 ⊢;refine⟨a,aw,ax,_,_,false,rfl,f1,f2,T.bT,.inl ⟨_,rfl,T.GJ⟩,a,aw,ax,_,_,false,rfl,f1,f2,T.bT,.inl ⟨_,rfl,T.GK⟩,a,aw,ax,_,_,true,rfl,f1,f2,T.bT,.inl ⟨_,rfl,T.GL⟩,a,aw,ax,_,_,false,rfl,f1,f2,T.bT,.inl ⟨_,rfl,T.GN⟩,d6,fun pk uB=>?_⟩;have zu:=Ext.new uB (o:=.lst [.bl false,.bl false,.bl true,.bl false]);refine⟨⟨_,Zd⟩,a,aw,ax,_,_,true,rfl,zu _ _ f1,zu _ _ f2,T.bT,.inr (.inl ⟨_,rfl,T.GO⟩),_,Zd,ZX (by decide),?_⟩;rw[ZP];have e5:=(e1.trans f3).trans (Ext.new uB (o:=.lst ([.bl false,.bl false,.bl true,.bl false]++[.bl true])));have bk:af A3 pk (.lst ([.bl false,.bl false,.bl true,.bl false]++[.bl true])) pk=some (.lst ([.bl false,.bl false,.bl true,.bl false,.bl true])):=Zd;have bp:af A3 pk (.lst ([.bl false,.bl false,.bl true,.bl false]++[.bl true])) p=some (.lst []):=Ext.new uB _ _ (f3 _ _ b1);generalize af A3 pk (.lst ([.bl false,.bl false,.bl true,.bl false]++[.bl true]))=A5 at e5 bk bp ⊢;refine⟨⟨_,e5 _ _ hl⟩,fun l2 cZ=>Ct (e5 _ _ hl) df fh di iI bO cZ (fun h=>absurd h zt) (fun k' z' r' g1' g2' g3' g4' A6 e6=>.inr ⟨T.eR,.inr ⟨T.dB,.inl ⟨T.dQ,fun a2 HP jB kF iJ=>⟨a2,aw,HP,_,_,rfl,Zd,by rw[Zn (Ne.symm iJ),Zd],T.bT,T.cM,nQ,ck,d6,fun p4 lB=>?_⟩⟩⟩⟩) (fun h=>absurd h zt)⟩;have e7:=(((e5.trans e6).trans (Ext.new kF)).trans (Ext.new (by rw[Zn iJ];exact jB))).trans (Ext.new lB (o:=.lst [.str "twice",.str "class",.str "hollow",.str "round"]));have e8:=((e6.trans (Ext.new kF)).trans (Ext.new (by rw[Zn iJ];exact jB))).trans (Ext.new lB (o:=.lst [.str "twice",.str "class",.str "hollow",.str "round"]));refine mD false (fun B hB=>?_) fun B eB=>Zw rfl ?_
  .walk_at "d";refine ZS (by decide +kernel) ⟨⟨_,Zd⟩,fun l3 qS=>?_⟩;walk_at "c";refine Ls [.str "twice",.str "class",.str "hollow",.str "round"] [.bl false,.bl false,.bl true,.bl false] rfl qS (by decide) (fun k A2 _ e2=>⟨_,e2 _ _ Zd,rfl⟩) ?_ ?_
   .rintro k u y A7 hu hy e9 Cy hC;rcases k with _|_|_|_|k
    .cases hu;cases hy;walk_at "d";rw[show decide (Str.ofString "hollow"=Str.ofString "twice")=false by decide +kernel];exact hC
    .cases hu;cases hy;walk_at "d";rw[show decide (Str.ofString "hollow"=Str.ofString "class")=false by decide +kernel];exact hC
    .cases hu;cases hy;walk_at "d";exact hC
    .cases hu;cases hy;walk_at "d";rw[show decide (Str.ofString "hollow"=Str.ofString "round")=false by decide +kernel];exact hC
    .cases hu
   .refine⟨by decide,fun p5 zv=>⟨_,_,Ext.new zv _ _ Zd,Zd,by decide,fun p6 HQ=>?_⟩⟩;walk_at "d";have sO:=((Ext.new qS (o:=.lst [.bl false,.bl false,.bl true,.bl false])).trans (Ext.new zv (o:=.lst [.bl true]))).trans (Ext.new HQ (o:=.lst ([.bl false,.bl false,.bl true,.bl false]++[.bl true])));exact PY ((e8.trans sO) _ _ bk) Zd ⟨_,rfl,hB _ sO⟩
  walk_at "d";exact⟨iQ,fg (q2 k' z' r' g1' g2' g3' g4' _ p (e7.trans eB))⟩
 .refine⟨T.cI,fun a ax ha HN aR=>?_⟩;have f1:af (af A2 ax (fM [("circle",.ref lc)])) a (oX aD ax) a=some (oX aD ax):=Zd;have f2:af (af A2 ax (fM [("circle",.ref lc)])) a (oX aD ax) ax=some (fM [("circle",.ref lc)]):=by rw[Zn (Ne.symm aR),Zd]
  have f3:Ext A1 (af (af A2 ax (fM [("circle",.ref lc)])) a (oX aD ax)):=(e2.trans (Ext.new HN)).trans (Ext.new (by rw[Zn aR];exact ha));generalize af (af A2 ax (fM [("circle",.ref lc)])) a (oX aD ax)=A3 at f1 f2 f3 ⊢;refine⟨a,aD,ax,_,_,false,rfl,f1,f2,T.cC,.inl ⟨_,rfl,T.GP⟩,a,aD,ax,_,_,false,rfl,f1,f2,T.cC,.inl ⟨_,rfl,T.GQ⟩,a,aD,ax,_,_,false,rfl,f1,f2,T.cC,.inl ⟨_,rfl,T.GR⟩,a,aD,ax,_,_,true,rfl,f1,f2,T.cC,.inl ⟨_,rfl,T.GS⟩,d6,fun pk uB=>?_⟩;have zu:=Ext.new uB (o:=.lst [.bl false,.bl false,.bl false,.bl true]);refine⟨⟨_,Zd⟩,a,aD,ax,_,_,true,rfl,zu _ _ f1,zu _ _ f2,T.cC,.inr (.inl ⟨_,rfl,T.GU⟩),_,Zd,ZX (by decide),?_⟩;rw[ZP];have e5:=(e1.trans f3).trans (Ext.new uB (o:=.lst ([.bl false,.bl false,.bl false,.bl true]++[.bl true])));have bk:af A3 pk (.lst ([.bl false,.bl false,.bl false,.bl true]++[.bl true])) pk=some (.lst ([.bl false,.bl false,.bl false,.bl true,.bl true])):=Zd;have bp:af A3 pk (.lst ([.bl false,.bl false,.bl false,.bl true]++[.bl true])) p=some (.lst []):=Ext.new uB _ _ (f3 _ _ b1);generalize af A3 pk (.lst ([.bl false,.bl false,.bl false,.bl true]++[.bl true]))=A5 at e5 bk bp ⊢;refine⟨⟨_,e5 _ _ hl⟩,fun l2 cZ=>?_⟩;refine Ct (e5 _ _ hl) df fh di iI bO cZ (fun _ h=>by obtain⟨rk,eV⟩:=h;exact(hc.jh lz eV).elim) (fun k z r g1 g2 g3=>by rw[hh r (Yk g2)]at g3;cases g3) (fun _ c' z6 HS A6 lc' e6 HU=>.inr ⟨T.fB,.inr ⟨T.dR,.inr ⟨T.eT,.inl ⟨T.fC,fun a2 HP jB kF iJ=>⟨ck,a2,aD,HP,_,_,rfl,Zd,by rw[Zn (Ne.symm iJ),Zd],T.cC,T.cx,nQ,d6,fun p4 lB=>?_⟩⟩⟩⟩⟩);have e7:=(((e5.trans e6).trans (Ext.new kF)).trans (Ext.new (by rw[Zn iJ];exact jB))).trans (Ext.new lB (o:=.lst [.str "twice",.str "class",.str "hollow",.str "round"]));have e8:=((e6.trans (Ext.new kF)).trans (Ext.new (by rw[Zn iJ];exact jB))).trans (Ext.new lB (o:=.lst [.str "twice",.str "class",.str "hollow",.str "round"]));refine mD false (fun B hB=>?_) fun B eB=>Zw rfl ?_
  .walk_at "d";refine ZS (by decide +kernel) ⟨⟨_,Zd⟩,fun l3 qS=>?_⟩;walk_at "c";refine Ls [.str "twice",.str "class",.str "hollow",.str "round"] [.bl false,.bl false,.bl false,.bl true] rfl qS (by decide) (fun k A2 _ e2=>⟨_,e2 _ _ Zd,rfl⟩) ?_ ?_
   .rintro k u y A7 hu hy e9 Cy hC;rcases k with _|_|_|_|k
    .cases hu;cases hy;walk_at "d";rw[show decide (Str.ofString "round"=Str.ofString "twice")=false by decide +kernel];exact hC
    .cases hu;cases hy;walk_at "d";rw[show decide (Str.ofString "round"=Str.ofString "class")=false by decide +kernel];exact hC
    .cases hu;cases hy;walk_at "d";rw[show decide (Str.ofString "round"=Str.ofString "hollow")=false by decide +kernel];exact hC
    .cases hu;cases hy;walk_at "d";exact hC
    .cases hu
   .refine⟨by decide,fun p5 zv=>⟨_,_,Ext.new zv _ _ Zd,Zd,by decide,fun p6 HQ=>?_⟩⟩;walk_at "d";have sO:=((Ext.new qS (o:=.lst [.bl false,.bl false,.bl false,.bl true])).trans (Ext.new zv (o:=.lst [.bl true]))).trans (Ext.new HQ (o:=.lst ([.bl false,.bl false,.bl false,.bl true]++[.bl true])));exact PY ((e8.trans sO) _ _ bk) Zd ⟨_,rfl,hB _ sO⟩
  walk_at "d";exact⟨iQ,fg (q3 hh c' z6 HS _ lc' (e7.trans eB) ((((Ext.new kF).trans (Ext.new (by rw[Zn iJ];exact jB))).trans ((Ext.new lB).trans eB)) _ _ HU))⟩
end
theorem HV{α β:Type}:∀ {ws:List α} {rs:List β} {z:α} {r:β},ws[rs.length]? = some z->ws.zip (rs++[r])=ws.zip rs++[(z,r)]
 | [],rs,z,r,h=>by simp at h
 | w :: ws,[],z,r,h=>by
  simp only[List.length_nil,List.getElem?_cons_zero,Option.some.injEq]at h
  subst h
  simp
 | w :: ws,x::rs,z,r,h=>by
  simp only[List.cons_append,List.zip_cons_cons]
  rw[HV (by simpa using h)]
def P0{ns:List Str}{rs:List Rl}{rk:Str->Nat}(df:rs.length=ns.length)(h0:L≠[])(hn:∀z∈L,z∈ns)(hL:∀(k:Nat) z r,ns[k]? = some z->rs[k]? = some r->z∈L->∃y∈L,y∈r.lean e)(hr:∀(k:Nat) z r,ns[k]? = some z->rs[k]? = some r->∀y∈r.lean e,rk y<rk z):False:=by
 have go:∀(n:Nat) z,z∈L->rk z<=n->False:=by
  intro n;induction n with
  | zero =>
   intro z hz hle;obtain⟨k,hk⟩:=List.getElem?_of_mem (hn z hz);obtain⟨r,b_⟩:∃r,rs[k]? = some r:=⟨_,Yg (by rw[df];exact(Yh.mp hk).1)⟩;obtain⟨y,hy,ly⟩:=hL k z r hk b_ hz;have:=hr k z r hk b_ y ly;lia
  | succ n ih =>
   intro z hz hle;obtain⟨k,hk⟩:=List.getElem?_of_mem (hn z hz);obtain⟨r,b_⟩:∃r,rs[k]? = some r:=⟨_,Yg (by rw[df];exact(Yh.mp hk).1)⟩;obtain⟨y,hy,ly⟩:=hL k z r hk b_ hz;have:=hr k z r hk b_ y ly;exact ih y hy (by lia)
 cases L with
 | nil=>exact h0 rfl
 | cons z L=>exact go _ z (.head _) (Yj _)
def zw{e:Str->On}(h:e z≠some 0):∀a,e z=some a->0<a:=fun a ha=>by
 rcases a with _|a
 .exact absurd ha h
 .exact Nat.succ_pos _
structure mY (z:Str) (b:Bool) (r:Rl):Prop where
 nz:∀e:Str->On,e z≠some 0->r.lst e≠some 0
 hp:∀e:Str->On,e z≠some 0->r.hp e=false
 on:∀e:Str->On,e z≠some 0->∀y∈r.lean e,y=z/\b=false
 has:b=false->∀e:Str->On,z∈r.lean e
 nm:∀y∈r.bb,y=z
 sz:r.size<=60
 wd:fv z=true->r.wd=true
def lC(j:Nat)(c z:Str):Rl:=match j with
 | 0=>.named z
 | 1=>.or (.bead c) (.named z)
 | 2=>.a7 .nothing (.named z)
 | 3=>.a7 (.named z) (.hold 1 (.bead c))
 | 4=>.hold 3 (.named z)
 | _=>.a7 (.or .nothing (.bead c)) (.hold 3 (.named z))
def wb(hc:fv c=true):∀j:Nat,mY z false (lC j c z):=by
 have go:∀r:Rl,(∀e:Str->On,e z≠some 0->r.lst e≠some 0)->(∀e:Str->On,e z≠some 0->r.hp e=false)->(∀e:Str->On,z∈r.lean e)->(∀y∈r.bb,y=z)->r.size<=60->(fv z=true->r.wd=true)->mY z false r:=fun r h1 h2 h3 h4 h5 h6=>⟨h1,h2,fun e _ y hy=>⟨h4 y (Rl.c_ hy),rfl⟩,fun _=>h3,h4,h5,h6⟩;have pT:∀y∈[z],y=z:=fun y hy=>Yp.mp hy;intro j;match j with
 | 0=>exact go _ (fun e h=>h) (fun e h=>rfl) (fun e=>.head _) pT (by simp[lC,Rl.size]) (fun h=>h)
 | 1=>exact go _ (fun e h he=>by rcases c9 he with h'|h';cases h';exact h h') (fun e h=>rfl) (fun e=>.head _) pT (by simp[lC,Rl.size]) (fun h=>by simp only[lC,Rl.wd,hc,h,Bool.and_self])
 | 2=>exact go _ (fun e h he=>by obtain⟨a,b,_,hb,sd⟩:=ph he;have:=zw h b hb;lia) (fun e h=>rfl) (fun e=>Yz _ (.head _)) pT (by simp[lC,Rl.size]) (fun h=>by simp only[lC,Rl.wd,h,Bool.and_self])
 | 3=>exact go _ (fun e h he=>by obtain⟨a,b,ha,_,sd⟩:=ph he;have:=zw h a ha;lia) (fun e h=>rfl) (fun e=>Y3 _ (.head _)) pT (by simp[lC,Rl.size]) (fun h=>by simp only[lC,Rl.wd,hc,h,Bool.and_self])
 | 4=>exact go _ (fun e h=>h) (fun e h=>by show(decide (e z=some 0)||false)=false;rw[Yu h];rfl) (fun e=>.head _) pT (by simp[lC,Rl.size]) (fun h=>by simp only[lC,Rl.wd,h])
 | j+5=>exact go _ (fun e h he=>by obtain⟨a,b,_,hb,sd⟩:=ph he;have:=zw h b hb;lia) (fun e h=>by show(false||(decide (e z=some 0)||false))=false;rw[Yu h];rfl) (fun e=>Yz _ (.head _)) pT (by simp[lC,Rl.size]) (fun h=>by simp only[lC,Rl.wd,hc,h,Bool.and_self])
def P1:mY z true (.a7 (.bead "red") (.named z))/\mY z true (.a7 (.named z) (.bead "red")):=by
 have pT:∀y∈[z],y=z:=fun y hy=>Yp.mp hy;refine⟨⟨fun e h he=>?_,fun e h=>rfl,fun e h y hy=>?_,(fun h=>nomatch h),pT,by simp[Rl.size],fun h=>?_⟩,⟨fun e h he=>?_,fun e h=>rfl,fun e h y hy=>?_,(fun h=>nomatch h),pT,by simp[Rl.size],fun h=>?_⟩⟩
 .obtain⟨a,b,_,hb,sd⟩:=ph he;have:=zw h b hb;lia
 .refine(Yy.mp hy).elim (fun h=>?_) fun h=>?_
  .split at h<;>cases h
  .split at h
   .rename_i hh;cases hh
   .cases h
 .simp only[Rl.wd,h,zV];decide +kernel
 .obtain⟨a,b,ha,_,sd⟩:=ph he;have:=zw h a ha;lia
 .refine(Yy.mp hy).elim (fun h=>?_) fun h=>?_
  .split at h
   .rename_i hh;cases hh
   .cases h
  .split at h<;>cases h
 .simp only[Rl.wd,h,Bool.true_and];decide +kernel
structure iK (ws:List Str) (m:Nat) (b:Option Nat) (rs:List Rl):Prop where
 ps:0<m
 wl:ws.length=m+1
 nd:ws.Nodup
 rl:rs.length=m+1
 lk:∀(k:Nat) y r,k<m->ws[(k+1) % m]? = some y->rs[k]? = some r->mY y (decide (b=some k)) r
 la:∀r,rs[m]? = some r->cU (ws.take m) [] [] r/\r.size<=60
def wc:List Str->Str->Nat
 | [],_=>0
 | a::r,z=>if a=z then 0 else wc r z+1
def zx:∀ {ns:List Str} {k:Nat} {z:Str},ns.Nodup->ns[k]? = some z->wc ns z=k
 | a::ns,0,z,_,h=>by cases h;exact if_pos rfl
 | a :: ns,k+1,z,nd,h=>by
  have e:a≠z:=fun e=>(Y7.mp nd).1 (e▸Yk h)
  show(if a=z then 0 else wc ns z+1)=_
  rw[if_neg e,zx (Y7.mp nd).2 h]
def P2{ns:List Str}{i j:Nat}(nd:ns.Nodup)(hi:ns[i]? = some z)(hj:ns[j]? = some z):i=j:=by
 rw[<- zx nd hi,zx nd hj]
structure nU (ws:List Str) (cb:List Rl) (ns:List Str) (rs:List Rl):Prop where
 rl:rs.length=ns.length
 nd:ns.Nodup
 mem:∀(k:Nat) z r,ns[k]? = some z->rs[k]? = some r->∃i:Nat,ws[i]? = some z/\cb[i]? = some r
 has:∀z∈ws,z∈ns
def iK.nx(h:iK ws m b cb)(k:Nat):∃y,ws[(k+1) % m]? = some y/\(k+1) % m<m:=by
 have:=uK (k+1) h.ps;exact⟨_,Yg (by rw[h.wl];lia),this⟩
def iK.nz(h:iK ws m b cb)(s:nU ws cb ns rs):∀(t k:Nat) z,k<m->ws[k]? = some z->lv (iF ns rs) t z≠some 0:=by
 intro t;induction t with
 | zero=>exact fun k z _ _ e=>nomatch e
 | succ t ih =>
  intro k z hk hz he;simp only[lv]at he;cases hF:iF ns rs z with
  | none=>rw[hF]at he;cases he
  | some r =>
   rw[hF]at he;obtain⟨j,h1,h2⟩:=vV hF;obtain⟨i,h3,h4⟩:=s.mem j z r h1 h2;have hik:=P2 h.nd h3 hz;subst hik;obtain⟨y,hy,bD⟩:=h.nx i;exact(h.lk i y r hk hy h4).nz _ (ih _ y bD hy) he
def iK.P4(h:iK ws m b cb)(s:nU ws cb ns rs)(k:Nat)(y:Str)(hy:ws[(k+1) % m]? = some y):dU ns rs y≠some 0:=h.nz s _ _ y (uK _ h.ps) hy
def iK.one(h:iK ws m b cb)(s:nU ws cb ns rs){k:Nat}(hz:ns[k]? = some z)(hr:rs[k]? = some r):(∃(i:Nat)(y:Str),i<m/\ws[i]? = some z/\ws[(i+1) % m]? = some y/\mY y (decide (b=some i)) r)\/cU (ws.take m) [] [] r/\r.size<=60:=by
 obtain⟨i,h3,h4⟩:=s.mem k z r hz hr;have hi:=(Yh.mp h4).1;rw[h.rl]at hi;by_cases e:i<m
 .obtain⟨y,hy,_⟩:=h.nx i;exact .inl ⟨i,y,e,h3,hy,h.lk i y r e hy h4⟩
 .have:i=m:=by lia
  subst this;exact .inr (h.la r h4)
def iK.hp(h:iK ws m b cb)(s:nU ws cb ns rs):∀r∈rs,r.hp (dU ns rs)=false:=fun r hr=>by
 obtain⟨k,hk⟩:=List.getElem?_of_mem hr
 obtain⟨z,hz⟩:∃z,ns[k]? = some z:=⟨_,Yg (by rw[<- s.rl];exact(Yh.mp hk).1)⟩
 rcases h.one s hz hk with⟨i,y,_,_,hy,hl⟩|⟨hl,_⟩
 .exact hl.hp _ (h.P4 s i y hy)
 .exact hl.gd.hp fun z hz=>absurd hz YG
def iK.in(h:iK ws m b cb)(s:nU ws cb ns rs)(hw:∀z∈ws,fv z=true):∀r∈rs,r.size<=60/\r.wd=true/\∀y∈r.bb,y∈ns:=fun r hr=>by
 obtain⟨k,hk⟩:=List.getElem?_of_mem hr
 obtain⟨z,hz⟩:∃z,ns[k]? = some z:=⟨_,Yg (by rw[<- s.rl];exact(Yh.mp hk).1)⟩
 rcases h.one s hz hk with⟨i,y,_,_,hy,hl⟩|⟨hl,h60⟩
 .have hm:=Yk hy
  exact⟨hl.sz,hl.wd (hw y hm),fun y' fZ=>by rw[hl.nm y' fZ];exact s.has y hm⟩
 .exact⟨h60,hl.wd,fun y hy=>s.has y (List.mem_of_mem_take (hl.nm y hy))⟩
def iK.rk(h:iK ws m (some a) cb)(s:nU ws cb ns rs)(ha:a<m):∃rk:Str->Nat,∀(k:Nat) z r,ns[k]? = some z->rs[k]? = some r->∀y∈r.lean (dU ns rs),rk y<rk z:=by
 refine⟨fun y=>(a+m-wc ws y) % m,fun k z r hz hr y hy=>?_⟩;rcases h.one s hz hr with⟨i,y',him,gK,fZ,hl⟩|⟨hl,_⟩
 .obtain⟨rfl,hb⟩:=hl.on _ (h.P4 s i y' fZ) y hy;have aR:a≠i:=fun e=>of_decide_eq_false hb (by rw[e]);show(a+m-wc ws y) % m<(a+m-wc ws z) % m;rw[zx h.nd gK,zx h.nd fZ];rcases Nat.lt_or_gt_of_ne aR with c|c
  .rw[rp (a:=a+m-i) (by lia)];by_cases e:i+1<m
   .rw[rp e,rp (by lia)];lia
   .rw[show i+1=m by lia,Nat.mod_self,Nat.sub_zero,Nat.add_mod_right,rp ha];lia
  .rw[rp (a:=i+1) (by lia),show a+m-(i+1)=(a-(i+1))+m by lia,show a+m-i=(a-i)+m by lia,Nat.add_mod_right,Nat.add_mod_right,rp (by lia),rp (by lia)];lia
 .cases hl.gd.lean y hy
def iK.no(h:iK ws m none cb)(s:nU ws cb ns rs):¬ ∃rk:Str->Nat,∀z∈ns,∀y,uz ns rs z y->rk y<rk z:=by
 rintro⟨rk,eV⟩;refine P0 (L:=ws.take m) s.rl (fun e=>?_) (fun z hz=>s.has z (List.mem_of_mem_take hz)) (fun k z r hz hr hm=>?_) fun k z r hz hr y hy=>eV z (Yk hz) y ⟨k,r,hz,hr,hy⟩
 .have:=congrArg List.length e;rw[YK,h.wl,List.length_nil]at this;have:=h.ps;lia
 .obtain⟨i,h3,h4⟩:=s.mem k z r hz hr;obtain⟨j,hj,e⟩:=pW.mp hm;rw[YK]at hj;rw[List.getElem_take]at e;have hij:=P2 h.nd h3 (show ws[j]? = some z by rw[Yg (by lia),e]);obtain⟨y,hy,bD⟩:=h.nx i;exact⟨y,Yk (i:=(i+1) % m) (by rw[Im bD];exact hy),(h.lk i y r (by lia) hy h4).has rfl _⟩
def nU.of(nd:ws.Nodup)(h:cb.length=ws.length)(hp:List.Perm ps (ws.zip cb)):nU ws cb (ps.map (·.1)) (ps.map (·.2)):=by
 have h1:(ws.zip cb).map (·.1)=ws:=List.map_fst_zip (by lia);refine⟨by simp,((hp.map (·.1)).nodup_iff).mpr (by rw[h1];exact nd),fun k z r hz hr=>?_,fun z hz=>?_⟩
 .rw[Yi]at hz hr;cases hk:ps[k]? with
  | none=>rw[hk]at hz;cases hz
  | some p =>
   rw[hk]at hz hr;cases hz;cases hr;obtain⟨i,hi⟩:=List.getElem?_of_mem (hp.mem_iff.mp (Yk hk));obtain⟨a,b⟩:=List.getElem?_zip_eq_some.mp hi;exact⟨i,a,b⟩
 .rw[(hp.map (·.1)).mem_iff,h1];exact hz
def Zkm{ps:List (Str×Rl)}:(ps.map (·.1)).zip (ps.map (·.2))=ps:=by
 induction ps with
 | nil=>rfl
 | cons p ps ih=>simp only[Yr,List.zip_cons_cons,ih]
def ZkR:bQ:=fun us A Q=>∃(c:Int)(z:Str),us=[.int c,.str z]/\∀B r,Ext A B->mY z false r->Q r.toU B
def Zrg(hc:fv c=true)(h0:0<=k)(h6:k<6):∃r:Rl,cm ([U.tup [.str "name",.str z],.tup [.str "or",.tup [.str "bead",.str c],.tup [.str "name",.str z]],.tup [.str "by",.tup [.str "nothing"],.tup [.str "name",.str z]],.tup [.str "by",.tup [.str "name",.str z],.tup [.str "bag",.tup [.str "bead",.str c]]]]++[.tup [.str "ring",.tup [.str "name",.str z]],.tup [.str "by",.tup [.str "or",.tup [.str "nothing"],.tup [.str "bead",.str c]],.tup [.str "ring",.tup [.str "name",.str z]]]]) k=some r.toU/\mY z false r:=by
 obtain⟨n,rfl⟩:=rg h0;have hn:n<6:=by lia
 rcases n with _|_|_|_|_|_|n
 .exact⟨_,ZU rfl,wb hc 0⟩
 .exact⟨_,ZU rfl,wb hc 1⟩
 .exact⟨_,ZU rfl,wb hc 2⟩
 .exact⟨_,ZU rfl,wb hc 3⟩
 .exact⟨_,ZU rfl,wb hc 4⟩
 .exact⟨_,ZU rfl,wb hc 5⟩
 .lia
section
include T
def ZoK:T.t9.Ok aQ 2 (a6 K ZkR):=by
 have uA:=PQ T;apply T.t9.bF;walk_at "f";exact fun S hr=>⟨_,(Zf (ZB (i:=2) S.nd rfl (Or.inl rfl) (ZJ (Za Zr (Za (pv 1) Zg))))
   (Zf (ZB (i:=3) S.nd rfl (Or.inl rfl) (ZJ (Za Zr (Za (T.pG.pc uA hr (Za (ZO nh (pv 0) Zl) Zg)) Zg))))
   (Zf (ZB (i:=4) S.nd rfl (Or.inl rfl) (ZW (Za (pv 2) (Za (ZJ (Za Zr (Za (pv 3) (Za (pv 2) Zg)))) (Za (ZJ (Za Zr (Za (ZJ (Za Zr Zg)) (Za (pv 2) Zg)))) (Za (ZJ (Za Zr (Za (pv 2) (Za (ZJ (Za Zr (Za (pv 3) Zg))) Zg)))) Zg))))))
   (Zf (ZB (i:=4) S.nd rfl (Or.inl rfl) (ZO f_ (pv 4) (ZW (Za (ZJ (Za Zr (Za (pv 2) Zg))) (Za (ZJ (Za Zr (Za (ZJ (Za Zr (Za (ZJ (Za Zr Zg)) (Za (pv 3) Zg)))) (Za (ZJ (Za Zr (Za (pv 2) Zg))) Zg)))) Zg)))))
   (Zh (Zu (ZH aT (pv 4) (ZO dI (pv 0) Zl) (fun _ _=>rfl)))))))),(Zk (Zq (ZI (Zc Zy (Zc Zb Ze))) Zi)
   (Zk (Zq (ZI (Zc Zy (Zc (Zt (Zc (Zj nA Zb Zm) Ze)) Ze))) Zi)
   (Zk (Zq (ZV (Zc Zb (Zc (ZI (Zc Zy (Zc Zb (Zc Zb Ze)))) (Zc (ZI (Zc Zy (Zc (ZI (Zc Zy Ze)) (Zc Zb Ze)))) (Zc (ZI (Zc Zy (Zc Zb (Zc (ZI (Zc Zy (Zc Zb Ze))) Ze)))) Ze))))) Zi)
   (Zk (Zq (Zj gb Zb (ZV (Zc (ZI (Zc Zy (Zc Zb Ze))) (Zc (ZI (Zc Zy (Zc (ZI (Zc Zy (Zc (ZI (Zc Zy Ze)) (Zc Zb Ze)))) (Zc (ZI (Zc Zy (Zc Zb Ze))) Ze)))) Ze)))) Zi)
   (Zv (Zj ZK Zb (Zj dM Zb Zm)))))))⟩
 rintro us A Q ⟨c,z,rfl,q⟩;walk_at "o";refine⟨ck,⟨by decide,by decide⟩,_,rfl,fun cl i5=>⟨ck,iQ,by decide,iQ,ck,iQ,d6,fun p hp=>⟨ck,by decide,iQ,ck,iQ,ck,fun p1 ir=>⟨_,_,Ext.new ir _ _ Zd,Zd,show 4+2<=sizeLine by decide,fun p2 yW=>?_⟩⟩⟩⟩;have h5:0<=c % 6/\c % 6<6:=⟨kH _ (by decide),m4 _ (by decide)⟩;obtain⟨r,hr,hl⟩:=Zrg i5 h5.1 h5.2;exact⟨by decide,_,_,Zd,hr,fg (q _ r (((Ext.new hp).trans (Ext.new ir)).trans (Ext.new yW)) hl)⟩
end
def P5(k:Bool)(R:a8->az->Prop)(h1:∀B:Bool->az->Prop,B k A->c ρ A B)(h2:k=true->∀N:a8->az->Prop,(∀ρ A,R ρ A->N ρ A)->t { D with nx:=N } ρ A)(h3:k=false->∀N:a8->az->Prop,(∀ρ A,R ρ A->N ρ A)->e { D with nx:=N } ρ A)(h:∀ρ A,R ρ A->D.nx ρ A):o6 c t e D ρ A:=h1 _ (by
 cases k with
 | true=>exact gH rfl (h2 rfl D.nx h)
 | false=>exact jv (by decide) (h3 rfl D.nx h))
theorem P6{α β:Type}:∀ {ws:List α} {rs:List β} {a:Nat} {z:α} {r:β},ws[a]? = some z->ws.zip (rs.set a r)=(ws.zip rs).set a (z,r)
 | [],rs,a,z,r,h=>by simp at h
 | w::ws,[],a,z,r,h=>by simp
 | w::ws,x::rs,0,z,r,h=>by cases h;rfl
 | w :: ws,x::rs,a+1,z,r,h=>by
  simp only[List.set_cons_succ,List.zip_cons_cons]
  rw[P6 (by simpa using h)]
def ZnD(a b:Nat):(dN xs (some (a:Int)) (some (b:Int))).length<=b-a:=by
 unfold dN;rw[show HT.aO xs.length xs.length (some (b:Int))=min b xs.length from HT.cz xs.length xs.length b,show HT.aO xs.length 0 (some (a:Int))=min a xs.length from HT.cz xs.length 0 a,YK,pZ];lia
def Zsh(h:k=0\/k=1):∃r:Rl,cm [U.tup [.str "by",.tup [.str "bead",.str "red"],.tup [.str "name",.str z]],.tup [.str "by",.tup [.str "name",.str z],.tup [.str "bead",.str "red"]]] k=some r.toU/\mY z true r:=by
 rcases h with rfl|rfl
 .exact⟨_,rfl,P1.1⟩
 .exact⟨_,rfl,P1.2⟩
def Mg(hx:PyData.strOk x=true)(hy:PyData.strOk y=true)(h:Q (.bl true) A):eE false (.tup [.str x,.str y]) (.tup [.str x,.str y]) A Q:=by
 obtain⟨g1,g2,g3⟩:=Ce (A:=A) (zs:=[x,y]) (by simp[hx,hy]);refine⟨.tuple ([x,y].map PyData.str),.tuple ([x,y].map PyData.str),.tup g1,.tup g1,?_,?_,?_,?_⟩
 .simp only[PyData.canLay0,g2]
 .simp only[PyData.canLay0,g2]
 .simp only[PyData.depth];lia
 .rw[show PyData.eqv (.tuple ([x,y].map PyData.str)) (.tuple ([x,y].map PyData.str))=true from by simp only[PyData.eqv,He,decide_true]];exact h
section
include T
def zy:T.ua.Ok aQ 130 (a6 K Bc):=by
 have HW:=Zoi T;have pU:=Zj8 T;have HX:=Zlc T;have HY:=ZoK T;have HZ:=Zka T;have H_:=Zkk T;have Ia:=ZkC T;have Ib:=Zoz T;apply T.ua.bF;walk_at "f";exact fun S hr=>⟨_,(Zf (ZB (i:=0) S.nd rfl (Or.inl rfl) (T.t_.pc HW hr (Za (pv 0) Zg)))
   (Zf (ZB (i:=1) S.nd rfl (Or.inl rfl) (ZO f_ Zl (ZO dI (T.kn.pc pU hr (Za (pv 0) (Za Zl Zg))) Zl)))
   (Zf (ZB (i:=2) S.nd rfl (Or.inl rfl) (T.tR.pc HX hr (Za (ZO dI (T.kn.pc pU hr (Za (pv 0) (Za Zl Zg))) (ZO Av Zl Zl)) (Za (ZO f_ (pv 1) Zl) Zg))))
   (Zf (ZB (i:=3) S.nd rfl (Or.inl rfl) (ZW Zg))
   (Zf (ee YF rfl (u6 rfl T.cD (Za (pv 1) Zg)) (Zx (i:=4) S.nd rfl (Or.inl rfl))
   (Zh (Z1 (gF Yx YM YN Z4 (pv 3) (Za (ZJ (Za (ZH aT (pv 2) (pv 4) (fun _ _=>rfl)) (Za (T.t9.pc HY hr (Za (ZO dI (T.kn.pc pU hr (Za (pv 0) (Za (ZO f_ Zl (pv 4)) Zg))) (ZO Av Zl Zl)) (Za (ZH aT (pv 2) (ZO dI (ZO f_ (pv 4) Zl) (pv 1)) (fun _ _=>rfl)) Zg))) Zg))) Zg)))))
   (Zf (ZB (i:=5) S.nd rfl (Or.inl rfl) (T.kn.pc pU hr (Za (pv 0) (Za Zl Zg))))
   (Zf (ZT (Zo (cN hr) (ZO dI (pv 5) Zl) Zl (ZF _)) (Zf (ZB (i:=6) S.nd rfl (Or.inl rfl) (ZO dI (ZO nh (pv 5) Zl) (pv 1)))
   (Zf (ZB (i:=7) S.nd rfl (Or.inl rfl) (ZJ (Za Zr (Za (ZH aT (pv 2) (ZO dI (ZO f_ (pv 6) Zl) (pv 1)) (fun _ _=>rfl)) Zg))))
   (Zf (ZB (i:=8) S.nd rfl (Or.inl rfl) (ZJ (Za Zr (Za Zr Zg))))
   (Zh (uQ (ZJ (Za (ZH aT (pv 2) (pv 6) (fun _ _=>rfl)) (Za (ZH aT (ZW (Za (ZJ (Za Zr (Za (pv 8) (Za (pv 7) Zg)))) (Za (ZJ (Za Zr (Za (pv 7) (Za (pv 8) Zg)))) Zg))) (ZO dI (ZO nh (pv 5) Zl) Zl) (fun _ _=>rfl)) Zg))) (uP (pv 3) (pv 6) Rj)))))) Zz)
   (Zf (Z1 (gF Yx YM YN Z4 (pv 3) (Za (ZJ (Za (ZH aT (pv 2) (pv 1) (fun _ _=>rfl)) (Za (T.tU.pc HZ hr (Za (qk qp (pv 0) (oG Zl) (oG Zl)) (Za (qk qp (pv 2) rT (oG (pv 1))) (Za (ZW Zg) (Za vz Zg))))) Zg))) Zg)))
   (Zf (ZB (i:=9) S.nd rfl (Or.inl rfl) (ZO dI (ZO nh (pv 5) Zl) (ZO f_ (pv 1) Zl)))
   (Zf (ZB (i:=3) S.nd rfl (Or.inl rfl) (ZO f_ (qk qp (pv 3) (oG (pv 9)) rT) (qk qp (pv 3) rT (oG (pv 9)))))
   (Zf (ZT (Zo (cN hr) (ZO dI (ZO nh (pv 5) Zl) Zl) Zl (ZF _)) (Zh (ZB (i:=3) S.nd rfl (Or.inl rfl) (TC rfl (by rfl) T.eU (by rfl) T.jb (pv 3)))) Zz)
   (Zf (ZB (i:=10) S.nd rfl (Or.inl rfl) (T.tZ.pc Ia hr (Za (pv 3) Zg)))
   (Zf (ZT (Zo (cN hr) (ZO dI (pv 5) Zl) Zl (ZF _)) (Zh (Zu (C_ (qg (cN hr) (ZH aT (pv 10) Zl (fun _ _=>rfl)) Zr (ZF _)) (z8 (qg (cN hr) (T.tX.pc H_ hr (Za (pv 3) Zg)) (ZJ (Za Zr (Za Zr Zg))) (ZF _)))))) Zz)
   (Zh (Zu (C_ (qg (cN hr) (ZH aT (pv 10) Zl (fun _ _=>rfl)) Zr (ZF _)) (z8 (T.tY.pc Ib hr (Za (ZH aT (pv 10) Zl (fun _ _=>rfl)) (Za (pv 3) Zg)))))))))))))))))))),(Zk (Zq (Zt (Zc Zb Ze)) Zi)
   (Zk (Zq (Zj gb Zm (Zj dM (Zt (Zc Zb (Zc Zm Ze))) Zm)) Zi)
   (Zk (Zq (Zt (Zc (Zj dM (Zt (Zc Zb (Zc Zm Ze))) (Zj A9 Zm Zm)) (Zc (Zj gb Zb Zm) Ze))) Zi)
   (Zk (Zq (ZV Ze) Zi)
   (Zk (eu (vf (Zc Zb Ze)) Zi
   (Z5 (gI ZR jx Zb (Zc (ZI (Zc (Zj ZK Zb Zb) (Zc (Zt (Zc (Zj dM (Zt (Zc Zb (Zc (Zj gb Zm Zb) Ze))) (Zj A9 Zm Zm)) (Zc (Zj ZK Zb (Zj dM (Zj gb Zb Zm) Zb)) Ze))) Ze))) Ze))))
   (Zk (Zq (Zt (Zc Zb (Zc Zm Ze))) Zi)
   (Zk (Z0 (Zp (Zj cK (Zj dM Zb Zm) Zm)) (Zk (Zq (Zj dM (Zj nA Zb Zm) Zb) Zi)
   (Zk (Zq (ZI (Zc Zy (Zc (Zj ZK Zb (Zj dM (Zj gb Zb Zm) Zb)) Ze))) Zi)
   (Zk (Zq (ZI (Zc Zy (Zc Zy Ze))) Zi)
   (Zq (ZI (Zc (Zj ZK Zb Zb) (Zc (Zj ZK (ZV (Zc (ZI (Zc Zy (Zc Zb (Zc Zb Ze)))) (Zc (ZI (Zc Zy (Zc Zb (Zc Zb Ze)))) Ze))) (Zj dM (Zj nA Zb Zm) Zm)) Ze))) (S6 Zb Zb))))) ZA)
   (Zk (Z5 (gI ZR jx Zb (Zc (ZI (Zc (Zj ZK Zb Zb) (Zc (Zt (Zc (qu qw Zb (oS Zm) (oS Zm)) (Zc (qu qw Zb sC (oS Zb)) (Zc (ZV Ze) (Zc vy Ze))))) Ze))) Ze)))
   (Zk (Zq (Zj dM (Zj nA Zb Zm) (Zj gb Zb Zm)) Zi)
   (Zk (Zq (Zj gb (qu qw Zb (oS Zb) sC) (qu qw Zb sC (oS Zb))) Zi)
   (Zk (Z0 (Zp (Zj cK (Zj dM (Zj nA Zb Zm) Zm) Zm)) (Zq (TL Zb) Zi) ZA)
   (Zk (Zq (Zt (Zc Zb Ze)) Zi)
   (Zk (Z0 (Zp (Zj cK (Zj dM Zb Zm) Zm)) (Zv (Ew (Zj cK (Zj ZK Zb Zm) Zy) (Zj cK (Zt (Zc Zb Ze)) (ZI (Zc Zy (Zc Zy Ze)))))) ZA)
   (Zv (Ew (Zj cK (Zj ZK Zb Zm) Zy) (Zt (Zc (Zj ZK Zb Zm) (Zc Zb Ze))))))))))))))))))⟩
 rintro us A Q ⟨ns,rfl,hl,q⟩;walk_at "o";refine⟨ns,rfl,hl,fun l0 ms cL hms=>?_⟩;have a0:af A l0 (.lst (ms.map U.int)) l0=some (.lst (ms.map U.int)):=Zd;generalize af A l0 (.lst (ms.map U.int))=A0 at a0 ⊢;refine⟨l0,ms,1,rfl,a0,by decide,fun c1=>?_⟩;walk_at "d";have h8:0<=c1 % 7/\c1 % 7<7:=⟨kH _ (by decide),m4 _ (by decide)⟩;obtain⟨m,hm⟩:=rg h8.1;rw[hm,show(1:Int)+(m:Int)=((m+1:Nat):Int) by lia];have hm8:m<7:=by lia
 refine⟨by decide,l0,ms,0,rfl,a0,by decide,fun c0=>⟨⟨by decide,by decide,by decide⟩,?_⟩⟩;walk_at "d";rw[show((m+1:Nat):Int)+1=((m+2:Nat):Int) by lia];refine⟨by decide,_,m+2,rfl,kH _ (by decide),by lia,fun lw ws P7 uX hwn Ic=>⟨by decide,fun p hp=>⟨by lia,by lia,?_⟩⟩⟩;have e1:=(Ext.new P7 (o:=.lst (List.map U.str ws))).trans (Ext.new hp (o:=.lst []));have a1:=e1 _ _ a0;have w1:af (af A0 lw (.lst (List.map U.str ws))) p (.lst []) lw=some (.lst (ws.map U.str)):=Ext.new hp _ _ Zd;have p1:af (af A0 lw (.lst (List.map U.str ws))) p (.lst []) p=some (.lst []):=Zd;have n1:l0≠p:=eF (Ext.new P7 _ _ a0) hp;have n2:lw≠p:=eF Zd hp;generalize af (af A0 lw (.lst (List.map U.str ws))) p (.lst [])=A1 at a1 w1 p1 ⊢;refine xM (n:=m+1) (fun k ρ A2=>∃(rs:List Rl)(x4 x5 x6 x7 x8 x9 zA:Option U),ρ=[some (.ref l0),some (.int ((m+1:Nat):Int)),some (.ref lw),some (.ref p),x4,x5,x6,x7,x8,x9,zA]/\A2 l0=some (.lst (ms.map U.int))/\A2 lw=some (.lst (ws.map U.str))/\A2 p=some (.lst ((ws.zip rs).map fun q=>.tup [.str q.1,q.2.toU]))/\rs.length=k/\∀(j:Nat) y r,j<k->ws[(j+1) % (m+1)]? = some y->rs[j]? = some r->mY y false r) ⟨[],_,_,_,_,_,_,_,rfl,a1,w1,by rw[List.zip_nil_right];exact p1,rfl,fun j y r h=>by lia⟩ ?_ ?_
 .rintro k ρ A2 hk ⟨rs,x4,x5,x6,x7,x8,x9,zA,rfl,a2,w2,p2,df,bO⟩;rw[Int.zero_add];obtain⟨z0,hz⟩:∃z0,ws[k]? = some z0:=⟨_,Yg (by lia)⟩;have hkm:=uK (k+1) (show 0<m+1 by lia);obtain⟨y0,hy⟩:∃y0,ws[(k+1) % (m+1)]? = some y0:=⟨_,Yg (by lia)⟩;walk_at "d";refine⟨⟨_,p2⟩,_,_,w2,ZU (by rw[Yi,hz];rfl),l0,ms,_,rfl,a2,by lia,fun c3=>?_⟩;walk_at "d";refine⟨⟨by decide,by decide,by decide⟩,by decide,by lia,_,_,w2,ZU (j:=(k+1) % (m+1)) (by rw[Yi,hy];rfl),_,_,rfl,fun B r eB hr=>⟨ck,_,eB _ _ p2,ZX (by rw[Yc,List.length_zip];lia),rs++[r],_,_,_,_,_,_,_,rfl,by rw[Zn n1];exact eB _ _ a2,by rw[Zn n2];exact eB _ _ w2,?_,by simp[df],fun j y r' hj fZ b_=>?_⟩⟩
  .rw[Zd,HV (by rw[df];exact hz),Ys];rfl
  .by_cases e:j<k
   .exact bO j y r' e fZ (by rw[YU (by lia)]at b_;exact b_)
   .have:j=k:=by lia
    subst this;rw[YQ (by lia),df,qa]at b_;rw[hy]at fZ;cases fZ;cases b_;exact hr
 rintro ρ A2 ⟨rs,x4,x5,x6,x7,x8,x9,zA,rfl,a2,w2,p2,df,bO⟩;walk_at "d";refine⟨l0,ms,2,rfl,a2,by decide,fun c2=>?_⟩;walk_at "d";refine P5 (decide (c2 % 2=1)) (fun ρ A3=>∃(b:Option Nat)(rs:List Rl)(y6 y7 y8:Option U),ρ=[some (.ref l0),some (.int ((m+1:Nat):Int)),some (.ref lw),some (.ref p),x4,some (.int c2),y6,y7,y8,x9,zA]/\Kx p A2 A3/\A3 p=some (.lst ((ws.zip rs).map fun q=>.tup [.str q.1,q.2.toU]))/\rs.length=m+1/\(∀(j:Nat) y r,j<m+1->ws[(j+1) % (m+1)]? = some y->rs[j]? = some r->mY y (decide (b=some j)) r)/\(∀a,b=some a->a<m+1)/\b.isSome=decide (c2 % 2=1)) (fun B hB=>?_) (fun h=>?_) (fun h=>?_) ?_
 .walk_at "d";exact⟨by decide,hB⟩
 .intro N hN;walk_at "d";have h9:0<=c2 / 2 % ((m+1:Nat):Int)/\c2 / 2 % ((m+1:Nat):Int)<((m+1:Nat):Int):=⟨kH _ (by lia),m4 _ (by lia)⟩;obtain⟨a,ha⟩:=rg h9.1;rw[ha];have ham:a<m+1:=by lia
  have hkm:=uK (a+1) (show 0<m+1 by lia);obtain⟨z0,hz⟩:∃z0,ws[a]? = some z0:=⟨_,Yg (by lia)⟩;obtain⟨y0,hy⟩:∃y0,ws[(a+1) % (m+1)]? = some y0:=⟨_,Yg (by lia)⟩;obtain⟨r,hr,hl⟩:=Zsh (z:=y0) (k:=c2 / 196 % 2) (by lia);refine⟨⟨by decide,by decide⟩,by lia,by lia,_,_,w2,ZU (j:=(a+1) % (m+1)) (by rw[Yi,hy];rfl),ck,ck,_,_,w2,ZU (by rw[Yi,hz];rfl),iQ,iQ,ck,fun pp Cv=>⟨⟨by decide,by decide⟩,by decide,_,_,Zd,hr,ck,p,_,_,a,rfl,rfl,Ext.new Cv _ _ p2,Sa (by rw[Yc,List.length_zip];lia),hN _ _ ⟨some a,rs.set a r,_,_,_,rfl,((Kx.of (Ext.refl _)).new Cv).upd,?_,by simp[df],fun j y r' hj fZ b_=>?_,fun a' h'=>by cases h';exact ham,h.symm⟩⟩⟩
  .rw[Zd,P6 hz,List.map_set]
  .by_cases e:j=a
   .subst e;rw[zG (by lia)]at b_;rw[hy]at fZ;cases fZ;cases b_;rw[YA rfl];exact hl
   .rw[zK (Ne.symm e)]at b_;rw[Yu (fun h=>e (by injection h with h;exact h.symm))];exact bO j y r' hj fZ b_
 .intro N hN;exact hN _ _ ⟨none,rs,_,_,_,rfl,Kx.of (Ext.refl _),p2,df,bO,fun a h=>(nomatch h),h.symm⟩
 rintro ρ A3 ⟨b,jQ,y6,y7,y8,rfl,e3,p3,pV,zB,hb,P8⟩;replace a2:=e3 _ _ n1 a2;replace w2:=e3 _ _ n2 w2;clear df bO p2 e3;walk_at "d";obtain⟨zm,B_⟩:∃z0,ws[m+1]? = some z0:=⟨_,Yg (by lia)⟩;refine⟨⟨_,p3⟩,_,_,w2,ZU (by rw[Yi,B_];rfl),_,a2,fun q1 Ie=>⟨_,Ext.new Ie _ _ w2,fun q2 Cw=>⟨by decide,fun q3 zC q4 we=>?_⟩⟩⟩;rw[vp,vp,Hw]at *;have oF:(dN ms (some 10) (some 20)).length<=10:=ZnD 10 20;generalize dN ms (some 10) (some 20)=cs at oF Cw zC we ⊢;have e5:=(((Ext.new Ie (o:=.lst (List.map U.int cs))).trans (Ext.new Cw (o:=.lst (List.map U.str (ws.take (m+1)))))).trans (Ext.new zC (o:=.lst []))).trans (Ext.new we (o:=dS P w 0 []));refine⟨q1,q2,q3,q4,cs,ws.take (m+1),[],0,[],rfl,Ext.new we _ _ (Ext.new zC _ _ (Ext.new Cw _ _ Zd)),oF,Ext.new we _ _ (Ext.new zC _ _ Zd),Ext.new we _ _ Zd,Zd,fun e=>?_,fun z hz=>Ic z (List.mem_of_mem_take hz),fun z hz=>(nomatch hz),fun r hr iH=>?_⟩
 .have:=congrArg List.length e;rw[YK,List.length_nil]at this;lia
 replace p3:=e5 _ _ p3;replace a2:=e5 _ _ a2;replace w2:=e5 _ _ w2;generalize af (af (af (af A3 q1 _) q2 _) q3 _) q4 _=A4 at p3 a2 w2 ⊢;clear e5 Ie Cw zC we;have hR:iK ws (m+1) b (jQ++[r]):=⟨by lia,by lia,hwn,by simp[pV],fun k y r' hk hy b_=>zB k y r' hk hy (by rw[YU (by lia)]at b_;exact b_),fun r' b_=>by
  rw[YQ (by lia),pV,qa]at b_;cases b_;exact⟨hr,iH⟩⟩
 have qW:((ws.zip jQ).map fun q:Str×Rl=>U.tup [.str q.1,q.2.toU]).length=m+1:=by rw[Yc,List.length_zip];lia
 refine⟨ck,_,p3,ZX (by rw[qW];lia),⟨by decide,by decide⟩,by lia,?_⟩;rw[show((ws.zip jQ).map fun q:Str×Rl=>U.tup [.str q.1,q.2.toU])++[.tup [.str zm,r.toU]]=(ws.zip (jQ++[r])).map fun q:Str×Rl=>U.tup [.str q.1,q.2.toU]from by rw[HV (by rw[pV];exact B_),Ys];rfl];generalize jQ++[r]=ji at hR ⊢;clear zB pV qW hr iH p3;rw[show((m+1:Nat):Int)+1=((m+2:Nat):Int) by lia];have h9:0<=c2 / 14 % ((m+2:Nat):Int)/\c2 / 14 % ((m+2:Nat):Int)<((m+2:Nat):Int):=⟨kH _ (by lia),m4 _ (by lia)⟩;obtain⟨t,ht⟩:=rg h9.1;rw[ht];have p5:af A4 p (.lst ((ws.zip ji).map fun q=>.tup [.str q.1,q.2.toU])) p=some (.lst ((ws.zip ji).map fun q=>.tup [.str q.1,q.2.toU])):=Zd;generalize af A4 p (.lst ((ws.zip ji).map fun q=>.tup [.str q.1,q.2.toU]))=A5 at p5 ⊢;refine⟨_,p5,fun q5 Co=>⟨_,Ext.new Co _ _ p5,fun q6 P9=>?_⟩⟩;have qW:(ws.zip ji).length=m+2:=by rw[List.length_zip,hR.wl,hR.rl];lia
 simp only[vp,Hw,PU (ws.zip ji) t (by lia)]at P9 ⊢;refine⟨_,_,Ext.new P9 _ _ Zd,Zd,nZ (ZX (by simp only[Yc,pZ,YK];lia)),fun lp G5=>?_⟩;rw[<- Ys];have jc:List.Perm ((ws.zip ji).drop t++(ws.zip ji).take t) (ws.zip ji):=by
  have:=List.perm_append_comm (l₁:=(ws.zip ji).drop t) (l₂:=(ws.zip ji).take t);rw[CD]at this;exact this
 generalize(ws.zip ji).drop t++(ws.zip ji).take t=Cz at jc ⊢;have p7:=Zd (A:=af (af A5 q5 (.lst (List.map (fun q=>.tup [.str q.1,q.2.toU]) ((ws.zip ji).drop t)))) q6 (.lst (List.map (fun q=>.tup [.str q.1,q.2.toU]) ((ws.zip ji).take t)))) (a:=lp) (o:=.lst (List.map (fun q:Str×Rl=>U.tup [.str q.1,q.2.toU]) Cz));generalize af (af (af A5 q5 _) q6 _) lp _=A7 at p7 ⊢;refine P5 (decide (c2 / 98 % 2=1)) (fun ρ A8=>∃(l8:Addr)(mZ:List (Str×Rl)),ρ=[some (.ref l0),some (.int ((m+1:Nat):Int)),some (.ref lw),some (.ref l8),x4,some (.int c2),y6,y7,y8,some (.int t),zA]/\A8 l8=some (.lst (mZ.map fun q=>.tup [.str q.1,q.2.toU]))/\List.Perm mZ (ws.zip ji)) (fun B hB=>?_) (fun h=>?_) (fun h=>?_) ?_
 .walk_at "d";exact⟨⟨by decide,by decide⟩,by decide,hB⟩
 .intro N hN;walk_at "d";exact⟨_,_,rfl,p7,fun l9 hl9=>hN _ _ ⟨l9,Cz.reverse,rfl,by rw[Zd,List.map_reverse],(List.reverse_perm Cz).trans jc⟩⟩
 .intro N hN;exact hN _ _ ⟨lp,Cz,rfl,p7,jc⟩
 rintro ρ A8 ⟨l8,mZ,rfl,p8,zD⟩;have S:=nU.of hR.nd (by rw[hR.wl,hR.rl]) zD;have hlen:(mZ.map (·.1)).length=m+2:=by rw[Yc,zD.length_eq,qW]
 have iI:∀z∈mZ.map (·.1),fv z=true:=fun z hz=>by
  obtain⟨k,hk⟩:=List.getElem?_of_mem hz;obtain⟨r,hr⟩:∃r,(mZ.map (·.2))[k]? = some r:=⟨_,Yg (by have:=(Yh.mp hk).1;simpa using this)⟩;obtain⟨i,h1,_⟩:=S.mem k z r hk hr;exact Ic z (Yk h1)
 have fL:=hR.in S Ic;have um:=hR.hp S;rw[show mZ=(mZ.map (·.1)).zip (mZ.map (·.2))from Zkm.symm]at p8;generalize mZ.map (·.1)=Ig at S hlen iI fL um p8;generalize mZ.map (·.2)=Ih at S hlen iI fL um p8;walk_at "d";refine⟨l8,Ig,Ih,rfl,p8,S.rl,by lia,S.nd,iI,fL,fun hh eV B lc eB=>?_,fun k z r g1 g2 g3=>(by rw[um r (Yk g2)]at g3;cases g3),fun hh c hc lz B lc eB PZ=>?_⟩
 .cases b with
  | none=>exact absurd eV (hR.no S)
  | some a =>
   refine mm (fun B hB=>?_) ?_
   .walk_at "d";refine⟨by decide,?_⟩;rw[<- P8];exact hB
   walk_at "d";refine ZS (by decide) ⟨l8,Ig,Ih,rfl,eB _ _ p8,S.rl,by lia,S.nd,fun r hr=>⟨(fL r hr).1,(fL r hr).2.2⟩,fun k z r g1 g2 g3=>(by rw[um r (Yk g2)]at g3;cases g3),fun _ h=>?_,fun _ _ B2 e2=>?_⟩
   .obtain⟨L,h1,h2,h3⟩:=h;obtain⟨rk,eV⟩:=hR.rk S (hb a rfl);exact(P0 S.rl h1 h2 h3 eV).elim
   refine⟨ck,?_⟩;walk_at "d";exact Mg (by decide +kernel) (by decide +kernel) (fg (q _))
 .cases b with
  | some a =>
   obtain⟨rk,eV⟩:=hR.rk S (hb a rfl);exact(hc.jh lz fun z hz y hy=>by obtain⟨k,r,h1,h2,h3⟩:=hy;exact eV k z r h1 h2 y h3).elim
  | none =>
   refine iZ (fun B hB=>?_) ?_
   .walk_at "d";refine⟨by decide,?_⟩;rw[<- P8];exact hB
   walk_at "d";exact ZS (by decide) ⟨lc,l8,c,Ig,Ih,rfl,PZ,eB _ _ p8,S.rl,by lia,S.nd,fun r hr=>⟨(fL r hr).1,(fL r hr).2.2⟩,hc,lz,fun B3 _=>fg (q _)⟩
end
def walk{l:PySem.W.OpenLaw}{K:Params->au}(hn:l.most=some 63)(wY:d.params.defaults=[])(hY:∀ (w:World) (h:Heap),YP w h->(K w.params).In h)(F : ∀ (w:World) (mg:Str->Option Value) (fa:Addr) (h:Heap),(K w.params).In h->h.Ns mainGlobals mg->mg d.name=some (.ref fa) ->
   ∃fd:FuncData,(∀(s:Shared)(u:Value),BindsTo s fd ⟨[u],[]⟩ [("_law_script",u)])/\∀base:Heap,(K w.params).In base->base.Ns mainGlobals mg->cF l.prog w (K w.params) mg base aQ 130 fa fd ["_law_script"] (a6 (K w.params) Bc)):
  PySem.W.WalkO q loose XP YP l.row.toRowW d [] (fun f vs=>PySem.call f vs) :=
 L2.oK (n:=63) (k:=130) (x:="_law_script") (CX:=fun _=>aQ) (sp:=fun w=>a6 (K w.params) Bc) hn (by decide) wY ⟨rfl,by decide,by decide⟩ hY F (fun _ _ a ns hl hO hS=>S8 hl hO hS) fun _ _ _ _ _ z=>z
def _root_.PySem.W.Fast.tw14598715356260435866:=PySem.W.boot_o_0
def _root_.PySem.W.Fast.te14598715356260435866:PySem.W.boot_o_0=PySem.W.Fast.tw14598715356260435866:=rfl
def _root_.PySem.W.Fast.tw13844092205094164822:=PySem.Challenge.pw_figurebook_k08_rounds_walked
def _root_.PySem.W.Fast.te13844092205094164822:PySem.Challenge.pw_figurebook_k08_rounds_walked=PySem.W.Fast.tw13844092205094164822:=rfl
def hq:Program:=view PySem.Challenge.pw_figurebook_k08_rounds_walked [54]
def hloose:List Str:=(["_wall","FigureError","Twice","NoClass","Hollow","Round","Rule","Nothing","Bead","Or","By","Row","Bag","Choice","Ring","Named","term_text","factor_text","Book","rules_by_name","leasts_by_name","least_of","refuse_hollow_parts","has_hollow_part","leans_by_name"]:List Str)++(["leaning_names","leaning_parts","refuse_rounds","round_from","spoken_names","_law_cell","_law_words","_law_colour","_law_hollow","_law_op","_law_rule","_law_rules","_law_object","_law_pairs","_law_least","_law_leasts","_law_leaning","_law_inside","_law_hollow_part","_law_goes_round","_law_verdict","_law_is_round","_law_asked","_law_link","_law_mix"]:List Str)
def hAs:List Addr:=[2,3,20,21,30,31,50,51,66,67,69,70,85,86,88,89,104,105,107,108,123,124,130,131,133,134,154,155,170,171,180,181,196,197,203,204,213,214,229,230,236,237,246,247,262,263,269,270,279,280,295,296,302,303,312,313,328,329,335,336,345,346,361,362,368,369,378,379,394,395,401,402,411,412,439,440,512,513,523,524,528,529,533,534,540,541,545,546,550,551,557,558,562,563,567,568,574,575,581,582,588,589,593,594,600,601,607,608,614,615,621,622,633,634,643,644,650,651,657,658,664,665,671,672,676,677,681,682,688,689,693,694,700,701,707,708,714,715]
def hTs:List Addr:=[]
abbrev hH:PySem.W.Hook:=kmHook hK hAs (fun _=>rfl) hTs
abbrev hXt:Shared->Bool:=fun s=>xlAt hq [] s&&recOk (RowW.records (PySem.W.OpenRow.toRowW (PySem.W.OpenLaw.row PySem.Challenge.rw_figurebook_k08_rounds_walked))) s
def hL(w:World)(os:OsState):=Zlg PySem.Challenge.pw_figurebook_k08_rounds_walked w os 11 (some (.ref 6)) 40000 (fun s=>(PySem.W.staticsOk (importedModules PySem.Challenge.pw_figurebook_k08_rounds_walked.main.body) (PySem.W.boot_heap w.params) s.heap&&PySem.W.namesBound PySem.Challenge.pw_figurebook_k08_rounds_walked s.heap&&PySem.W.gensDone s&&PySem.W.laidKept (PySem.W.boot_heap w.params) s.heap,PySem.W.openSeen hq hloose (importedModules PySem.Challenge.pw_figurebook_k08_rounds_walked.main.body) hXt true s,(hAs.map s.heap.get?,hTs.map s.heap.get?)))
def hR(w:World)(_:OsState):=some (true,PySem.W.openGood hq hloose,((hKl w.params).map fun p=>some p.2,hTs.map fun _=>some (tabObj #[])))
lay_quick My.hL My.hR L2.hBoot
def ZtB(w:World)(os:OsState):hL w os=hR w os:=(congrFun (congrFun PySem.W.Fast.te13887445390003487561 w) os).trans (Eq.trans (by kernel_rfl) (congrFun (congrFun PySem.W.Fast.te6075038599416009561 w) os).symm)
def ZqZ(w:World):hBoot w=(true,11,some (.ref 6)):=(congrFun PySem.W.Fast.te16037136179764453472 w).trans (by kernel_rfl)
def h_left:PySem.W.LeftO PySem.Challenge.pw_figurebook_k08_rounds_walked hq hloose hXt (PySem.W.Hook.obs hH) (PySem.W.Hook.val hH) 40000:=Zg1 (by rfl) (by decide) (fun s=>rfl) ZqZ ZtB
end My
open PySem PySem.W PyProof.Rows
set_option maxRecDepth 100000 in
set_option maxHeartbeats 0 in
theorem PySem.Challenge.cw_figurebook_k08_rounds_walked_holds : PySem.Challenge.rw_figurebook_k08_rounds_walked.Holds := by
 w_on;o_law
 refine holds_open (q:=My.hq) (loose:=My.hloose) (Xt:=My.hXt) (XP:=XL My.hq []) (Yf:=Hook.obs My.hH) (Ya:=Hook.val My.hH) (YP:=Hook.says My.hH) (N:=40000) My.h_left (Hook.of My.hH) (Hook.keeps My.hH) (fun s e=>xl_of s (ID.mp e).1) XL.keeps (by rfl) (by rfl) (by rfl) (fun s e=>recFacts_of (ID.mp e).2) (by rfl) (by first | assumption | decide +kernel) (by decide +kernel) ⟨rfl,rfl,rfl,rfl,rfl,by decide +kernel⟩ ?hw ?hc
 case hw=>w_witness2
 k_fill
 refine My.walk (l:=PySem.Challenge.rw_figurebook_k08_rounds_walked) rfl rfl (fun w h Y=>PySem.W.km_in_of Y) ?F
 case F =>
  intro w mg fa h KX G wZ
  have T:∀ P base,My.TX P w (My.hK w.params) mg base:=fun _ _=>⟨rfl,h,KX,G⟩
  cases wZ.symm.trans (My.TX.ua (T default default)).m
  exact ⟨_,fun s v=>.of_eq rfl,fun base _ _=>My.zy (T _ base)⟩

