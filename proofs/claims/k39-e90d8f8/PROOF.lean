import PyProof.Rows.All
import Wide.All
import OpenK.AllK
import Wide.FinOn
import Lean
import PyProof.EqAt
import PyProof.EqKinds
import PyProof.TupleCall
import KE.KSortTup
import PyProof.TupleKey
import PyProof.DictRoadsH
import KE.KLam
import KE.KNestM
import KE.KDflt
import KE.KMinKey
import PyProof.Rows.FactsExc_ValueError
import PyProof.StationsW
import PyProof.RulesAs
import PyProof.InstStoreFacts
import PyProof.ExcArgsOwn
import KE.KIsAll
import PyProof.NsDelKeeps
import PySem.Challenge.RW_figurebook_k39_steps_walked
set_option Elab.async false
set_option compiler.extract_closed false
set_option bootstrap.genMatcherCode false
set_option linter.all false
set_option maxRecDepth 100000
namespace L2
open PySem PySem.Spec PyProof.Rows
noncomputable abbrev Key:=Sum Int Str
noncomputable def keyIs:Key->Value->Bool
  | .inl k,v=>Value.isInt k v
  | .inr x,v=>Value.isStrOf x v
noncomputable def keyH (w:World):Key->Int
  | .inl k=>hashInt k
  | .inr x=>hashStr w x
theorem keyIs_shape:∀ {k:Key} {v:Value},keyIs k v=true->(∃ i t,k=Sum.inl i/\v=Value.int i t)\/(∃ x t,k=Sum.inr x/\v=Value.str x t)
  | .inl i,v,h=>by
    obtain ⟨t,e⟩:=Value.isInt_shape (k:=i) (v:=v) h
    exact .inl ⟨i,t,rfl,e⟩
  | .inr x,v,h=>by
    obtain ⟨t,e⟩:=Value.isStrOf_shape (x:=x) (v:=v) h
    exact .inr ⟨x,t,rfl,e⟩
theorem key_ll (a b:Int):decide ((Sum.inl a:Key)=Sum.inl b)=(a == b):=by
  by_cases e:a=b
  . subst e;simp
  . have h:¬ (Sum.inl a:Key)=Sum.inl b:=fun q=>e (Sum.inl.inj q)
    rw [decide_eq_false h]
    exact (beq_eq_false_iff_ne.mpr e).symm
theorem key_rr (a b:Str):decide ((Sum.inr a:Key)=Sum.inr b)=decide (a=b):=by
  by_cases e:a=b
  . subst e;simp
  . have h:¬ (Sum.inr a:Key)=Sum.inr b:=fun q=>e (Sum.inr.inj q)
    rw [decide_eq_false h,decide_eq_false e]
theorem key_lr (a:Int) (b:Str):decide ((Sum.inl a:Key)=Sum.inr b)=false:=decide_eq_false (fun q=>nomatch q)
theorem key_rl (a:Str) (b:Int):decide ((Sum.inr a:Key)=Sum.inl b)=false:=decide_eq_false (fun q=>nomatch q)
noncomputable def mixKind (prog:Program) (w:World):PySem.KeyKind prog w Key where
  is:=keyIs
  hash:=keyH w
  inj := fun v a b ha hb=>by
    rcases keyIs_shape ha with ⟨i,t,rfl,rfl⟩ | ⟨x,t,rfl,rfl⟩
    . rcases keyIs_shape hb with ⟨j,u,rfl,e⟩ | ⟨y,u,rfl,e⟩
      . injection e with e1 _;rw [e1]
      . exact nomatch e
    . rcases keyIs_shape hb with ⟨j,u,rfl,e⟩ | ⟨y,u,rfl,e⟩
      . exact nomatch e
      . injection e with e1 _;rw [e1]
  byValue:=fun k v h=>by
    rcases keyIs_shape h with ⟨i,t,rfl,rfl⟩ | ⟨x,t,rfl,rfl⟩ <;> rfl
  pyHash:=fun hv h=>by
    rcases keyIs_shape hv with ⟨i,t,rfl,rfl⟩ | ⟨x,t,rfl,rfl⟩
    . exact wpAny_pyHash_int h
    . exact wpAny_pyHash_str h
  eqBool:=fun hu hv h=>by
    rcases keyIs_shape hu with ⟨i,t,rfl,rfl⟩ | ⟨x,t,rfl,rfl⟩
    . rcases keyIs_shape hv with ⟨j,u,rfl,rfl⟩ | ⟨y,u,rfl,rfl⟩
      . rw [key_ll] at h;exact wpAny_eqBool_int h
      . rw [key_lr] at h;exact SeqAt.EqAt.int_str i t y u _ _ _ _ h
    . rcases keyIs_shape hv with ⟨j,u,rfl,rfl⟩ | ⟨y,u,rfl,rfl⟩
      . rw [key_rl] at h;exact SeqAt.EqAt.str_int x t j u _ _ _ _ h
      . rw [key_rr] at h;exact wpAny_eqBool_str h
  «strs»:=fun k x t v h=>by
    rcases keyIs_shape h with ⟨i,u,rfl,e⟩ | ⟨y,u,rfl,e⟩
    . exact nomatch e
    . injection e with e1 _
      subst e1
      cases v <;> rfl
end L2
namespace L2
open PySem PySem.Spec PyProof.Rows
inductive V where
  | non | bl (b:Bool) | int (i:Int) | str (x:Str) | byt (b:Array UInt8) | flt (b:UInt64) | ref (a:Addr) | ty (n:String)
  deriving DecidableEq
noncomputable def RelV:V->Value->Prop
  | .non,u=>u=Value.none
  | .bl b,u=>u=Value.bool b
  | .int i,u=>∃ t,u=Value.int i t
  | .str x,u=>∃ t,u=Value.str x t
  | .byt b,u=>∃ t,u=Value.bytes b t
  | .flt b,u=>∃ t,u=Value.float b t
  | .ref a,u=>u=Value.ref a
  | .ty n,u=>u=Value.type n
noncomputable abbrev Vals:List V->List Value->Prop:=Paired RelV
theorem Vals.length {xs:List V} {us:List Value} (r:Vals xs us):xs.length=us.length:=Paired.length r
theorem Vals.get:∀ {xs:List V} {us:List Value} {i:Nat} {x:V},Vals xs us->xs[i]? = some x->∃ u,us[i]? = some u/\RelV x u
  | _,_,_,_,.nil,e=>by simp at e
  | _,_,0,_,.cons r _,e=>by simp at e;subst e;exact ⟨_,rfl,r⟩
  | _, _,i + 1,x,.cons _ t,e=>by
    obtain ⟨u,h1,h2⟩:=Vals.get (i:=i) (x:=x) t (by simpa using e)
    exact ⟨u,by simpa using h1,h2⟩
theorem Vals.set {x:V} {u:Value} (r:RelV x u):∀ {xs:List V} {us:List Value} (i:Nat),Vals xs us->Vals (xs.set i x) (us.set i u)
  | _,_,_,.nil=>.nil
  | _,_,0,.cons _ t=>.cons r t
  | _,_,i + 1,.cons q t=>.cons q (Vals.set r i t)
theorem Vals.append:∀ {xs ys:List V} {us ws:List Value},Vals xs us->Vals ys ws->Vals (xs++ys) (us++ws)
  | _,_,_,_,.nil,s=>s
  | _,_,_,_,.cons r t,s=>.cons r (Vals.append t s)
theorem Vals.take:∀ {xs:List V} {us:List Value} (n:Nat),Vals xs us->Vals (xs.take n) (us.take n)
  | _,_,0,_=>.nil
  | _,_,_ + 1,.nil=>.nil
  | _,_,n + 1,.cons r t=>.cons r (Vals.take n t)
theorem Vals.drop:∀ {xs:List V} {us:List Value} (n:Nat),Vals xs us->Vals (xs.drop n) (us.drop n)
  | _,_,0,r=>r
  | _,_,_ + 1,.nil=>.nil
  | _,_,n + 1,.cons _ t=>Vals.drop n t
theorem Vals.none_of:∀ {xs:List V} {us:List Value} {i:Nat},Vals xs us->xs[i]? = none->us[i]? = none:=fun {xs us i} r e=>by
  have h1:=r.length
  have h2:xs.length<=i:=List.getElem?_eq_none_iff.mp e
  exact List.getElem?_eq_none_iff.mpr (by lia)
noncomputable def RelO:Option V->Option Value->Prop
  | some v,some u=>RelV v u
  | none,none=>True
  | _,_=>False
noncomputable def KV {κ:Type}:List (κ × V)->List (κ × Value)->Prop:=Paired fun (p:κ × V) (q:κ × Value)=>p.1=q.1/\RelV p.2 q.2
noncomputable def kV:Key->V
  | .inl i=>.int i
  | .inr x=>.str x
inductive HO where
  /-- a list -/
  | lst (xs:List V)
  /-- a tuple (never changes) -/
  | tup (xs:List V)
  /-- a dict whose keys are ints and texts;one whose keys are tuples of ints and texts (the empty one is both) -/
  | dK (kvs:List (Key × V)) | dT (kvs:List (List Key × V))
  /-- a set of ints: its members,its size -/
  | set (S:Int->Bool) (n:Nat)
  /-- an instance of the class at C,its dict at dx,its attributes -/
  | ins (C dx:Addr) (fs:List (Str × V))
  /-- the dict of the instance at x -/
  | own (x:Addr)
  /-- the dict of an exception -/
  | xd (fs:List (Str × V))
  /-- a bound method,f of x -/
  | met (f x:Addr)
  /-- a range object lo,lo + 1,.. below hi -/
  | rng (lo hi:Int)
  /-- a thing that is known to the object (the script;a dict while a loop walks it): read,never written while it is so -/
  | frz (o:Obj) (u:HO)
  /-- a code object's table -/
  | tbl (ps:Array Value)
  /-- any other thing,by what is true of its one object (a def of one's own: SetO a S n:=HO.ext fun h=>..) -/
  | ext (φ:Heap->Prop)
noncomputable abbrev Hp:=Addr->Option HO
noncomputable def upd (H:Hp) (a:Addr) (o:HO):Hp:=fun b=>if b=a then some o else H b
theorem upd_same {H:Hp} {a:Addr} {o:HO}:upd H a o a=some o:=by unfold upd;rw [if_pos rfl]
theorem upd_ne {H:Hp} {a b:Addr} {o:HO} (h:b≠a):upd H a o b=H b:=by unfold upd;rw [if_neg h]
theorem ne_of {H:Hp} {a b:Addr} {o u:HO} (h:H a=some o) (h':H b=some u) (d:o≠u):a≠b:=by
  intro e;subst e;rw [h] at h';exact d (Option.some.inj h')
theorem ne_of_none {H:Hp} {a b:Addr} {o:HO} (h:H a=some o) (h':H b=none):a≠b:=by
  intro e;subst e;rw [h] at h';cases h'
section
variable (P:Program) (w:World)
noncomputable def ObjOk (H:Hp) (h:Heap) (a:Addr):HO->Prop
  | .lst xs=>xs.length<=sizeLine/\∃ (its:List Value) (n:Nat),Vals xs its/\h.get? a=some { cls:=.type "list",data:=.seq its.toArray n }
  | .tup xs=>xs.length<=sizeLine/\∃ its:List Value,Vals xs its/\IsTup h a its.toArray
  | .dK kvs=>kvs.length<=sizeLine/\(a == sysModules)=false/\∃ vs,KV kvs vs/\h.DictOf (mixKind P w) a vs
  | .dT kvs=>kvs.length<=sizeLine/\(a == sysModules)=false/\∃ xs:List (List Key × Addr × Value),
      Paired (fun (p:List Key × V) (q:List Key × Addr × Value)=>p.1=q.1/\H q.2.1=some (.tup (p.1.map kV))/\RelV p.2 q.2.2) kvs xs /\
      ∃ o es ep,h.get? a=some o/\o.ExactDict/\o.data=.dict es ep/\es.toList=xs.map (entryOfKey (tupleKind (mixKind P w)))/\(xs.map (·.1)).Nodup
  | .set S n=>h.SetOf (intKind P w) a S n
  | .ins C dx fs=>H dx=some (.own a)/\fs.length<=1000/\dx≠a/\h.get? a=some (PySem.W.instObj C dx) /\
      ∃ mA,h.Ns1 dx mA/\(∀ f,RelO (fs.lookup f) (mA f))/\PySem.Within mA (fs.map (·.1))
  | .own _=>∃ o,h.get? a=some o
  | .xd fs=>∃ mA,h.Ns1 a mA/\∀ f,RelO (fs.lookup f) (mA f)
  | .rng lo hi=>∃ t u v,h.get? a=some { cls:=.type "range",data:=.fields #[.int lo t,.int hi u,.int 1 v] }
  | .frz o u=>h.get? a=some o/\ObjOk H h a u
  | .tbl ps=>h.get? a=some { cls:=.none,data:=.fields ps }
  | .met f x=>h.get? a=some (PySem.W.methodObj (.ref f) (.ref x))
  | .ext φ=>φ h/\(∃ o,h.get? a=some o)/\∀ h1 h2:Heap,φ h1->(∀ o,h1.get? a=some o->h2.get? a=some o)->φ h2
noncomputable def HOk (H:Hp) (h:Heap):Prop:=∀ a o,H a=some o->ObjOk P w H h a o
end
section
variable {P:Program} {w:World} {H H':Hp} {h h':Heap} {a:Addr} {o:HO}
theorem ObjOk.lt (x:ObjOk P w H h a o):a < h.objs.size:=by
  cases o with
  | lst xs=>obtain ⟨_,_,_,_,e⟩:=x;exact Heap.lt_size e
  | tup xs=>obtain ⟨_,_,_,p⟩:=x;exact p.lt
  | dK kvs=>obtain ⟨_,_,_,_,o,_,_,e,_⟩:=x;exact Heap.lt_size e
  | dT kvs=>obtain ⟨_,_,_,_,o,_,_,e,_⟩:=x;exact Heap.lt_size e
  | set S n=>obtain ⟨o,_,_,_,e,_⟩:=x;exact Heap.lt_size e
  | ins C dx fs=>obtain ⟨_,_,_,e,_⟩:=x;exact Heap.lt_size e
  | own y=>obtain ⟨_,e⟩:=x;exact Heap.lt_size e
  | xd fs=>obtain ⟨_,⟨_,_,_,e,_⟩,_⟩:=x;exact Heap.lt_size e
  | rng lo hi=>obtain ⟨_,_,_,e⟩:=x;exact Heap.lt_size e
  | frz ob u=>obtain ⟨e,_⟩:=x;exact Heap.lt_size e
  | tbl ps=>exact Heap.lt_size (show h.get? a=some _ from x)
  | met f y=>exact Heap.lt_size (show h.get? a=some _ from x)
  | ext φ=>obtain ⟨_,⟨_,e⟩,_⟩:=x;exact Heap.lt_size e
theorem Paired.mapP {α β:Type} {F G:α->β->Prop}:∀ {l₁:List α} {l₂:List β},Paired F l₁ l₂->(∀ a b,F a b->G a b)->Paired G l₁ l₂
  | _,_,.nil,_=>.nil
  | _,_,.cons r t,f=>.cons (f _ _ r) (Paired.mapP t f)
theorem ObjOk.stay (x:ObjOk P w H h a o) (k:∀ b u,(b=a\/H b=some (.own a))->h.get? b=some u->h'.get? b=some u)
    (ho:∀ b,H b=some (.own a)->H' b=some (.own a)) (ht:∀ b xs,H b=some (.tup xs)->H' b=some (.tup xs)):ObjOk P w H' h' a o:=by
  induction o with
  | lst xs=>obtain ⟨z,its,n,r,e⟩:=x;exact ⟨z,its,n,r,k _ _ (.inl rfl) e⟩
  | tup xs=>obtain ⟨z,its,r,ob,e,c⟩:=x;exact ⟨z,its,r,ob,k _ _ (.inl rfl) e,c⟩
  | dK kvs=>obtain ⟨z,y,vs,r,ob,es,ep,e,c⟩:=x;exact ⟨z,y,vs,r,ob,es,ep,k _ _ (.inl rfl) e,c⟩
  | dT kvs =>
    obtain ⟨z,y,xs,r,ob,es,ep,e,c⟩:=x
    exact ⟨z,y,xs,Paired.mapP r fun p q z=>⟨z.1,ht _ _ z.2.1,z.2.2⟩,ob,es,ep,k _ _ (.inl rfl) e,c⟩
  | set S n=>obtain ⟨ob,es,ep,t,e,c⟩:=x;exact ⟨ob,es,ep,t,k _ _ (.inl rfl) e,c⟩
  | ins C dx fs =>
    obtain ⟨d,z,ne,e,mA,⟨od,es,ep,e2,c⟩,r⟩:=x
    exact ⟨ho _ d,z,ne,k _ _ (.inl rfl) e,mA,⟨od,es,ep,k _ _ (.inr d) e2,c⟩,r⟩
  | own y=>obtain ⟨ob,e⟩:=x;exact ⟨ob,k _ _ (.inl rfl) e⟩
  | xd fs=>obtain ⟨mA,⟨od,es,ep,e,c⟩,r⟩:=x;exact ⟨mA,⟨od,es,ep,k _ _ (.inl rfl) e,c⟩,r⟩
  | rng lo hi=>obtain ⟨t,u,v,e⟩:=x;exact ⟨t,u,v,k _ _ (.inl rfl) e⟩
  | frz ob u ih=>obtain ⟨e,q⟩:=x;exact ⟨k _ _ (.inl rfl) e,ih q⟩
  | tbl ps =>
    have e:h.get? a=some { cls:=.none,data:=.fields ps }:=x
    show h'.get? a=some { cls:=.none,data:=.fields ps }
    exact k a _ (.inl rfl) e
  | met f y =>
    have e:h.get? a=some (PySem.W.methodObj (.ref f) (.ref y)):=x
    show h'.get? a=some (PySem.W.methodObj (.ref f) (.ref y))
    exact k a _ (.inl rfl) e
  | ext φ=>obtain ⟨p,⟨o,e⟩,st⟩:=x;exact ⟨st _ _ p fun o q=>k _ _ (.inl rfl) q,⟨o,k _ _ (.inl rfl) e⟩,st⟩
theorem HOk.lt (x:HOk P w H h) (e:H a=some o):a < h.objs.size:=(x a o e).lt
theorem HOk.fresh (x:HOk P w H h) (e:h.objs.size<=a):H a=none:=by
  cases q:H a with
  | none=>rfl
  | some u=>exact absurd (Nat.lt_of_lt_of_le (x.lt q) e) (Nat.lt_irrefl _)
theorem HOk.kept (x:HOk P w H h) (k:∀ b u,h.get? b=some u->h'.get? b=some u):HOk P w H h':=fun a o e =>
  (x a o e).stay (fun b u _ q=>k b u q) (fun _ q=>q) fun _ _ q=>q
theorem HOk.laid (x:HOk P w H h) (k:∀ b u,h.get? b=some u->h'.get? b=some u) (hp:h.objs.size<=a) (new:ObjOk P w (upd H a o) h' a o):HOk P w (upd H a o) h':=fun b u e=>by
  have hn:=x.fresh hp
  by_cases hb:b=a
  . subst hb;rw [upd_same] at e;cases e;exact new
  . rw [upd_ne hb] at e
    exact (x b u e).stay (fun c v _ q=>k c v q) (fun c q=>by rw [upd_ne (ne_of_none q hn)];exact q) fun c xs q=>by rw [upd_ne (ne_of_none q hn)];exact q
end
noncomputable def Rd (H:Hp) (a:Addr) (u:HO):Prop:=H a=some u\/∃ o,H a=some (.frz o u)
theorem Rd.ok {P:Program} {w:World} {H:Hp} {h:Heap} {a:Addr} {u:HO} (r:Rd H a u) (x:HOk P w H h):ObjOk P w H h a u:=by
  rcases r with r | ⟨o,r⟩
  . exact x a u r
  . obtain ⟨_,q⟩:=x a _ r
    exact q
noncomputable def Mut:Option HO->Prop
  | some (.lst _)=>True
  | some (.dK _)=>True
  | some (.dT _)=>True
  | some (.set _ _)=>True
  | some (.ins _ _ _)=>True
  | some (.ext _)=>True
  | _=>False
section
variable {P:Program} {w:World} {H:Hp} {h h':Heap} {x e:Addr} {o':HO}
theorem HOk.write (ok:HOk P w H h) (mu:Mut (H x)) (he:e=x\/H e=some (.own x)) (k:∀ b u,b≠e->h.get? b=some u->h'.get? b=some u) (heo:∃ u,h'.get? e=some u)
    (new:ObjOk P w (upd H x o') h' x o'):HOk P w (upd H x o') h':=fun b u q=>by
  have nown:∀ c y,H c=some (.own y)->c≠x:=fun c y r z=>by subst z;rw [r] at mu;exact mu
  have ntup:∀ c xs,H c=some (.tup xs)->c≠x:=fun c xs r z=>by subst z;rw [r] at mu;exact mu
  by_cases hb:b=x
  . subst hb;rw [upd_same] at q;cases q;exact new
  . rw [upd_ne hb] at q
    by_cases hbe:b=e
    . have q':H b=some (.own x):=by
        rcases he with z | z
        . exact absurd (hbe.trans z) hb
        . rw [hbe];exact z
      rw [q] at q';cases q'
      obtain ⟨v,hv⟩:=heo
      exact ⟨v,by rw [hbe];exact hv⟩
    . refine (ok b u q).stay (fun c v hc r=>k c v ?_ r) (fun c r=>by rw [upd_ne (nown c b r)];exact r) fun c xs r=>by rw [upd_ne (ntup c xs r)];exact r
      rcases hc with rfl | hc
      . exact hbe
      . rintro rfl
        rcases he with z | z
        . exact nown c b hc z
        . rw [hc] at z;cases z;exact hb rfl
end
structure Un (fs ex:List Addr) (H H':Hp) (h h':Heap):Prop where
  keep:∀ b o,h.get? b=some o->H b=none->b ∉ fs->b ∉ ex->h'.get? b=some o
  slot:∀ b o,h.get? b=some o->H b=none->b∈fs->b ∉ ex->∃ sl,h'.get? b=some { o with slots:=sl }
  free:∀ b o,h.get? b=some o->H b=none->b ∉ ex->H' b=none
  there:∀ b o,h.get? b=some o->b ∉ ex->∃ o',h'.get? b=some o'
  tups:∀ b xs,H b=some (.tup xs)->H' b=some (.tup xs)
  frzs:∀ b o u,H b=some (.frz o u)->H' b=some (.frz o u)
  tbls:∀ b ps,H b=some (.tbl ps)->∃ more,H' b=some (.tbl (ps++more))
section
variable {fs fs' ex ex':List Addr} {H H1 H2:Hp} {h h1 h2 h':Heap} {a x e:Addr} {o:HO}
theorem Un.any (u:Un fs ex H H1 h h1) {b:Addr} {ob:Obj} (q:h.get? b=some ob) (n:H b=none) (hx:b ∉ ex):∃ sl,h1.get? b=some { ob with slots:=sl }:=by
  by_cases hb:b∈fs
  . exact u.slot b ob q n hb hx
  . exact ⟨ob.slots,u.keep b ob q n hb hx⟩
theorem Un.kept (k:∀ b u,h.get? b=some u->h'.get? b=some u):Un fs ex H H h h' :=
  ⟨fun b ob q _ _ _=>k b ob q,fun b ob q _ _ _=>⟨ob.slots,k b ob q⟩,fun _ _ _ n _=>n,fun b ob q _=>⟨ob,k b ob q⟩,fun _ _ q=>q,fun _ _ _ q=>q,fun _ ps q=>⟨#[],by rw [q];simp⟩⟩
theorem Un.refl:Un fs ex H H h h:=Un.kept fun _ _ q=>q
theorem Un.laid (k:∀ b u,h.get? b=some u->h'.get? b=some u) (hp:h.objs.size<=a) (hn:H a=none):Un fs ex H (upd H a o) h h' where
  keep:=fun b u q _ _ _=>k b u q
  slot:=fun b u q _ _ _=>⟨u.slots,k b u q⟩
  free:=fun b u q n _=>by rw [upd_ne (Nat.ne_of_lt (Nat.lt_of_lt_of_le (Heap.lt_size q) hp))];exact n
  there:=fun b u q _=>⟨u,k b u q⟩
  tups:=fun b xs q=>by rw [upd_ne (ne_of_none q hn)];exact q
  frzs:=fun b u xs q=>by rw [upd_ne (ne_of_none q hn)];exact q
  tbls:=fun b ps q=>⟨#[],by rw [upd_ne (ne_of_none q hn),q];simp⟩
theorem Un.write (mu:Mut (H x)) (he:e=x\/H e=some (.own x)) (k:∀ b u,b≠e->h.get? b=some u->h'.get? b=some u) (heo:∃ u,h'.get? e=some u):Un fs ex H (upd H x o) h h':=by
  have hx:∀ b,H b=none->b≠x:=fun b n z=>by subst z;rw [n] at mu;exact mu
  have hb:∀ b,H b=none->b≠e:=fun b n z=>by
    subst z
    rcases he with r | r
    . exact hx b n r
    . rw [n] at r;cases r
  have hm:∀ b u,H b=some u->¬ Mut (some u)->b≠x:=fun b u q nm z=>by subst z;rw [q] at mu;exact nm mu
  refine ⟨fun b u q n _ _=>k b u (hb b n) q,fun b u q n _ _=>⟨u.slots,k b u (hb b n) q⟩,fun b u q n _=>by rw [upd_ne (hx b n)];exact n,fun b u q _=>?_,
    fun b xs q=>by rw [upd_ne (hm b _ q fun z=>z)];exact q,fun b u xs q=>by rw [upd_ne (hm b _ q fun z=>z)];exact q,fun b ps q=>⟨#[],by rw [upd_ne (hm b _ q fun z=>z),q];simp⟩⟩
  by_cases hbe:b=e
  . subst hbe;exact heo
  . exact ⟨u,k b u hbe q⟩
end
noncomputable def trk (h:Heap) (H:Hp):List Addr:=(List.range h.objs.size).filter fun a=>(H a).isSome
noncomputable def hidT (h:Heap) (H:Hp):Heap:=PySem.W.hideAll h (trk h H)
theorem hidT_size (h:Heap) (H:Hp):(hidT h H).objs.size=h.objs.size:=PySem.W.hideAll_size _ _
theorem hidT_get {h:Heap} {H:Hp} {b:Addr} {o:Obj} (e:h.get? b=some o) (n:H b=none):(hidT h H).get? b=some o :=
  PySem.W.hideAll_get _ e fun hm=>by
    have q:(H b).isSome=true:=(List.mem_filter.mp hm).2
    rw [n] at q;simp at q
theorem of_hidT {h:Heap} {H:Hp} {b:Addr} {o:Obj} (e:(hidT h H).get? b=some o):h.get? b=some o/\H b=none:=by
  have e':h.get? b=some o:=PySem.W.of_hideAll (trk h H) e
  refine ⟨e',?_⟩
  cases q:H b with
  | none=>rfl
  | some x =>
    have hm:b∈trk h H:=List.mem_filter.mpr ⟨List.mem_range.mpr (Heap.lt_size e'),by simp [q]⟩
    have z:(hidT h H).get? b=none:=PySem.W.hideAll_none (trk h H) hm
    rw [z] at e;cases e
noncomputable def allNews (g h:Heap) (L:Addr):List (Addr × Obj):=(List.range h.objs.size).filterMap fun a=>if a=L\/(g.get? a).isSome=true then none else (h.get? a).map fun o=>(a,o)
noncomputable def rest (g h:Heap) (L d:Addr):List (Addr × Obj):=(allNews g h L).filter fun p=>decide (p.1≠d)
end L2
namespace L2
open PySem PySem.Spec PyProof.Rows
structure Mod (K:PySem.W.Frag) (mg:Str->Option Value) (base:Heap):Prop where
  kin:K.In base
  glob:base.Ns mainGlobals mg
  blt:∃ mb,base.Ns builtinsNs mb/\∀ x:Str,x≠"__name__"->mb x=bootBuiltins x
  nolimit:base.NoLimit
structure Cx where
  prog:Program
  w : World
  K : PySem.W.Frag
  mg:Str->Option Value
  base:Heap
  A : Around
  N : List Str
  s₀:Shared
  H₀:Hp
  env:Env
  outer:List Env
  stack:List Env
  ex:List Addr
  fn:Str->Bool
  calm:Bool
  pn:List (Addr × Obj)
  xe:Value->Shared->Prop
noncomputable def frs (l:List Env):List Addr:=l.filterMap (·.frame)
noncomputable abbrev Cx.fs (X:Cx):List Addr:=frs X.outer
noncomputable def Vis (sc:Scope) (x:Str):Prop:=sc.names.lookup x=some .local\/sc.names.lookup x=some .cell\/sc.names.lookup x=some .free
noncomputable def Loc (sc:Scope) (x:Str):Prop:=sc.names.lookup x=some .local\/sc.names.lookup x=some .cell
noncomputable def Look (env:Env) (h:Heap) (m:Str->Option Value) (x:Str) (u:Value):Prop :=
  (env.kindOf x=some .local/\m x=some u)\/((env.kindOf x=some .cell\/env.kindOf x=some .free)/\∃ c,env.cells.lookup x=some c/\h.IsCell c (some u))
structure Cx.Ok (X:Cx):Prop where
  mod:Mod X.K X.mg X.base
  kind:X.env.scope.kind=.function
  glob:X.env.globals=mainGlobals
  blt:X.env.builtins=builtinsNs
  above:X.s₀.heap.objs.size<=X.env.locals
  inj:∀ x y c,X.env.cells.lookup x=some c->X.env.cells.lookup y=some c->x=y
  has:∀ x,(X.env.kindOf x=some .cell\/X.env.kindOf x=some .free)->∃ c,X.env.cells.lookup x=some c
  cab:∀ x c,X.fn x=true->X.env.cells.lookup x=some c->X.s₀.heap.objs.size<=c
  hd:X.calm=true->X.A.handled=none
  frames:X.A.frames=some X.stack
  stk:X.stack=X.outer\/(X.stack=X.env::X.outer/\X.env.frame=some X.env.locals)
  exf:∀ b∈X.ex,b≠X.env.locals/\∀ x c,X.env.cells.lookup x=some c->c≠b
  bs:∀ b o,X.base.get? b=some o->X.s₀.heap.get? b=some o/\X.H₀ b=none
  bsz:X.base.objs.size<=X.s₀.heap.objs.size
  noex:∀ b o,X.base.get? b=some o->b ∉ X.ex
  exfs:∀ b∈X.ex,b ∉ X.fs
  funs:X.s₀.heap.FunFrames X.base X.outer
  frf:∀ b∈X.fs,X.H₀ b=none
structure Inv (X:Cx) (pins:List (Addr × Obj)) (σ:List (Option V)) (H:Hp) (s:Shared):Prop where
  ok:X.Ok
  os:s.os=X.s₀.os
  bare:AllBare s.gens
  base:Un X.fs X.ex X.H₀ H X.s₀.heap s.heap
  loc:∃ m,s.heap.Ns X.env.locals m/\∀ (i:Nat) (x:Str) (v:V),X.N[i]? = some x->σ[i]? = some (some v)->Vis X.env.scope x->∃ u,RelV v u/\Look X.env s.heap m x u
  cell:∀ x c,X.env.cells.lookup x=some c->∃ v,s.heap.IsCell c v
  free:H X.env.locals=none
  freeC:∀ x c,X.env.cells.lookup x=some c->H c=none
  pin:∀ p∈X.pn++pins,s.heap.get? p.1=some p.2/\H p.1=none/\p.1≠X.env.locals/\p.1 ∉ X.fs/\∀ v,p.2.data≠.cell v
  hok:HOk X.prog X.w H s.heap
  len:σ.length=X.N.length
section
variable {X:Cx} {pins:List (Addr × Obj)} {σ:List (Option V)} {H H':Hp} {s:Shared} {h':Heap}
theorem Cx.Ok.nofr (ok:X.Ok) {b:Addr} {o:Obj} (e:X.base.get? b=some o):b ∉ X.fs:=fun hb=>by
  have:=(ok.funs.mem hb).1
  rw [e] at this;cases this
theorem Inv.bs (I:Inv X pins σ H s):∀ b o,X.base.get? b=some o->s.heap.get? b=some o/\H b=none:=fun b o e =>
  ⟨I.base.keep b o (I.ok.bs b o e).1 (I.ok.bs b o e).2 (I.ok.nofr e) (I.ok.noex b o e),I.base.free b o (I.ok.bs b o e).1 (I.ok.bs b o e).2 (I.ok.noex b o e)⟩
theorem Inv.bk (I:Inv X pins σ H s):∀ b o,X.base.get? b=some o->s.heap.get? b=some o:=fun b o e=>(I.bs b o e).1
theorem Inv.mod (I:Inv X pins σ H s):Mod X.K X.mg X.base:=I.ok.mod
theorem Inv.kIn (I:Inv X pins σ H s):X.K.In s.heap:=I.ok.mod.kin.keeps I.bk
theorem Inv.lt (I:Inv X pins σ H s):X.env.locals < s.heap.objs.size:=let ⟨_,hn,_⟩:=I.loc;hn.lt
theorem Inv.sz (I:Inv X pins σ H s):X.s₀.heap.objs.size<=s.heap.objs.size:=Nat.le_trans I.ok.above (Nat.le_of_lt I.lt)
theorem Inv.nofs (I:Inv X pins σ H s) {a:Addr} (h:s.heap.objs.size<=a):a ∉ X.fs:=fun hb=>by
  obtain ⟨_,o,ho,_⟩:=I.ok.funs.mem hb
  exact absurd (Nat.lt_of_lt_of_le (Heap.lt_size ho) (Nat.le_trans I.sz h)) (Nat.lt_irrefl _)
theorem Inv.cne (I:Inv X pins σ H s):∀ x c,X.env.cells.lookup x=some c->c≠X.env.locals:=fun x c e z=>by
  obtain ⟨v,o,ho,hd⟩:=I.cell x c e
  obtain ⟨m,⟨o',es,ep,ho',hd',_⟩,_⟩:=I.loc
  rw [z,ho'] at ho;cases ho;rw [hd'] at hd;cases hd
theorem Inv.funs (I:Inv X pins σ H s):s.heap.FunFrames X.base X.outer:=by
  have all:∀ (l:List Env),(∀ b∈frs l,b∈X.fs)->X.s₀.heap.FunFrames X.base l->s.heap.FunFrames X.base l:=by
    intro l
    induction l with
    | nil=>intro _ _;trivial
    | cons env r ih =>
      intro hs hl
      obtain ⟨hk,⟨L,o,hf,hn,ho,hd⟩,hr⟩:=hl
      have hL:L∈X.fs:=hs L (by unfold frs;rw [List.filterMap_cons,hf];exact List.mem_cons_self)
      obtain ⟨sl,e⟩:=I.base.slot L o ho (I.ok.frf L hL) hL fun z=>I.ok.exfs L z hL
      exact ⟨hk,⟨L,_,hf,hn,e,hd⟩,ih (fun b hb=>hs b (by unfold frs;rw [List.filterMap_cons,hf];exact List.mem_cons_of_mem _ hb)) hr⟩
  exact all X.outer (fun _ hb=>hb) I.ok.funs
theorem Inv.stack (I:Inv X pins σ H s):s.heap.FunFrames X.base X.stack:=by
  rcases I.ok.stk with e | ⟨e,hf⟩
  . rw [e];exact I.funs
  . rw [e]
    obtain ⟨m,hn,_⟩:=I.loc
    refine .cons (by rw [I.ok.kind];decide) hf hn ?_ I.funs
    exact Heap.get?_none_of_le (Nat.le_trans I.ok.bsz I.ok.above)
theorem Inv.stkSub (I:Inv X pins σ H s):∀ b∈frs X.stack,b∈X.env.locals::X.fs:=fun b hb=>by
  rcases I.ok.stk with e | ⟨e,hf⟩
  . rw [e] at hb;exact List.mem_cons_of_mem _ hb
  . rw [e] at hb
    unfold frs at hb
    rw [List.filterMap_cons,hf] at hb
    exact hb
theorem Inv.stkFree (I:Inv X pins σ H s):∀ b∈frs X.stack,H b=none:=fun b hb=>by
  rcases List.mem_cons.mp (I.stkSub b hb) with e | hb
  . rw [e];exact I.free
  . obtain ⟨_,o,ho,_⟩:=I.ok.funs.mem hb
    exact I.base.free b o ho (I.ok.frf b hb) fun z=>I.ok.exfs b z hb
theorem Inv.step {g':Array GenState} {t':Nat} {d':Drawn} {ch:List Addr} (I:Inv X pins σ H s)
    (hch:∀ b∈ch,(b∈X.ex\/X.s₀.heap.objs.size<=b)/\b≠X.env.locals/\(∀ x c,X.env.cells.lookup x=some c->c≠b)/\∀ p∈X.pn++pins,p.1≠b)
    (keep:∀ b o,b≠X.env.locals->b ∉ X.fs->b ∉ ch->s.heap.get? b=some o->H b=none->h'.get? b=some o)
    (slot:∀ b o,b≠X.env.locals->b∈X.fs->b ∉ ch->s.heap.get? b=some o->H b=none->∃ sl,h'.get? b=some { o with slots:=sl }) (free:∀ b o,b ∉ ch->s.heap.get? b=some o->H b=none->H' b=none)
    (there:∀ b o,b ∉ ch->s.heap.get? b=some o->∃ o',h'.get? b=some o')
    (tups:∀ b xs,H b=some (.tup xs)->H' b=some (.tup xs)) (frzs:∀ b o u,H b=some (.frz o u)->H' b=some (.frz o u)) (tbls:∀ b ps,H b=some (.tbl ps)->∃ more,H' b=some (.tbl (ps++more)))
    (ns:∀ m,s.heap.Ns X.env.locals m->h'.Ns X.env.locals m) (hok:HOk X.prog X.w H' h') (hg:AllBare g') :
    Inv X pins σ H' { s with heap:=h',gens:=g',drawn:=d',toks:=t' }:=by
  have neL:∀ b o,X.s₀.heap.get? b=some o->b≠X.env.locals:=fun b o e=>Nat.ne_of_lt (Nat.lt_of_lt_of_le (Heap.lt_size e) I.ok.above)
  have neC:∀ b o,X.s₀.heap.get? b=some o->b ∉ X.ex->b ∉ ch:=fun b o e hx hb=>by
    rcases (hch b hb).1 with z | z
    . exact hx z
    . exact absurd (Nat.lt_of_lt_of_le (Heap.lt_size e) z) (Nat.lt_irrefl _)
  have cellK:∀ x c,X.env.cells.lookup x=some c->∀ v,s.heap.IsCell c v->h'.IsCell c v:=fun x c e v hq0=>by
    obtain ⟨o,ho,hd⟩:=hq0
    have nch:c ∉ ch:=fun z=>(hch c z).2.2.1 x c e rfl
    by_cases hc:c∈X.fs
    . obtain ⟨sl,q⟩:=slot c o (I.cne x c e) hc nch ho (I.freeC x c e)
      exact ⟨_,q,hd⟩
    . exact ⟨o,keep c o (I.cne x c e) hc nch ho (I.freeC x c e),hd⟩
  refine ⟨I.ok,I.os,hg,⟨fun b o e n hb hx=>?_,fun b o e n hb hx=>?_,fun b o e n hx=>?_,fun b o e hx=>?_,fun b xs e=>tups b xs (I.base.tups b xs e),fun b o xs e=>frzs b o xs (I.base.frzs b o xs e),fun b ps e=>?_⟩,?_,fun x c e=>?_,?_,fun x c e=>?_,fun p hp=>?_,hok,I.len⟩
  . exact keep b o (neL b o e) hb (neC b o e hx) (I.base.keep b o e n hb hx) (I.base.free b o e n hx)
  . obtain ⟨sl,e1⟩:=I.base.slot b o e n hb hx
    obtain ⟨sl',e2⟩:=slot b _ (neL b o e) hb (neC b o e hx) e1 (I.base.free b o e n hx)
    exact ⟨sl',e2⟩
  . obtain ⟨o',e1⟩:=I.base.there b o e hx
    exact free b o' (neC b o e hx) e1 (I.base.free b o e n hx)
  . obtain ⟨o',e1⟩:=I.base.there b o e hx
    exact there b o' (neC b o e hx) e1
  . obtain ⟨m1,e1⟩:=I.base.tbls b ps e
    obtain ⟨m2,e2⟩:=tbls b _ e1
    exact ⟨m1++m2,by rw [e2,Array.append_assoc]⟩
  . obtain ⟨m,hn,hl⟩:=I.loc
    refine ⟨m,ns m hn,fun i x v e1 e2 e3=>?_⟩
    obtain ⟨u,r,l⟩:=hl i x v e1 e2 e3
    refine ⟨u,r,?_⟩
    rcases l with l | ⟨k,c,e,z⟩
    . exact .inl l
    . exact .inr ⟨k,c,e,cellK x c e _ z⟩
  . obtain ⟨v,z⟩:=I.cell x c e
    exact ⟨v,cellK x c e v z⟩
  . obtain ⟨m,⟨o,_,_,ho,_⟩,_⟩:=I.loc
    exact free _ o (fun z=>(hch _ z).2.1 rfl) ho I.free
  . obtain ⟨v,o,ho,hd⟩:=I.cell x c e
    exact free c o (fun z=>(hch c z).2.2.1 x c e rfl) ho (I.freeC x c e)
  . obtain ⟨e,n,ne,nf,d⟩:=I.pin p hp
    have nch:p.1 ∉ ch:=fun z=>(hch p.1 z).2.2.2 p hp rfl
    exact ⟨keep p.1 p.2 ne nf nch e n,free p.1 p.2 nch e n,ne,nf,d⟩
theorem Inv.un {t':Nat} (I:Inv X pins σ H s) (u:Un X.fs [] H H' s.heap h') (hok:HOk X.prog X.w H' h'):Inv X pins σ H' { s with heap:=h',toks:=t' }:=by
  obtain ⟨m,⟨o,es,ep,ho,r⟩,_⟩:=id I.loc
  obtain ⟨sl,hL⟩:=u.any ho I.free (by simp)
  exact I.step (g':=s.gens) (d':=s.drawn) (ch:=[]) (fun _ z=>nomatch z) (fun b o _ hb _ e n=>u.keep b o e n hb (by simp)) (fun b o _ hb _ e n=>u.slot b o e n hb (by simp)) (fun b o _ e n=>u.free b o e n (by simp)) (fun b o _ e=>u.there b o e (by simp)) u.tups u.frzs u.tbls (fun m' hm=>by
    obtain ⟨o',es',ep',ho',r'⟩:=hm
    rw [ho] at ho';cases ho'
    exact ⟨_,es',ep',hL,r'⟩) hok I.bare
theorem Inv.call {g':Array GenState} {t':Nat} {d':Drawn} {ch:List Addr} (I:Inv X pins σ H s) (u:Un (frs X.stack) ch H H' s.heap h') (hok:HOk X.prog X.w H' h') (hg:AllBare g')
    (hch:∀ b∈ch,(b∈X.ex\/X.s₀.heap.objs.size<=b)/\b≠X.env.locals/\(∀ x c,X.env.cells.lookup x=some c->c≠b)/\∀ p∈X.pn++pins,p.1≠b) :
    Inv X pins σ H' { s with heap:=h',gens:=g',drawn:=d',toks:=t' }:=by
  obtain ⟨m,⟨o,es,ep,ho,r⟩,_⟩:=id I.loc
  obtain ⟨sl,hL⟩:=u.any ho I.free fun z=>(hch _ z).2.1 rfl
  exact I.step (ch:=ch) hch (fun b o hL hb hc e n=>u.keep b o e n (fun z=>(List.mem_cons.mp (I.stkSub b z)).elim hL hb) hc) (fun b o _ _ hc e n=>u.any e n hc) (fun b o hc e n=>u.free b o e n hc) (fun b o hc e=>u.there b o e hc) u.tups u.frzs u.tbls (fun m' hm=>by
    obtain ⟨o',es',ep',ho',r'⟩:=hm
    rw [ho] at ho';cases ho'
    exact ⟨_,es',ep',hL,r'⟩) hok hg
theorem Inv.turned {t':Nat} {it:Addr} (I:Inv X pins σ H s) (k:∀ b o,b≠it->s.heap.get? b=some o->h'.get? b=some o) (hn:H it=none) (hL:it≠X.env.locals)
    (h1:it∈X.ex\/X.s₀.heap.objs.size<=it) (h2:∀ x c,X.env.cells.lookup x=some c->c≠it) (h3:∀ p∈X.pn++pins,p.1≠it):Inv X pins σ H { s with heap:=h',toks:=t' }:=by
  have nit:∀ b u,H b=some u->b≠it:=fun b u e z=>by rw [z,hn] at e;cases e
  refine I.step (g':=s.gens) (d':=s.drawn) (ch:=[it]) (fun b hb=>?_) (fun b o _ _ hc e _=>k b o (fun z=>hc (by simp [z])) e) (fun b o _ _ hc e _=>⟨o.slots,k b o (fun z=>hc (by simp [z])) e⟩) (fun _ _ _ _ n=>n)
    (fun b o hc e=>⟨o,k b o (fun z=>hc (by simp [z])) e⟩) (fun _ _ e=>e) (fun _ _ _ e=>e) (fun b ps e=>⟨#[],by rw [e];simp⟩) (fun m hm=>?_) (fun b u e=>?_) I.bare
  . have e:b=it:=by simpa using hb
    subst e
    exact ⟨h1,hL,h2,h3⟩
  . obtain ⟨o,es,ep,ho,r⟩:=hm
    exact ⟨o,es,ep,k _ o (Ne.symm hL) ho,r⟩
  . refine (I.hok b u e).stay (fun c v hc q=>k c v ?_ q) (fun _ q=>q) fun _ _ q=>q
    rcases hc with z | z
    . rw [z];exact nit b u e
    . exact nit c _ z
theorem Inv.tok (I:Inv X pins σ H s) (t:Nat):Inv X pins σ H { s with toks:=t }:=I.un (h':=s.heap) (t':=t) Un.refl I.hok
theorem Inv.kept {t':Nat} (I:Inv X pins σ H s) (k:∀ b u,s.heap.get? b=some u->h'.get? b=some u):Inv X pins σ H { s with heap:=h',toks:=t' }:=I.un (Un.kept k) (I.hok.kept k)
theorem Inv.laid {a:Addr} {o:HO} {t':Nat} (I:Inv X pins σ H s) (k:∀ b u,s.heap.get? b=some u->h'.get? b=some u) (hp:s.heap.objs.size<=a) (new:ObjOk X.prog X.w (upd H a o) h' a o) :
    Inv X pins σ (upd H a o) { s with heap:=h',toks:=t' }:=I.un (Un.laid k hp (I.hok.fresh hp)) (I.hok.laid k hp new)
theorem Inv.write {x e:Addr} {o:HO} {t':Nat} (I:Inv X pins σ H s) (mu:Mut (H x)) (he:e=x\/H e=some (.own x)) (k:∀ b u,b≠e->s.heap.get? b=some u->h'.get? b=some u) (heo:∃ u,h'.get? e=some u)
    (new:ObjOk X.prog X.w (upd H x o) h' x o):Inv X pins σ (upd H x o) { s with heap:=h',toks:=t' }:=I.un (Un.write mu he k heo) (I.hok.write mu he k heo new)
theorem Inv.pins_of {pins':List (Addr × Obj)} (I:Inv X pins σ H s) (h:∀ p∈pins',s.heap.get? p.1=some p.2/\H p.1=none/\p.1≠X.env.locals/\p.1 ∉ X.fs/\∀ v,p.2.data≠.cell v):Inv X pins' σ H s :=
  ⟨I.ok,I.os,I.bare,I.base,I.loc,I.cell,I.free,I.freeC,fun p hp=>(List.mem_append.mp hp).elim (fun z=>I.pin p (List.mem_append_left _ z)) (h p),I.hok,I.len⟩
theorem nodup_ix {N:List Str} (hN:N.Nodup) {i j:Nat} {x:Str} (a:N[i]? = some x) (b:N[j]? = some x):i=j:=by
  obtain ⟨h1,e1⟩:=List.getElem?_eq_some_iff.mp a
  obtain ⟨h2,e2⟩:=List.getElem?_eq_some_iff.mp b
  exact (List.getElem_inj hN).mp (e1.trans e2.symm)
theorem store_ok2 {M:Model} {A:Around} {E:Value->Shared->Prop} {i:Nat} {x:Str} {v:V} {u:Value} {Q:Unit->Shared->Prop} (I:Inv X pins σ H s) (hN:X.N.Nodup) (hi:X.N[i]? = some x) (hx:Loc X.env.scope x) (r:RelV v u)
    (h:∀ s',Inv X pins (σ.set i (some v)) H s'->(∃ a,Heap.SameBut a s.heap s'.heap/\(a=X.env.locals\/X.env.cells.lookup x=some a))->Q () s') (hf:X.fn x=true\/X.env.scope.names.lookup x=some .local:=by first | exact .inl rfl | exact .inr rfl | assumption):wpAny M A (storeName X.env x u) Q E s:=by
  obtain ⟨m,hn,hl⟩:=id I.loc
  have hcls:(X.env.scope.kind == .class || (X.env.scope.kind == .module && X.env.locals != X.env.globals))=false:=by rw [I.ok.kind];rfl
  have hiσ:i < σ.length:=by rw [I.len];exact (List.getElem?_eq_some_iff.mp hi).1
  have cne:=I.cne
  have tracked:∀ {a:Addr} {h':Heap},(∃ o,s.heap.get? a=some o/\H a=none)->Heap.SameBut a s.heap h'->HOk X.prog X.w H h':=fun {a h'} ha hs b ob e=>by
    obtain ⟨_,_,hfree⟩:=ha
    refine (I.hok b ob e).stay (fun c w' hc q=>(hs.2 c ?_).trans q) (fun _ q=>q) fun _ _ q=>q
    rintro rfl
    rcases hc with rfl | hc
    . rw [hfree] at e;cases e
    . rw [hfree] at hc;cases hc
  rcases hx with hk | hk
  . refine wpAny_storeName_local hk hn (fun h' hn' hs=>?_) hcls
    obtain ⟨oL,_,_,hoL,_⟩:=id hn
    refine h _ ⟨I.ok,I.os,I.bare,⟨fun b o e n hb hx=>?_,fun b o e n hb hx=>?_,I.base.free,fun b o e hx=>?_,I.base.tups,I.base.frzs,I.base.tbls⟩,⟨_,hn',fun j y v' e1 e2 e3=>?_⟩,fun y c e=>?_,I.free,I.freeC,fun p hp=>?_,tracked ⟨oL,hoL,I.free⟩ hs,by simpa using I.len⟩ ⟨_,hs,.inl rfl⟩
    . exact (hs.2 b (Nat.ne_of_lt (Nat.lt_of_lt_of_le (Heap.lt_size e) I.ok.above))).trans (I.base.keep b o e n hb hx)
    . obtain ⟨sl,e1⟩:=I.base.slot b o e n hb hx
      exact ⟨sl,(hs.2 b (Nat.ne_of_lt (Nat.lt_of_lt_of_le (Heap.lt_size e) I.ok.above))).trans e1⟩
    . obtain ⟨o',e1⟩:=I.base.there b o e hx
      exact ⟨o',(hs.2 b (Nat.ne_of_lt (Nat.lt_of_lt_of_le (Heap.lt_size e) I.ok.above))).trans e1⟩
    . by_cases hj:j=i
      . subst hj
        rw [hi] at e1;cases e1
        rw [List.getElem?_set_self hiσ] at e2
        cases e2
        exact ⟨u,r,.inl ⟨hk,by simp⟩⟩
      . rw [List.getElem?_set_ne (Ne.symm hj)] at e2
        obtain ⟨u',r',q⟩:=hl j y v' e1 e2 e3
        refine ⟨u',r',?_⟩
        rcases q with ⟨k,e⟩ | ⟨k,c,e,z⟩
        . refine .inl ⟨k,?_⟩
          have:y≠x:=fun e=>hj (nodup_ix hN e1 (e ▸ hi))
          simp [this,e]
        . exact .inr ⟨k,c,e,z.sameBut hs (cne y c e)⟩
    . obtain ⟨w',z⟩:=I.cell y c e
      exact ⟨w',z.sameBut hs (cne y c e)⟩
    . obtain ⟨e,n,ne,nf,d⟩:=I.pin p hp
      exact ⟨(hs.2 p.1 ne).trans e,n,ne,nf,d⟩
  . have hfn:X.fn x=true:=by
      rcases hf with z | z
      . exact z
      . rw [z] at hk;cases hk
    obtain ⟨c,hc⟩:=I.ok.has x (.inl hk)
    obtain ⟨w',z⟩:=I.cell x c hc
    refine wpAny_storeName_cell I.ok.kind hk hc z (fun h' hc' hs=>?_)
    obtain ⟨oc,hoc,hocd⟩:=id z
    refine h { s with heap:=h' } ⟨I.ok,I.os,I.bare,⟨fun b o e n hb hx=>?_,fun b o e n hb hx=>?_,I.base.free,fun b o e hx=>?_,I.base.tups,I.base.frzs,I.base.tbls⟩,⟨m,hn.sameBut hs (Ne.symm (cne x c hc)),fun j y v' e1 e2 e3=>?_⟩,fun y c' e=>?_,I.free,I.freeC,fun p hp=>?_,tracked ⟨oc,hoc,I.freeC x c hc⟩ hs,by simpa using I.len⟩ ⟨c,hs,.inr hc⟩
    . exact (hs.2 b (Nat.ne_of_lt (Nat.lt_of_lt_of_le (Heap.lt_size e) (I.ok.cab x c hfn hc)))).trans (I.base.keep b o e n hb hx)
    . obtain ⟨sl,e1⟩:=I.base.slot b o e n hb hx
      exact ⟨sl,(hs.2 b (Nat.ne_of_lt (Nat.lt_of_lt_of_le (Heap.lt_size e) (I.ok.cab x c hfn hc)))).trans e1⟩
    . obtain ⟨o',e1⟩:=I.base.there b o e hx
      exact ⟨o',(hs.2 b (Nat.ne_of_lt (Nat.lt_of_lt_of_le (Heap.lt_size e) (I.ok.cab x c hfn hc)))).trans e1⟩
    . by_cases hj:j=i
      . subst hj
        rw [hi] at e1;cases e1
        rw [List.getElem?_set_self hiσ] at e2
        cases e2
        exact ⟨u,r,.inr ⟨.inl hk,c,hc,hc'⟩⟩
      . rw [List.getElem?_set_ne (Ne.symm hj)] at e2
        obtain ⟨u',r',q⟩:=hl j y v' e1 e2 e3
        refine ⟨u',r',?_⟩
        rcases q with q | ⟨k,c',e,z'⟩
        . exact .inl q
        . refine .inr ⟨k,c',e,z'.sameBut hs ?_⟩
          rintro rfl
          exact hj (nodup_ix hN e1 (I.ok.inj _ _ _ e hc ▸ hi))
    . by_cases hcc:c'=c
      . subst hcc;exact ⟨_,hc'⟩
      . obtain ⟨w2,z2⟩:=I.cell y c' e
        exact ⟨w2,z2.sameBut hs hcc⟩
    . obtain ⟨e,n,ne,nf,d⟩:=I.pin p hp
      refine ⟨(hs.2 p.1 ?_).trans e,n,ne,nf,d⟩
      intro q
      rw [q,hoc] at e
      have q':oc=p.2:=Option.some.inj e
      exact d w' (by rw [<- q'];exact hocd)
theorem store_ok {M:Model} {A:Around} {E:Value->Shared->Prop} {i:Nat} {x:Str} {v:V} {u:Value} {Q:Unit->Shared->Prop} (I:Inv X pins σ H s) (hN:X.N.Nodup) (hi:X.N[i]? = some x) (hx:Loc X.env.scope x) (r:RelV v u)
    (h:∀ s',Inv X pins (σ.set i (some v)) H s'->Q () s') (hf:X.fn x=true\/X.env.scope.names.lookup x=some .local:=by first | exact .inl rfl | exact .inr rfl | assumption):wpAny M A (storeName X.env x u) Q E s :=
  store_ok2 I hN hi hx r (fun s' I' _=>h s' I') hf
theorem Inv.call' {s':Shared} {ch:List Addr} (I:Inv X pins σ H s) (ho:s'.os=s.os) (u:Un (frs X.stack) ch H H' s.heap s'.heap) (hok:HOk X.prog X.w H' s'.heap) (hg:AllBare s'.gens)
    (hch:∀ b∈ch,(b∈X.ex\/X.s₀.heap.objs.size<=b)/\b≠X.env.locals/\(∀ x c,X.env.cells.lookup x=some c->c≠b)/\∀ p∈X.pn++pins,p.1≠b):Inv X pins σ H' s':=by
  obtain ⟨h',g',d',t',o'⟩:=s'
  have e:o'=s.os:=ho
  subst e
  exact I.call (g':=g') (t':=t') (d':=d') u hok hg hch
end
noncomputable abbrev XK:=Value->Option Addr->Hp->Prop
noncomputable abbrev St:=List (Option V)
noncomputable abbrev VK:=V->Hp->Prop
noncomputable abbrev TE:=St->Hp->VK->Prop
noncomputable abbrev TT:=St->Hp->(Bool->Hp->Prop)->Prop
noncomputable abbrev TA:=St->Hp->(List V->Hp->Prop)->Prop
structure Ends where
  nx:St->Hp->Prop
  rt:VK
  bk:St->Hp->Prop:=fun _ _=>False
  ct:St->Hp->Prop:=fun _ _=>False
noncomputable abbrev TS:=Ends->St->Hp->Prop
noncomputable def EP (X:Cx) (pins:List (Addr × Obj)) (σ:St) (Q:VK) (u:Value) (s':Shared):Prop:=∃ v H',Inv X pins σ H' s'/\RelV v u/\Q v H'
noncomputable def TP (X:Cx) (pins:List (Addr × Obj)) (σ:St) (Q:Bool->Hp->Prop) (b:Bool) (s':Shared):Prop:=∃ H',Inv X pins σ H' s'/\Q b H'
noncomputable def AP (X:Cx) (pins:List (Addr × Obj)) (σ:St) (Q:List V->Hp->Prop) (us:List Value) (s':Shared):Prop:=∃ vs H',Inv X pins σ H' s'/\Vals vs us/\Q vs H'
noncomputable def SP (X:Cx) (pins:List (Addr × Obj)) (D:Ends) (f:Flow) (s':Shared):Prop :=
  match f with
  | .next=>∃ σ' H',Inv X pins σ' H' s'/\D.nx σ' H'
  | .brk=>∃ σ' H',Inv X pins σ' H' s'/\D.bk σ' H'
  | .cont=>∃ σ' H',Inv X pins σ' H' s'/\D.ct σ' H'
  | .ret u=>∃ v σ' H',Inv X pins σ' H' s'/\RelV v u/\D.rt v H'
noncomputable def PE (X:Cx) (e:Expr) (t:TE):Prop :=
  ∀ (pins:List (Addr × Obj)) (s:Shared) (σ:St) (H:Hp) (Q:VK),Inv X pins σ H s->t σ H Q->wpAny (model X.prog X.w) X.A (eval e X.env) (EP X pins σ Q) X.xe s
noncomputable def PT (X:Cx) (e:Expr) (t:TT):Prop :=
  ∀ (pins:List (Addr × Obj)) (s:Shared) (σ:St) (H:Hp) (Q:Bool->Hp->Prop),Inv X pins σ H s->t σ H Q->wpAny (model X.prog X.w) X.A (isTrue e X.env (eval e X.env)) (TP X pins σ Q) X.xe s
noncomputable def PW (X:Cx) (e:Expr) (t:TT):Prop :=
  ∀ (whole:Sem Value) (pins:List (Addr × Obj)) (s:Shared) (σ:St) (H:Hp) (Q:Bool->Hp->Prop),Inv X pins σ H s->t σ H Q->wpAny (model X.prog X.w) X.A (isTrue e X.env whole) (TP X pins σ Q) X.xe s
theorem PW.pt {X:Cx} {e:Expr} {t:TT} (h:PW X e t):PT X e t:=h _
noncomputable def PA (X:Cx) (es:List Expr) (t:TA):Prop :=
  ∀ (pos:Pos) (pins:List (Addr × Obj)) (s:Shared) (σ:St) (H:Hp) (Q:List V->Hp->Prop),Inv X pins σ H s->t σ H Q->wpAny (model X.prog X.w) X.A (spliced (backTo pos (starEach es X.env))) (AP X pins σ Q) X.xe s
noncomputable def PS (X:Cx) (st:Stmt) (t:TS):Prop :=
  ∀ (pins:List (Addr × Obj)) (s:Shared) (σ:St) (H:Hp) (D:Ends),Inv X pins σ H s->t D σ H->wpAny (model X.prog X.w) X.A (exec st X.env) (SP X pins D) X.xe s
noncomputable def PSs (X:Cx) (st:List Stmt) (t:TS):Prop :=
  ∀ (pins:List (Addr × Obj)) (s:Shared) (σ:St) (H:Hp) (D:Ends),Inv X pins σ H s->t D σ H->wpAny (model X.prog X.w) X.A (execs st X.env) (SP X pins D) X.xe s
theorem thn {α:Type} {t:Sem α} {Q Q':α->Shared->Prop} {M:Model} {A:Around} {E:Value->Shared->Prop} {s:Shared} (h:wpAny M A t Q E s) (hQ:∀ a s,Q a s->Q' a s):wpAny M A t Q' E s:=wpAny_mono h hQ fun _ _ x=>x
end L2
namespace L2
open PySem PySem.Spec PyProof.Rows
section
variable {X:Cx}
theorem bin {a b:Expr} {ta tb:TE} (ha:PE X a ta) (hb:PE X b tb) {pins:List (Addr × Obj)} {s:Shared} {σ:St} {H:Hp} {R:V->V->Hp->Prop} (I:Inv X pins σ H s) (h:ta σ H fun x H1=>tb σ H1 fun y H2=>R x y H2)
    {α:Type} {Q:α->Shared->Prop} {f:Value->Value->Sem α}
    (hf:∀ v u s2 x y H2,Inv X pins σ H2 s2->RelV x v->RelV y u->R x y H2->wpAny (model X.prog X.w) X.A (f v u) Q X.xe s2) :
    wpAny (model X.prog X.w) X.A (eval a X.env) (fun v s₁=>wpAny (model X.prog X.w) X.A (eval b X.env) (fun u s₂=>wpAny (model X.prog X.w) X.A (f v u) Q X.xe s₂) X.xe s₁) X.xe s:=by
  refine thn (ha pins s σ H _ I h) fun v s1 h_q=>?_
  obtain ⟨x,H1,I1,r1,q1⟩:=h_q
  refine thn (hb pins s1 σ H1 _ I1 q1) fun u s2 h_q=>?_
  obtain ⟨y,H2,I2,r2,q2⟩:=h_q
  exact hf v u s2 x y H2 I2 r1 r2 q2
noncomputable def tVar (i:Nat):TE:=fun σ H Q=>∃ v,σ[i]? = some (some v)/\Q v H
noncomputable def tC (v:V):TE:=fun _ H Q=>Q v H
theorem pe_var {i:Nat} {x:Str} {pos:Pos} (hN:X.N[i]? = some x) (hv:Vis X.env.scope x) (hd:(x == ("__debug__":Str))=false:=by decide) (hcd:(x == ("__classdict__":Str))=false:=by decide):PE X (.Name x pos) (tVar i):=by
  intro pins s σ H Q I h
  obtain ⟨v,e,h⟩:=h
  obtain ⟨m,hn,hl⟩:=I.loc
  obtain ⟨u,r,l⟩:=hl i x v hN e hv
  have fin:EP X pins σ Q u s:=⟨v,H,I,r,h⟩
  rcases l with ⟨hk,hm⟩ | ⟨hk,c,hc,hcell⟩
  . exact wpAny_Name (wpAny_loadName_local I.ok.kind hk hn hm fin) hd
  . rcases hk with hk | hk
    . exact wpAny_Name (wpAny_loadName_cell I.ok.kind hk hc hcell fin) hd
    . exact wpAny_Name (wpAny_loadName_free I.ok.kind hk hc hcell fin hcd) hd
theorem pe_int {i j pos}:PE X (.Constant (.int i) j pos) (tC (.int i)):=fun _ _ _ H _ I h=>wpAny_Constant_int ⟨.int i,H,I.tok _,⟨_,rfl⟩,h⟩
theorem pe_bl {b j pos}:PE X (.Constant (.bool b) j pos) (tC (.bl b)):=fun _ _ _ H _ I h=>Constant_bool ⟨.bl b,H,I,rfl,h⟩
theorem pe_non {j pos}:PE X (.Constant .none j pos) (tC .non):=fun _ _ _ H _ I h=>Constant_none ⟨.non,H,I,rfl,h⟩
theorem pe_str {x j pos}:PE X (.Constant (.str x) j pos) (tC (.str x)):=fun _ _ _ H _ I h=>Calls.Constant_str ⟨.str x,H,I.tok _,⟨_,rfl⟩,h⟩
noncomputable def Gl (X:Cx) (x:Str):Prop:=X.env.kindOf x=some .globalImplicit
theorem ld_glob {E:Value->Shared->Prop} {pins:List (Addr × Obj)} {s:Shared} {σ:St} {H:Hp} {x:Str} {u:Value} {pos:Pos} {Q:Value->Shared->Prop} (I:Inv X pins σ H s) (hg:Gl X x) (hm:X.mg x=some u) (h:Q u s)
    (hd:(x == ("__debug__":Str))=false:=by decide):wpAny (model X.prog X.w) X.A (eval (.Name x pos) X.env) Q E s :=
  Calls.Name_function_global I.ok.kind hg (Calls.loadGlobal_global (by rw [I.ok.glob];exact I.mod.glob.keeps I.bk) hm h) hd
theorem ld_blt {E:Value->Shared->Prop} {pins:List (Addr × Obj)} {s:Shared} {σ:St} {H:Hp} {x:Str} {u:Value} {pos:Pos} {Q:Value->Shared->Prop} (I:Inv X pins σ H s) (hg:Gl X x) (hm:X.mg x=none) (hv:bootBuiltins x=some u) (h:Q u s)
    (hn:x≠"__name__":=by decide) (hd:(x == ("__debug__":Str))=false:=by decide):wpAny (model X.prog X.w) X.A (eval (.Name x pos) X.env) Q E s:=by
  obtain ⟨mb,h1,h2⟩:=I.mod.blt
  exact Calls.Name_function_global I.ok.kind hg (Calls.loadGlobal_builtin (by rw [I.ok.glob];exact I.mod.glob.keeps I.bk) hm (by rw [I.ok.blt];exact h1.keeps I.bk) ((h2 x hn).trans hv) h) hd
theorem pe_glob {x:Str} {v:V} {u:Value} {pos:Pos} (hg:Gl X x) (hm:X.mg x=some u) (r:RelV v u) (hd:(x == ("__debug__":Str))=false:=by decide):PE X (.Name x pos) (tC v) :=
  fun _ _ _ H _ I h=>ld_glob I hg hm ⟨v,H,I,r,h⟩ hd
theorem pe_bltn {x:Str} {v:V} {u:Value} {pos:Pos} (hg:Gl X x) (hm:X.mg x=none) (hv:bootBuiltins x=some u) (r:RelV v u) (hn:x≠"__name__":=by decide) (hd:(x == ("__debug__":Str))=false:=by decide):PE X (.Name x pos) (tC v) :=
  fun _ _ _ H _ I h=>ld_blt I hg hm hv ⟨v,H,I,r,h⟩ hn hd
variable {a b:Expr} {ta tb:TE} {pos:Pos}
noncomputable def PC (X:Cx) (op:CmpOp) (a b:Expr) (t:TE):Prop :=
  ∀ (pins:List (Addr × Obj)) (s:Shared) (σ:St) (H:Hp) (Q:VK),Inv X pins σ H s->t σ H Q ->
    wpAny (model X.prog X.w) X.A (eval a X.env) (fun v s₁=>wpAny (model X.prog X.w) X.A (eval b X.env) (fun u s₂=>wpAny (model X.prog X.w) X.A (compareOp op v u) (EP X pins σ Q) X.xe s₂) X.xe s₁) X.xe s
theorem nobehind (b:Expr) {op:CmpOp} (h:op≠.In) (h2:op≠.NotIn):behindInMarks op b=false:=by
  have e1:(op == CmpOp.In)=false:=by cases op <;> first | rfl | exact absurd rfl h
  have e2:(op == CmpOp.NotIn)=false:=by cases op <;> first | rfl | exact absurd rfl h2
  cases b <;> simp [behindInMarks,e1,e2]
noncomputable def tB (t:TE):TT:=fun σ H Q=>t σ H fun x H1=>∃ c,x=.bl c/\Q c H1
theorem pt_cmp {op:CmpOp} {t:TE} (h:PC X op a b t) (h1:behindInMarks op b=false:=by first | exact nobehind _ (by decide) (by decide) | rfl):PT X (.Compare a [op] [b] pos) (tB t):=by
  intro pins s σ H Q I hw
  refine wpAny_isTrue_Compare1 (thn (h pins s σ H _ I hw) fun v s1 h1=>thn h1 fun u s2 h2=>thn h2 fun c s3 ⟨x,H1,I1,r1,q1⟩=>?_) h1
  obtain ⟨d,rfl,q⟩:=q1
  cases r1
  exact wpAny_truthy_bool ⟨H1,I1,q⟩
theorem pt_val {e:Expr} {t:TE} (h:PE X e t) (he:∀ whole,isTrue e X.env whole=(do let v <- whole;standAt e.pos;holding [v] (truthy v)):=by intro _;rfl):PT X e (tB t):=by
  intro pins s σ H Q I hw
  refine isTrue_plain (thn (h pins s σ H _ I hw) fun v s1 ⟨x,H1,I1,r1,q1⟩=>?_) (he _)
  obtain ⟨d,rfl,q⟩:=q1
  cases r1
  exact wpAny_truthy_bool ⟨H1,I1,q⟩
variable {tA tB':TT} {rest:List Expr}
noncomputable def tAnd (t u:TT):TT:=fun σ H Q=>t σ H fun c H1=>if c=true then u σ H1 Q else Q false H1
noncomputable def tOr (t u:TT):TT:=fun σ H Q=>t σ H fun c H1=>if c=true then Q true H1 else u σ H1 Q
noncomputable def tNot (t:TT):TT:=fun σ H Q=>t σ H fun c H1=>Q (!c) H1
theorem pw_and1 (ha:PT X a tA):PW X (.BoolOp .And [a] pos) tA:=by
  intro wh pins s σ H Q I h
  refine isTrue_and (thn (ha pins s σ H Q I h) fun c s1 e=>?_)
  cases c with
  | true=>exact isTrue_and_nil e
  | false=>exact e
theorem pw_or1 (ha:PT X a tA):PW X (.BoolOp .Or [a] pos) tA:=by
  intro wh pins s σ H Q I h
  refine isTrue_or (thn (ha pins s σ H Q I h) fun c s1 e=>?_)
  cases c with
  | false=>exact isTrue_or_nil e
  | true=>exact e
theorem pw_and (ha:PT X a tA) (hb:PW X (.BoolOp .And (b::rest) pos) tB'):PW X (.BoolOp .And (a::b::rest) pos) (tAnd tA tB'):=by
  intro wh pins s σ H Q I h
  refine isTrue_and (thn (ha pins s σ H _ I h) fun c s1 h_q=>?_)
  obtain ⟨H1,I1,q1⟩:=h_q
  cases c with
  | true=>exact hb wh pins s1 σ H1 Q I1 q1
  | false=>exact ⟨H1,I1,q1⟩
theorem pw_or (ha:PT X a tA) (hb:PW X (.BoolOp .Or (b::rest) pos) tB'):PW X (.BoolOp .Or (a::b::rest) pos) (tOr tA tB'):=by
  intro wh pins s σ H Q I h
  refine isTrue_or (thn (ha pins s σ H _ I h) fun c s1 h_q=>?_)
  obtain ⟨H1,I1,q1⟩:=h_q
  cases c with
  | true=>exact ⟨H1,I1,q1⟩
  | false=>exact hb wh pins s1 σ H1 Q I1 q1
theorem pt_not (ha:PT X a tA):PT X (.UnaryOp .Not a pos) (tNot tA):=by
  intro pins s σ H Q I h
  exact isTrue_not (ha pins s σ H (fun c H1=>Q (!c) H1) I h)
noncomputable def tAndV (ta tb:TE):TE:=fun σ H Q=>ta σ H fun x H1=>∃ c,x=.bl c/\if c=true then tb σ H1 Q else Q (.bl false) H1
theorem pe_one {op} {t:TE} (h:PE X a t):PE X (.BoolOp op [a] pos) t:=fun pins s σ H Q I hw=>BoolOp_one (h pins s σ H Q I hw)
theorem pe_and (ha:PE X a ta) (hb:PE X (.BoolOp .And (b::rest) pos) tb):PE X (.BoolOp .And (a::b::rest) pos) (tAndV ta tb):=by
  intro pins s σ H Q I h
  refine BoolOp_and (thn (ha pins s σ H _ I h) fun v s1 h_q=>?_)
  obtain ⟨x,H1,I1,r1,q1⟩:=h_q
  obtain ⟨c,rfl,q1⟩:=q1
  cases r1
  refine wpAny_truthy_bool ?_
  cases c with
  | true=>exact hb pins s1 σ H1 Q I1 q1
  | false=>exact ⟨.bl false,H1,I1,rfl,q1⟩
noncomputable def tIf (t:TT) (ta tb:TE):TE:=fun σ H Q=>t σ H fun c H1=>if c=true then ta σ H1 Q else tb σ H1 Q
theorem pe_ifExp {c:Expr} (hc:PT X c tA) (ha:PE X a ta) (hb:PE X b tb):PE X (.IfExp c a b pos) (tIf tA ta tb):=by
  intro pins s σ H Q I h
  refine wpAny_IfExp (thn (hc pins s σ H _ I h) fun d s1 h_q=>?_)
  obtain ⟨H1,I1,q1⟩:=h_q
  cases d with
  | true=>exact ha pins s1 σ H1 Q I1 q1
  | false=>exact hb pins s1 σ H1 Q I1 q1
end
end L2
namespace L2
open PySem PySem.Spec PyProof.Rows
noncomputable def SqL (K:PySem.W.Frag) (H:Hp) (a:Addr) (xs:List V):Prop :=
  Rd H a (.lst xs) \/
    ∃ (o:Obj) (its:Array Value) (n:Nat),K.lookup a=some o/\o.cls=.type "list"/\o.dict=none/\o.data=.seq its n/\its.size<=sizeLine/\Vals xs its.toList
noncomputable def SqT (K:PySem.W.Frag) (H:Hp) (a:Addr) (xs:List V):Prop :=
  Rd H a (.tup xs) \/
    ∃ (o:Obj) (its:Array Value) (n:Nat),K.lookup a=some o/\o.cls=.type "tuple"/\o.data=.seq its n/\its.size<=sizeLine/\Vals xs its.toList
noncomputable def absV:Value->Option V
  | .none=>some .non
  | .bool b=>some (.bl b)
  | .int i _=>some (.int i)
  | .str x _=>some (.str x)
  | .bytes b _=>some (.byt b)
  | .float b _=>some (.flt b)
  | .ref a=>some (.ref a)
  | .type n=>some (.ty n)
  | _=>none
theorem RelV.abs {x:V} {u:Value} (r:RelV x u):absV u=some x:=by
  cases x with
  | non=>cases r;rfl
  | bl _=>cases r;rfl
  | int _=>obtain ⟨t,rfl⟩:=r;rfl
  | str _=>obtain ⟨t,rfl⟩:=r;rfl
  | byt _=>obtain ⟨t,rfl⟩:=r;rfl
  | flt _=>obtain ⟨t,rfl⟩:=r;rfl
  | ref _=>cases r;rfl
  | ty _=>cases r;rfl
theorem RelV.inj {x y:V} {u:Value} (r:RelV x u) (q:RelV y u):x=y:=Option.some.inj (r.abs.symm.trans q.abs)
theorem Vals.inj:∀ {xs ys:List V} {us:List Value},Vals xs us->Vals ys us->xs=ys
  | _,_,_,.nil,.nil=>rfl
  | _,_,_,.cons r t,.cons r' t'=>by rw [r.inj r',Vals.inj t t']
section
variable {X:Cx} {pins:List (Addr × Obj)} {σ:St} {H:Hp} {s:Shared} {a:Addr} {xs ys:List V}
theorem SqL.of {K:PySem.W.Frag} (h:H a=some (.lst xs)):SqL K H a xs:=.inl (.inl h)
theorem SqT.of {K:PySem.W.Frag} (h:H a=some (.tup xs)):SqT K H a xs:=.inl (.inl h)
theorem Inv.list (I:Inv X pins σ H s) (h:SqL X.K H a xs):∃ its:List Value,Vals xs its/\PlainL s.heap a its.toArray/\xs.length<=sizeLine:=by
  rcases h with h | ⟨o,its,n,hk,hc,hd,hs,hz,r⟩
  . obtain ⟨z,its,n,r,e⟩:=h.ok I.hok
    exact ⟨its,r,⟨_,n,e,rfl,rfl,rfl⟩,z⟩
  . refine ⟨its.toList,r,⟨o,n,I.kIn a o hk,hc,hd,by simpa using hs⟩,?_⟩
    have e:=r.length
    simp only [Array.length_toList] at e
    lia
theorem Inv.tuple (I:Inv X pins σ H s) (h:SqT X.K H a xs):∃ its:List Value,Vals xs its/\IsTup s.heap a its.toArray/\xs.length<=sizeLine:=by
  rcases h with h | ⟨o,its,n,hk,hc,hs,hz,r⟩
  . obtain ⟨z,its,r,p⟩:=h.ok I.hok
    exact ⟨its,r,p,z⟩
  . refine ⟨its.toList,r,⟨o,I.kIn a o hk,hc,n,by simpa using hs⟩,?_⟩
    have e:=r.length
    simp only [Array.length_toList] at e
    lia
theorem Inv.list_inj (I:Inv X pins σ H s) (h:SqL X.K H a xs) (h':SqL X.K H a ys):xs=ys:=by
  obtain ⟨its,r,⟨o,n,e,_,_,d⟩,_⟩:=I.list h
  obtain ⟨its',r',⟨o',n',e',_,_,d'⟩,_⟩:=I.list h'
  rw [e] at e';cases e'
  rw [d] at d'
  injection d' with d1 _
  have:its=its':=by simpa using congrArg Array.toList d1
  subst this
  exact r.inj r'
theorem Inv.tuple_inj (I:Inv X pins σ H s) (h:SqT X.K H a xs) (h':SqT X.K H a ys):xs=ys:=by
  obtain ⟨its,r,⟨o,e,_,n,d⟩,_⟩:=I.tuple h
  obtain ⟨its',r',⟨o',e',_,n',d'⟩,_⟩:=I.tuple h'
  rw [e] at e';cases e'
  rw [d] at d'
  injection d' with d1 _
  have:its=its':=by simpa using congrArg Array.toList d1
  subst this
  exact r.inj r'
end
noncomputable abbrev Cx.wish (X:Cx) (E:Value->Shared->Prop):Cx:={ X with xe:=E }
noncomputable abbrev Cx.nox (X:Cx):Cx:=X.wish fun _ _=>False
theorem Cx.Ok.wish {X:Cx} (ok:X.Ok) (E:Value->Shared->Prop):(X.wish E).Ok :=
  ⟨ok.mod,ok.kind,ok.glob,ok.blt,ok.above,ok.inj,ok.has,ok.cab,ok.hd,ok.frames,ok.stk,ok.exf,ok.bs,ok.bsz,ok.noex,ok.exfs,ok.funs,ok.frf⟩
theorem Cx.Ok.unwish {X:Cx} {E:Value->Shared->Prop} (ok:(X.wish E).Ok):X.Ok :=
  ⟨ok.mod,ok.kind,ok.glob,ok.blt,ok.above,ok.inj,ok.has,ok.cab,ok.hd,ok.frames,ok.stk,ok.exf,ok.bs,ok.bsz,ok.noex,ok.exfs,ok.funs,ok.frf⟩
section
variable {X:Cx} {pins:List (Addr × Obj)} {σ:St} {H:Hp} {s:Shared} {E:Value->Shared->Prop}
theorem Inv.wish (I:Inv X pins σ H s) (E:Value->Shared->Prop):Inv (X.wish E) pins σ H s:=⟨I.ok.wish E,I.os,I.bare,I.base,I.loc,I.cell,I.free,I.freeC,I.pin,I.hok,I.len⟩
theorem Inv.unwish (I:Inv (X.wish E) pins σ H s):Inv X pins σ H s:=⟨I.ok.unwish,I.os,I.bare,I.base,I.loc,I.cell,I.free,I.freeC,I.pin,I.hok,I.len⟩
theorem SP.unwish {D:Ends} {f:Flow} {s':Shared} (h:SP (X.wish E) pins D f s'):SP X pins D f s':=by
  cases f with
  | next=>obtain ⟨σ',H',I,q⟩:=h;exact ⟨σ',H',I.unwish,q⟩
  | brk=>obtain ⟨σ',H',I,q⟩:=h;exact ⟨σ',H',I.unwish,q⟩
  | cont=>obtain ⟨σ',H',I,q⟩:=h;exact ⟨σ',H',I.unwish,q⟩
  | ret u=>obtain ⟨v,σ',H',I,r,q⟩:=h;exact ⟨v,σ',H',I.unwish,r,q⟩
theorem PSs.nox {st:List Stmt} {t:TS} (h:PSs X.nox st t):PSs X st t:=fun pins s σ H D I hw =>
  wpAny_mono (h pins s σ H D (I.wish _) hw) (fun _ _ q=>q.unwish) fun _ _ z=>False.elim z
end
section
variable {X:Cx} {st:Stmt} {rest:List Stmt} {t u:TS} {e:Expr} {te:TE} {pos:Pos}
noncomputable def tNext:TS:=fun D σ H=>D.nx σ H
noncomputable def tSeq (t u:TS):TS:=fun D σ H=>t { D with nx:=u D } σ H
theorem pss_nil:PSs X [] tNext:=fun _ _ σ H _ I h=>wpAny_execs_nil ⟨σ,H,I,h⟩
theorem pss_cons (h1:PS X st t) (h2:PSs X rest u):PSs X (st::rest) (tSeq t u):=by
  intro pins s σ H D I h
  refine wpAny_execs_cons (thn (h1 pins s σ H { D with nx:=u D } I h) fun f s1 q=>?_)
  cases f with
  | next =>
    obtain ⟨σ',H',I',q⟩:=q
    exact h2 pins s1 σ' H' D I' q
  | ret v=>exact q
  | brk=>exact q
  | cont=>exact q
theorem pss_one (h1:PS X st t):PSs X [st] t:=by
  intro pins s σ H D I h
  refine wpAny_execs_cons (thn (h1 pins s σ H D I h) fun f s1 q=>?_)
  cases f with
  | next=>exact wpAny_execs_nil q
  | ret v=>exact q
  | brk=>exact q
  | cont=>exact q
theorem Inv.quiet {pins:List (Addr × Obj)} {σ:St} {H:Hp} {s:Shared} (I:Inv X pins σ H s):interactive X.env=false:=by simp [interactive,I.ok.kind]
noncomputable def tDrop (te:TE):TS:=fun D σ H=>te σ H fun _ H1=>D.nx σ H1
theorem ps_expr (he:PE X e te) (hs:swapsWith e none pos.line X.env=pure false:=by rfl):PS X (.Expr e pos) (tDrop te):=by
  intro pins s σ H D I h
  exact wpAny_Expr_any (thn (he pins s σ H _ I h) fun v s1 ⟨x,H1,I1,r1,q1⟩=>⟨σ,H1,I1,q1⟩) I.quiet hs
noncomputable def tRet (te:TE):TS:=fun D σ H=>te σ H D.rt
theorem ps_ret (he:PE X e te):PS X (.Return (some e) pos) (tRet te):=by
  intro pins s σ H D I h
  exact wpAny_Return_some (thn (he pins s σ H _ I h) fun v s1 ⟨x,H1,I1,r1,q1⟩=>⟨x,σ,H1,I1,r1,q1⟩)
noncomputable def tIfS (c:TT) (t u:TS):TS:=fun D σ H=>c σ H fun b H1=>if b=true then t D σ H1 else u D σ H1
theorem ps_if {c:Expr} {a b:List Stmt} {tc:TT} (hc:PT X c tc) (ha:PSs X a t) (hb:PSs X b u):PS X (.If c a b pos) (tIfS tc t u):=by
  intro pins s σ H D I h
  refine wpAny_If (thn (hc pins s σ H _ I h) fun d s1 h_q=>?_)
  obtain ⟨H1,I1,q1⟩:=h_q
  cases d with
  | true=>exact ha pins s1 σ H1 D I1 q1
  | false=>exact hb pins s1 σ H1 D I1 q1
end
noncomputable abbrev TG:=V->St->Hp->(St->Hp->Prop)->Prop
noncomputable abbrev TGs:=List V->St->Hp->(St->Hp->Prop)->Prop
noncomputable def PG (X:Cx) (target:Expr) (t:TG):Prop :=
  ∀ (pins:List (Addr × Obj)) (s:Shared) (σ:St) (H:Hp) (v:V) (u:Value) (Q:St->Hp->Prop),Inv X pins σ H s->RelV v u->t v σ H Q ->
    wpAny (model X.prog X.w) X.A (assign target X.env u) (fun _ s'=>∃ σ' H',Inv X pins σ' H' s'/\Q σ' H') X.xe s
noncomputable def PGs (X:Cx) (ts:List Expr) (t:TGs):Prop :=
  ∀ (pins:List (Addr × Obj)) (s:Shared) (σ:St) (H:Hp) (vs:List V) (us:List Value) (Q:St->Hp->Prop),Inv X pins σ H s->Vals vs us->t vs σ H Q ->
    wpAny (model X.prog X.w) X.A (assignInOrder ((assignEach ts X.env).map (·.2)) us) (fun _ s'=>∃ σ' H',Inv X pins σ' H' s'/\Q σ' H') X.xe s
noncomputable abbrev TSet:=V->V->V->Hp->(Hp->Prop)->Prop
noncomputable def PSet (X:Cx) (t:TSet):Prop :=
  ∀ (pins:List (Addr × Obj)) (s:Shared) (σ:St) (H:Hp) (o i v:V) (ov iv u:Value) (Q:Hp->Prop),Inv X pins σ H s->RelV o ov->RelV i iv->RelV v u->t o i v H Q ->
    wpAny (model X.prog X.w) X.A (setItem ov iv u) (fun _ s'=>∃ H',Inv X pins σ H' s'/\Q H') X.xe s
section
variable {X:Cx} {pos:Pos}
noncomputable def gName (i:Nat):TG:=fun v σ H Q=>Q (σ.set i (some v)) H
theorem pg_name {i:Nat} {x:Str} (hN:X.N.Nodup) (hi:X.N[i]? = some x) (hx:Loc X.env.scope x) (hf:X.fn x=true\/X.env.scope.names.lookup x=some .local:=by first | exact .inl rfl | exact .inr rfl | assumption):PG X (.Name x pos) (gName i):=by
  intro pins s σ H v u Q I r h
  exact wpAny_assign_Name (store_ok I hN hi hx r (fun s' I'=>⟨_,H,I',h⟩) hf)
noncomputable def gNil:TGs:=fun vs σ H Q=>vs=[]/\Q σ H
noncomputable def gCons (t:TG) (u:TGs):TGs:=fun vs σ H Q=>∃ v r,vs=v::r/\t v σ H fun σ' H'=>u r σ' H' Q
theorem pgs_nil:PGs X [] gNil:=by
  intro pins s σ H vs us Q I r h
  obtain ⟨e,h⟩:=h
  subst e
  cases r
  exact assignInOrder_nil ⟨σ,H,I,h⟩
theorem pgs_cons {e:Expr} {es:List Expr} {t:TG} {u:TGs} (h1:PG X e t) (h2:PGs X es u)
    (hs:(assignEach (e::es) X.env).map (·.2)=assign e X.env::(assignEach es X.env).map (·.2):=by rfl):PGs X (e::es) (gCons t u):=by
  intro pins s σ H vs us Q I r h
  obtain ⟨v,vr,e1,h⟩:=h
  subst e1
  cases r with
  | cons r rr =>
    rw [hs]
    refine assignInOrder_cons (thn (h1 pins s σ H _ _ _ I r h) fun _ s1 h_q=>?_)
    obtain ⟨σ1,H1,I1,q1⟩:=h_q
    exact h2 pins s1 σ1 H1 _ _ Q I1 rr q1
noncomputable def gTup (K:PySem.W.Frag) (n:Nat) (t:TGs):TG:=fun v σ H Q=>∃ a xs,v=.ref a/\SqT K H a xs/\xs.length=n/\t xs σ H Q
theorem pg_tup {es:List Expr} {k:Nat} {t:TGs} {n:Nat} (hc:X.calm=true) (h:PGs X es t)
    (hn:(assignEach es X.env).length=n:=by rfl) (hst:(assignEach es X.env).findIdx? (·.1)=none:=by rfl):PG X (.Tuple es k pos) (gTup X.K n t):=by
  intro pins s σ H v u Q I r hw
  obtain ⟨a,xs,e1,hq,hl,hw⟩:=hw
  subst e1
  cases r
  obtain ⟨its,rv,ht,hz⟩:=I.tuple hq
  refine assign_Tuple_tuple (I.ok.hd hc) ht (by simp [hn,<- hl,rv.length]) hst fun h' hx=>?_
  have I1:Inv X pins σ H { s with heap:=h' }:=I.kept (t':=s.toks) fun b o e=>hx b o (Nat.ne_of_lt (Heap.lt_size e)) e
  exact h pins _ σ H xs _ Q I1 (by simpa using rv) hw
noncomputable def gSub (to ti:TE) (t:TSet):TG:=fun v σ H Q=>to σ H fun o H1=>ti σ H1 fun i H2=>t o i v H2 fun H3=>Q σ H3
theorem pg_sub {o i:Expr} {to ti:TE} {t:TSet} (ho:PE X o to) (hi:PE X i ti) (hs:PSet X t)
    (ha : ∀ v,assign (.Subscript o i pos) X.env v=(do
      let ov <- holding [v] (eval o X.env)
      let iv <- holding [v,ov] (eval i X.env)
      standAt pos
      holding [v,ov,iv] (setItem ov iv v)
      release [v,ov,iv] []):=by intro _;rfl):PG X (.Subscript o i pos) (gSub to ti t):=by
  intro pins s σ H v u Q I r h
  rw [ha]
  refine wpAny_bind (wpAny_holding (thn (ho pins s σ H _ I h) fun ov s1 h_q=>?_))
  obtain ⟨x,H1,I1,r1,q1⟩:=h_q
  refine wpAny_bind (wpAny_holding (thn (hi pins s1 σ H1 _ I1 q1) fun iv s2 h_q=>?_))
  obtain ⟨y,H2,I2,r2,q2⟩:=h_q
  refine wpAny_bind (wpAny_standAt (wpAny_bind (wpAny_holding (thn (hs pins s2 σ H2 x y v ov iv u _ I2 r1 r2 r q2) fun _ s3 h_q=>?_))))
  obtain ⟨H3,I3,q3⟩:=h_q
  exact wpAny_release ⟨σ,H3,I3,q3⟩
noncomputable def tAsg (te:TE) (g:TG):TS:=fun D σ H=>te σ H fun x H1=>g x σ H1 D.nx
theorem ps_asg {tg e:Expr} {te:TE} {g:TG} (he:PE X e te) (hg:PG X tg g) (hs:swapsWithSole [tg] e pos.line X.env=pure false:=by rfl) (hw:swappedStores [tg] e X.env=pure none:=by rfl)
    (h1:(assignEach [tg] X.env).map (·.2)=[assign tg X.env]:=by rfl):PS X (.Assign [tg] e pos) (tAsg te g):=by
  intro pins s σ H D I h
  refine wpAny_Assign_stores (thn (he pins s σ H _ I h) fun v s1 ⟨x,H1,I1,r1,q1⟩=>?_) hs hw
  rw [h1]
  exact thn (hg pins s1 σ H1 x v _ I1 r1 q1) fun _ s2 q=>q
theorem ps_set {i:Nat} {x:Str} {e:Expr} {te:TE} {pos':Pos} (hN:X.N.Nodup) (hi:X.N[i]? = some x) (hx:Loc X.env.scope x) (he:PE X e te) (hs:swapsWith e (some (.Name x pos')) pos.line X.env=pure false:=by rfl) (hf:X.fn x=true\/X.env.scope.names.lookup x=some .local:=by first | exact .inl rfl | exact .inr rfl | assumption) :
    PS X (.Assign [.Name x pos'] e pos) (tAsg te (gName i)):=by
  intro pins s σ H D I h
  refine wpAny_Assign_Name (thn (he pins s σ H _ I h) fun v s1 ⟨y,H1,I1,r1,q1⟩=>?_) hs
  exact store_ok I1 hN hi hx r1 (fun s2 I2=>⟨_,H1,I2,q1⟩) hf
end
structure It where
  go:Nat->Hp->Prop
  yld:Nat->Hp->V->Hp->Prop
  stop:Nat->Hp->Prop
noncomputable def FpOk (X:Cx) (pins:List (Addr × Obj)) (H:Hp) (b:Addr):Prop :=
  H b=none/\b≠X.env.locals/\b ∉ X.fs/\(b∈X.ex\/X.s₀.heap.objs.size<=b)/\(∀ x c,X.env.cells.lookup x=some c->c≠b)/\∀ p∈X.pn++pins,p.1≠b
theorem Inv.fpOk {X:Cx} {pins:List (Addr × Obj)} {σ:St} {H H':Hp} {s:Shared} {b:Addr} (I:Inv X pins σ H s) (hb:s.heap.objs.size<=b) (hn:H' b=none):FpOk X pins H' b:=by
  refine ⟨hn,Nat.ne_of_gt (Nat.lt_of_lt_of_le I.lt hb),I.nofs hb,.inr (Nat.le_trans I.sz hb),fun x c e z=>?_,fun p hp z=>?_⟩
  . obtain ⟨v,q⟩:=I.cell x c e
    exact absurd (Nat.lt_of_lt_of_le q.lt (by rw [z];exact hb)) (Nat.lt_irrefl _)
  . exact absurd (Nat.lt_of_lt_of_le (Heap.lt_size (I.pin p hp).1) (by rw [z];exact hb)) (Nat.lt_irrefl _)
structure Turn (P:Program) (w:World) (K:PySem.W.Frag) (tg:Expr) (J:It) (fp:List Addr) (it:Addr) (tn:Nat->Heap->Prop):Prop where
  mem:it∈fp
  obj:∀ i h,tn i h->∀ b∈fp,∃ o,h.get? b=some o/\∀ v,o.data≠.cell v
  keep:∀ i h h',tn i h->(∀ b∈fp,∀ o,h.get? b=some o->h'.get? b=some o)->tn i h'
  item : ∀ (X:Cx),X.prog=P->X.w=w->X.K=K->X.calm=true->∀ (i:Nat) (pins:List (Addr × Obj)) (s:Shared) (σ:St) (H:Hp) (E:Value->Shared->Prop),Inv X pins σ H s->(∀ b∈fp,FpOk X pins H b)->tn i s.heap->J.go i H ->
    wpAny (model P w) X.A (pyNext (.ref it)) (fun r s1=>∃ u,r=some u /\
      wpAny (model P w) X.A (letOwnedTupleGo tg (.ref it) u) (fun _ s2=>∃ x H',Inv X pins σ H' s2/\RelV x u/\J.yld i H x H'/\tn (i + 1) s2.heap/\∀ b∈fp,H' b=none) E s1) E s
  done:∀ (X:Cx),X.prog=P->X.w=w->X.K=K->X.calm=true->∀ (i:Nat) (pins:List (Addr × Obj)) (s:Shared) (σ:St) (H:Hp) (E:Value->Shared->Prop),Inv X pins σ H s->(∀ b∈fp,FpOk X pins H b)->tn i s.heap->J.stop i H ->
    wpAny (model P w) X.A (pyNext (.ref it)) (fun r s1=>r=none/\Inv X pins σ H s1) E s
  self:∀ (A:Around) (i:Nat) (s:Shared) (Q:Value->Shared->Prop) (E:Value->Shared->Prop),tn i s.heap->Q (.ref it) s->wpAny (model P w) A (pyIter (.ref it)) Q E s
noncomputable abbrev TI:=St->Hp->(It->Hp->Prop)->Prop
noncomputable def PIE (X:Cx) (pins:List (Addr × Obj)) (σ:St) (tg:Expr) (R:It->Hp->Prop) (itv:Value) (s2:Shared):Prop :=
  ∃ (it:Addr) (fp:List Addr) (tn:Nat->Heap->Prop) (J:It) (H':Hp),itv=.ref it/\Inv X pins σ H' s2/\Turn X.prog X.w X.K tg J fp it tn/\tn 0 s2.heap/\(∀ b∈fp,FpOk X pins H' b)/\R J H'
noncomputable def PI (X:Cx) (tg iter:Expr) (wi:TI):Prop :=
  ∀ (pins:List (Addr × Obj)) (s:Shared) (σ:St) (H:Hp) (R:It->Hp->Prop),Inv X pins σ H s->wi σ H R ->
    wpAny (model X.prog X.w) X.A (eval iter X.env) (fun v s1=>wpAny (model X.prog X.w) X.A (pyIter v) (PIE X pins σ tg R) X.xe s1) X.xe s
theorem go_of {M:Model} {A:Around} {E:Value->Shared->Prop} {s:Shared} {tg:Expr} {it:Addr} {u:Value} {o:Obj} {n:String} {vs:Array Value} {Q:Unit->Shared->Prop} (ho:s.heap.get? it=some o) (hc:o.cls=.type n) (hd:o.data=.fields vs)
    (hn:["enumerate","zip","dict_itemiterator","dict_reverseitemiterator","odict_iterator","itertools.zip_longest","itertools.pairwise"].contains n=false) (hQ:Q () s):wpAny M A (letOwnedTupleGo tg (.ref it) u) Q E s:=by
  unfold letOwnedTupleGo
  cases tg <;> first
    | exact wpAny_pure hQ
    | (cases u <;> first
        | exact wpAny_pure hQ
        | (refine wpAny_bind (wpAny_load ho ?_)
           rw [hc,hd]
           show wpAny M A (if (["enumerate","zip","dict_itemiterator","dict_reverseitemiterator","odict_iterator","itertools.zip_longest","itertools.pairwise"].contains n && vs[0]? == some (rawInt _))=true then _ else _) Q E s
           rw [if_neg (by intro h;rw [hn,Bool.false_and] at h;cases h)]
           exact wpAny_pure hQ))
noncomputable def Itl (K:PySem.W.Frag) (a:Addr):It :=
  ⟨fun i H=>∃ xs x,SqL K H a xs/\xs[i]? = some x,fun i H x H'=>H'=H/\∀ xs,SqL K H a xs->xs[i]? = some x,fun i H=>∃ xs,SqL K H a xs/\xs.length<=i⟩
noncomputable def Itt (K:PySem.W.Frag) (a:Addr):It :=
  ⟨fun i H=>∃ xs x,SqT K H a xs/\xs[i]? = some x,fun i H x H'=>H'=H/\∀ xs,SqT K H a xs->xs[i]? = some x,fun i H=>∃ xs,SqT K H a xs/\xs.length<=i⟩
noncomputable def Itr (lo:Int) (n:Nat):It:=⟨fun i _=>i < n,fun i H x H'=>H'=H/\x=.int (lo + i),fun i _=>n<=i⟩
theorem turn_list {P:Program} {w:World} {K:PySem.W.Frag} {tg:Expr} (a it:Addr):Turn P w K tg (Itl K a) [it] it (fun i h=>h.IsListIter it a i) where
  mem:=by simp
  obj := fun i h st b hb=>by
    have e:b=it:=by simpa using hb
    subst e
    obtain ⟨o,e,c,d⟩:=st
    exact ⟨o,e,fun v z=>by rw [d] at z;cases z⟩
  keep:=fun i h h' st k=>st.at fun o e=>k it (by simp) o e
  item:=by
    intro X hP hw hK hc i pins s σ H E I hf st hg
    subst hP hw hK
    obtain ⟨xs,x,hq,hx⟩:=hg
    obtain ⟨its,rv,p,hz⟩:=I.list hq
    obtain ⟨u,hu,ru⟩:=rv.get hx
    obtain ⟨f0,f1,f2,f3,f4,f5⟩:=hf it (by simp)
    refine wpAny_pyNext_list_item st p.isList (x:=u) (by simpa using hu) fun h' st' sb=>?_
    have I1:Inv X pins σ H { s with heap:=h' }:=I.turned (t':=s.toks) (fun b o hb e=>(sb.2 b hb).trans e) f0 f1 f3 f4 f5
    obtain ⟨o,e,c,d⟩:=id st'
    exact ⟨u,rfl,go_of (s:={ s with heap:=h' }) e c d (by decide) ⟨x,H,I1,ru,⟨rfl,fun ys hy=>by rw [I.list_inj hy hq];exact hx⟩,st',fun b hb=>(hf b hb).1⟩⟩
  done:=by
    intro X hP hw hK hc i pins s σ H E I hf st hg
    subst hP hw hK
    obtain ⟨xs,hq,hx⟩:=hg
    obtain ⟨its,rv,p,hz⟩:=I.list hq
    obtain ⟨f0,f1,f2,f3,f4,f5⟩:=hf it (by simp)
    have hl:=rv.length
    exact wpAny_pyNext_list_end (I.ok.hd hc) st p.isList (by simp;lia) fun h' eb=>⟨rfl,I.turned (t':=s.toks) (fun b o hb e=>eb b o hb e) f0 f1 f3 f4 f5⟩
  self:=fun _ _ _ _ _ st h=>wpAny_pyIter_listiter st h
theorem turn_tuple {P:Program} {w:World} {K:PySem.W.Frag} {tg:Expr} (a it:Addr):Turn P w K tg (Itt K a) [it] it (fun i h=>h.IsTupleIter it a i) where
  mem:=by simp
  obj := fun i h st b hb=>by
    have e:b=it:=by simpa using hb
    subst e
    obtain ⟨o,e,c,d⟩:=st
    exact ⟨o,e,fun v z=>by rw [d] at z;cases z⟩
  keep:=fun i h h' st k=>st.at fun o e=>k it (by simp) o e
  item:=by
    intro X hP hw hK hc i pins s σ H E I hf st hg
    subst hP hw hK
    obtain ⟨xs,x,hq,hx⟩:=hg
    obtain ⟨its,rv,p,hz⟩:=I.tuple hq
    obtain ⟨u,hu,ru⟩:=rv.get hx
    obtain ⟨f0,f1,f2,f3,f4,f5⟩:=hf it (by simp)
    refine wpAny_pyNext_tuple_item st (show s.heap.IsTuple a its.toArray from p) (x:=u) (by simpa using hu) fun h' st' sb=>?_
    have I1:Inv X pins σ H { s with heap:=h' }:=I.turned (t':=s.toks) (fun b o hb e=>(sb.2 b hb).trans e) f0 f1 f3 f4 f5
    obtain ⟨o,e,c,d⟩:=id st'
    exact ⟨u,rfl,go_of (s:={ s with heap:=h' }) e c d (by decide) ⟨x,H,I1,ru,⟨rfl,fun ys hy=>by rw [I.tuple_inj hy hq];exact hx⟩,st',fun b hb=>(hf b hb).1⟩⟩
  done:=by
    intro X hP hw hK hc i pins s σ H E I hf st hg
    subst hP hw hK
    obtain ⟨xs,hq,hx⟩:=hg
    obtain ⟨its,rv,p,hz⟩:=I.tuple hq
    obtain ⟨f0,f1,f2,f3,f4,f5⟩:=hf it (by simp)
    have hl:=rv.length
    exact wpAny_pyNext_tuple_end (I.ok.hd hc) st (show s.heap.IsTuple a its.toArray from p) (by simp;lia) fun h' eb=>⟨rfl,I.turned (t':=s.toks) (fun b o hb e=>eb b o hb e) f0 f1 f3 f4 f5⟩
  self:=fun _ _ _ _ _ st h=>wpAny_pyIter_tupleiter st h
theorem turn_range {P:Program} {w:World} {K:PySem.W.Frag} {tg:Expr} (it:Addr) (lo:Int) (n:Nat):Turn P w K tg (Itr lo n) [it] it (fun i h=>IsRangeIter h it (lo + (i:Nat) * 1) ((n:Int) - (i:Nat)) 1) where
  mem:=by simp
  obj := fun i h st b hb=>by
    have e:b=it:=by simpa using hb
    subst e
    exact ⟨_,st,fun v z=>by
      have z':Data.fields _=Data.cell v:=z
      cases z'⟩
  keep:=fun i h h' st k=>k it (by simp) _ st
  item:=by
    intro X hP hw hK hc i pins s σ H E I hf st hg
    subst hP hw hK
    obtain ⟨f0,f1,f2,f3,f4,f5⟩:=hf it (by simp)
    have W:=Walks.range (prog:=X.prog) (w:=X.w) (I.ok.hd hc) it lo 1 n
    refine W.item i s _ _ hg st fun v h' tk hv st' kk=>?_
    obtain ⟨t,rfl⟩:=hv
    have I1:Inv X pins σ H { s with heap:=h',toks:=tk }:=I.turned (fun b o hb e=>kk b o (by simpa using hb) e) f0 f1 f3 f4 f5
    refine ⟨_,rfl,go_of (s:={ s with heap:=h',toks:=tk }) (n:="range_iterator") st' rfl rfl (by decide) ⟨.int (lo + i),H,I1,⟨t,?_⟩,⟨rfl,rfl⟩,st',fun b hb=>(hf b hb).1⟩⟩
    rw [Int.mul_one]
  done:=by
    intro X hP hw hK hc i pins s σ H E I hf st hg
    subst hP hw hK
    obtain ⟨f0,f1,f2,f3,f4,f5⟩:=hf it (by simp)
    exact wpAny_pyNext_range_end (I.ok.hd hc) st (by have:n<=i:=hg;lia) fun h' eb=>⟨rfl,I.turned (t':=s.toks) (fun b o hb e=>eb b o hb e) f0 f1 f3 f4 f5⟩
  self:=fun _ _ _ _ _ st h=>wpAny_pyIter_rangeiter st h
end L2
namespace L2
open PySem PySem.Spec PyProof.Rows
section
variable {X:Cx} {tg:Expr}
theorem range_it {pins:List (Addr × Obj)} {σ:St} {H:Hp} {s:Shared} {R:It->Hp->Prop} {E:Value->Shared->Prop} {lo hi:Int} {t u v:Tok} {tk:Nat} (I:Inv X pins σ H s) (h1:-(2 ^ 62)<=lo) (h2:lo < 2 ^ 62) (h3:-(2 ^ 62)<=hi) (h4:hi < 2 ^ 62)
    (q:R (Itr lo (hi - lo).toNat) H):wpAny (model X.prog X.w) X.A (pyIter (.ref s.heap.objs.size)) (PIE X pins σ tg R) E { s with heap:=s.heap.push { cls:=.type "range",data:=.fields #[.int lo t,.int hi u,.int 1 v] },toks:=tk }:=by
  refine wpAny_pyIter_range (IsRange.new ..) (small_one h1 h2 h3 h4) ?_
  have I1:Inv X pins σ H { s with heap:=s.heap.push { cls:=.type "range",data:=.fields #[.int lo t,.int hi u,.int 1 v] },toks:=tk }:=I.kept fun b o e=>Heap.get?_push_of_some _ e
  refine ⟨(s.heap.push { cls:=.type "range",data:=.fields #[.int lo t,.int hi u,.int 1 v] }).objs.size,[(s.heap.push { cls:=.type "range",data:=.fields #[.int lo t,.int hi u,.int 1 v] }).objs.size],_,_,H,rfl,
    I1.kept (t':=tk) fun b o e=>Heap.get?_push_of_some _ e,turn_range _ lo (hi - lo).toNat,?_,fun b hb=>?_,q⟩
  . have e1:lo + ((0:Nat):Int) * 1=lo:=by simp
    have e2:(((hi - lo).toNat:Nat):Int) - ((0:Nat):Int)=Builtin.Range.rangeSize lo hi 1:=by rw [rangeSize_one];split <;> lia
    show IsRangeIter _ _ (lo + ((0:Nat):Int) * 1) ((((hi - lo).toNat:Nat):Int) - ((0:Nat):Int)) 1
    rw [e1,e2]
    exact Heap.get?_push_size _ rfl
  . have e:b=(s.heap.push { cls:=.type "range",data:=.fields #[.int lo t,.int hi u,.int 1 v] }).objs.size:=by simpa using hb
    subst e
    exact I1.fpOk (Nat.le_refl _) (I1.hok.fresh (Nat.le_refl _))
noncomputable def tFor (wi:TI) (g:TG) (tb:TS):TS:=fun D σ H=>wi σ H fun J H1=>∃ W:Nat->Nat->St->Hp->Prop,(∃ m,W 0 m σ H1)/\∀ i m σ H,W i m σ H ->
  (J.stop i H/\D.nx σ H)\/(J.go i H/\∃ N:St->Hp->Prop,(∀ σ' H',N σ' H'->∃ m',m' < m/\W (i + 1) m' σ' H')/\∀ x H',J.yld i H x H'->g x σ H' fun σ2 H2=>tb { D with nx:=N,ct:=N,bk:=D.nx } σ2 H2)
noncomputable def pinsAt (fp:List Addr) (h:Heap):List (Addr × Obj):=fp.filterMap fun b=>(h.get? b).map fun o=>(b,o)
theorem mem_pinsAt {fp:List Addr} {h:Heap} {b:Addr} {o:Obj} (hb:b∈fp) (e:h.get? b=some o):(b,o)∈pinsAt fp h:=List.mem_filterMap.mpr ⟨b,hb,by rw [e];rfl⟩
theorem of_pinsAt {fp:List Addr} {h:Heap} {p:Addr × Obj} (hp:p∈pinsAt fp h):p.1∈fp/\h.get? p.1=some p.2:=by
  obtain ⟨b,hb,e⟩:=List.mem_filterMap.mp hp
  cases q:h.get? b with
  | none=>rw [q] at e;cases e
  | some o =>
    rw [q] at e
    have e':(b,o)=p:=Option.some.inj e
    subst e'
    exact ⟨hb,q⟩
theorem Inv.pinned {pins:List (Addr × Obj)} {σ:St} {H:Hp} {s:Shared} {fp:List Addr} (I:Inv X pins σ H s) (hf:∀ b∈fp,FpOk X pins H b) (ho:∀ b∈fp,∃ o,s.heap.get? b=some o/\∀ v,o.data≠.cell v):Inv X (pins++pinsAt fp s.heap) σ H s :=
  I.pins_of fun p hp=>(List.mem_append.mp hp).elim (fun z=>I.pin p (List.mem_append_right _ z)) fun z=>by
    obtain ⟨hb,e⟩:=of_pinsAt z
    obtain ⟨f0,f1,f2,_⟩:=hf p.1 hb
    obtain ⟨o,e',d⟩:=ho p.1 hb
    rw [e] at e';cases e'
    exact ⟨e,f0,f1,f2,d⟩
theorem Inv.unpinned {pins pl:List (Addr × Obj)} {σ:St} {H:Hp} {s:Shared} (I:Inv X (pins++pl) σ H s):Inv X pins σ H s:=I.pins_of fun p hp=>I.pin p (List.mem_append_right _ (List.mem_append_left _ hp))
theorem ps_for {iter:Expr} {body:List Stmt} {wi:TI} {g:TG} {tb:TS} {pos:Pos} (hp:PassesOwn (model X.prog X.w) X.A X.env X.xe) (hc:X.calm=true) (hi:PI X tg iter wi) (hg:PG X tg g) (hb:PSs X body tb)
    (hs:∀ x,foldedSetIterable iter X.env x=pure x:=by intro _;rfl):PS X (.For tg iter body [] pos) (tFor wi g tb):=by
  intro pins s σ H D I h
  refine wpAny_For (thn (hi pins s σ H _ I h) fun v s1 h1=>thn h1 fun itv s2 h2=>?_) hs
  obtain ⟨it,fp,tn,J,H2,e,I2,T,st2,f2,W,⟨m0,w0⟩,turn⟩:=h2
  subst e
  have stat:∀ {H':Hp},(∀ b∈fp,H' b=none)->∀ b∈fp,FpOk X pins H' b:=fun hn b hb=>⟨hn b hb,(f2 b hb).2⟩
  refine codeAny_forLoop_any (fun n s'=>∃ i σ' H',Inv X pins σ' H' s'/\tn i s'.heap/\(∀ b∈fp,H' b=none)/\W i n σ' H') ?_ m0 ⟨0,σ,H2,I2,st2,fun b hb=>(f2 b hb).1,w0⟩
  rintro n s3 ⟨i,σ3,H3,I3,st3,fr3,w3⟩
  rcases turn i n σ3 H3 w3 with ⟨stop,qn⟩ | ⟨go,N,hN,step⟩
  . refine wpAny_passesOwn hp (thn (T.done X rfl rfl rfl hc i pins s3 σ3 H3 X.xe I3 (stat fr3) st3 stop) fun r s4 h_q=>?_)
    obtain ⟨hr,I4⟩:=h_q
    subst hr
    exact wpAny_execs_nil ⟨σ3,H3,I4,qn⟩
  . refine wpAny_passesOwn hp (thn (T.item X rfl rfl rfl hc i pins s3 σ3 H3 X.xe I3 (stat fr3) st3 go) fun r s4 h_q=>?_)
    obtain ⟨u,hr,h4⟩:=h_q
    subst hr
    refine wpAny_passesOwn hp (thn h4 fun _ s5 h_q=>?_)
    obtain ⟨x,H5,I5,r5,y5,st5,fr5⟩:=h_q
    have I5':=I5.pinned (stat fr5) (T.obj _ _ st5)
    refine wpAny_passesOwn hp (thn (hg _ s5 σ3 H5 x u _ I5' r5 (step x H5 y5)) fun _ s6 h_q=>?_)
    obtain ⟨σ6,H6,I6,q6⟩:=h_q
    refine wpAny_passesOwn hp (thn (hb _ s6 σ6 H6 _ I6 q6) fun f s7 q7=>?_)
    have again:∀ {σ7:St} {H7:Hp},Inv X (pins++pinsAt fp s5.heap) σ7 H7 s7->N σ7 H7->∃ m,m < n/\∃ i σ' H',Inv X pins σ' H' s7/\tn i s7.heap/\(∀ b∈fp,H' b=none)/\W i m σ' H':=fun {σ7 H7} I7 n7=>by
      obtain ⟨m',hm,w7⟩:=hN σ7 H7 n7
      refine ⟨m',hm,i + 1,σ7,H7,I7.unpinned,T.keep _ _ _ st5 fun b hb o e=>(I7.pin (b,o) (List.mem_append_right _ (List.mem_append_right _ (mem_pinsAt hb e)))).1,fun b hb=>?_,w7⟩
      obtain ⟨o,e,d⟩:=T.obj _ _ st5 b hb
      exact (I7.pin (b,o) (List.mem_append_right _ (List.mem_append_right _ (mem_pinsAt hb e)))).2.1
    cases f with
    | next=>obtain ⟨σ7,H7,I7,n7⟩:=q7;exact again I7 n7
    | cont=>obtain ⟨σ7,H7,I7,n7⟩:=q7;exact again I7 n7
    | brk=>obtain ⟨σ7,H7,I7,q7⟩:=q7;exact ⟨σ7,H7,I7.unpinned,q7⟩
    | ret v=>obtain ⟨x7,σ7,H7,I7,r7,q7⟩:=q7;exact ⟨x7,σ7,H7,I7.unpinned,r7,q7⟩
end
end L2
namespace L2
open PySem PySem.Spec PyProof.Rows
noncomputable abbrev R2:=V->V->Hp->VK->Prop
noncomputable def OpR (X:Cx) (f:Value->Value->Sem Value) (r:R2):Prop :=
  ∀ (pins:List (Addr × Obj)) (s:Shared) (σ:St) (H:Hp) (x y:V) (v u:Value) (Q:VK),Inv X pins σ H s->RelV x v->RelV y u->r x y H Q ->
    wpAny (model X.prog X.w) X.A (f v u) (EP X pins σ Q) X.xe s
noncomputable def UnR (X:Cx) (f:Value->Sem Value) (r:V->Hp->VK->Prop):Prop :=
  ∀ (pins:List (Addr × Obj)) (s:Shared) (σ:St) (H:Hp) (x:V) (v:Value) (Q:VK),Inv X pins σ H s->RelV x v->r x H Q ->
    wpAny (model X.prog X.w) X.A (f v) (EP X pins σ Q) X.xe s
noncomputable def CallR (X:Cx) (f:Value) (r:List V->Hp->VK->Prop):Prop :=
  ∀ (pins:List (Addr × Obj)) (s:Shared) (σ:St) (H:Hp) (xs:List V) (us:List Value) (Q:VK),Inv X pins σ H s->Vals xs us->r xs H Q ->
    wpAny (model X.prog X.w) X.A (call f us) (EP X pins σ Q) X.xe s
noncomputable def tOp (r:R2) (ta tb:TE):TE:=fun σ H Q=>ta σ H fun x H1=>tb σ H1 fun y H2=>r x y H2 Q
noncomputable def tUn (r:V->Hp->VK->Prop) (ta:TE):TE:=fun σ H Q=>ta σ H fun x H1=>r x H1 Q
noncomputable def rI (C:Int->Int->Prop) (g:Int->Int->V):R2:=fun x y H Q=>∃ i j,x=.int i/\y=.int j/\C i j/\Q (g i j) H
noncomputable def rI0 (g:Int->Int->V):R2:=fun x y H Q=>∃ i j,x=.int i/\y=.int j/\Q (g i j) H
noncomputable def rU (g:Int->V):V->Hp->VK->Prop:=fun x H Q=>∃ i,x=.int i/\Q (g i) H
section
variable {X:Cx} {a b c:Expr} {ta tb tc:TE} {pos:Pos}
theorem binT (ha:PE X a ta) (hb:PE X b tb) {pins:List (Addr × Obj)} {s:Shared} {σ:St} {H:Hp} {R:V->V->Hp->Prop} (I:Inv X pins σ H s)
    (h:ta σ H fun x H1=>tb σ H1 fun y H2=>R x y H2) {Q:Value->Shared->Prop} {f:Value->Value->Sem Value}
    (hf:∀ v u s2 x y H2,Inv X pins σ H2 s2->RelV x v->RelV y u->R x y H2->wpAny (model X.prog X.w) X.A (f v u) Q X.xe s2) :
    wpAny (model X.prog X.w) X.A (eval a X.env) (fun v s₁=>wpAny (model X.prog X.w) X.A (eval b X.env) (fun u s₂=>wpAny (model X.prog X.w) X.A (f v u) Q X.xe s₂) X.xe s₁) X.xe s:=by
  refine thn (ha pins s σ H _ I h) fun v s1 h_q=>?_
  obtain ⟨x,H1,I1,r1,q1⟩:=h_q
  refine thn (hb pins s1 σ H1 _ I1 q1) fun u s2 h_q=>?_
  obtain ⟨y,H2,I2,r2,q2⟩:=h_q
  exact hf v u s2 x y H2 I2 r1 r2 q2
theorem pe_op {op:Operator} {r:R2} (ho:OpR X (binaryOp op) r) (ha:PE X a ta) (hb:PE X b tb):PE X (.BinOp a op b pos) (tOp r ta tb):=by
  intro pins s σ H Q I h
  exact wpAny_BinOp (binT ha hb I h fun v u s2 x y H2 I2 rx ry q=>ho pins s2 σ H2 x y v u Q I2 rx ry q)
theorem pe_un {op:UnaryOp} {r:V->Hp->VK->Prop} (ho:UnR X (unaryOp op) r) (ha:PE X a ta):PE X (.UnaryOp op a pos) (tUn r ta):=by
  intro pins s σ H Q I h
  exact UnaryOp_ (thn (ha pins s σ H _ I h) fun v s1 ⟨x,H1,I1,r1,q1⟩=>ho pins s1 σ H1 x v Q I1 r1 q1)
theorem opI {f:Value->Value->Sem Value} {C:Int->Int->Prop} {g:Int->Int->Int}
    (rule:∀ (i j:Int) (t u:Tok) (s:Shared) (Q:Value->Shared->Prop) (E:Value->Shared->Prop),C i j->Q (.int (g i j) s.toks) { s with toks:=s.toks + 1 }->wpAny (model X.prog X.w) X.A (f (.int i t) (.int j u)) Q E s) :
    OpR X f (rI C fun i j=>.int (g i j)):=by
  intro pins s σ H x y v u Q I rx ry h
  obtain ⟨i,j,rfl,rfl,hc,q⟩:=h
  obtain ⟨t,rfl⟩:=rx
  obtain ⟨t',rfl⟩:=ry
  exact rule i j t t' s _ _ hc ⟨.int (g i j),H,I.tok _,⟨_,rfl⟩,q⟩
theorem opI0 {f:Value->Value->Sem Value} {g:Int->Int->Int}
    (rule:∀ (i j:Int) (t u:Tok) (s:Shared) (Q:Value->Shared->Prop) (E:Value->Shared->Prop),Q (.int (g i j) s.toks) { s with toks:=s.toks + 1 }->wpAny (model X.prog X.w) X.A (f (.int i t) (.int j u)) Q E s) :
    OpR X f (rI0 fun i j=>.int (g i j)):=by
  intro pins s σ H x y v u Q I rx ry h
  obtain ⟨i,j,rfl,rfl,q⟩:=h
  obtain ⟨t,rfl⟩:=rx
  obtain ⟨t',rfl⟩:=ry
  exact rule i j t t' s _ _ ⟨.int (g i j),H,I.tok _,⟨_,rfl⟩,q⟩
theorem opB0 {f:Value->Value->Sem Value} {g:Int->Int->Bool}
    (rule:∀ (i j:Int) (t u:Tok) (s:Shared) (Q:Value->Shared->Prop) (E:Value->Shared->Prop),Q (.bool (g i j)) s->wpAny (model X.prog X.w) X.A (f (.int i t) (.int j u)) Q E s) :
    OpR X f (rI0 fun i j=>.bl (g i j)):=by
  intro pins s σ H x y v u Q I rx ry h
  obtain ⟨i,j,rfl,rfl,q⟩:=h
  obtain ⟨t,rfl⟩:=rx
  obtain ⟨t',rfl⟩:=ry
  exact rule i j t t' s _ _ ⟨.bl (g i j),H,I,rfl,q⟩
noncomputable def CDiv (i j:Int):Prop:=0 < j/\j < 1073741824
noncomputable def CPow (i j:Int):Prop:=0<=j/\j<=1000000/\i.natAbs < 2 ^ 64
noncomputable def CMul (i j:Int):Prop:=(-(2 ^ 64) < i/\i < 2 ^ 64)\/(-(2 ^ 64) < j/\j < 2 ^ 64)
theorem CMul.ok {i j:Int} (h:CMul i j):IntMulOk i j:=by
  rcases h with ⟨h1,h2⟩ | ⟨h1,h2⟩
  . exact .of_left (intBits_le_64 h1 h2)
  . exact .of_right (intBits_le_64 h1 h2)
theorem op_add:OpR X (binaryOp .Add) (rI0 fun i j=>.int (i + j)):=opI0 fun _ _ _ _ _ _ _ q=>add_int q
theorem op_sub:OpR X (binaryOp .Sub) (rI0 fun i j=>.int (i - j)):=opI0 fun _ _ _ _ _ _ _ q=>sub_int q
theorem op_fdiv:OpR X (binaryOp .FloorDiv) (rI CDiv fun i j=>.int (i / j)):=opI fun i j _ _ _ _ _ hc q=>by
  have h1:(0:Int) < j:=hc.1
  have h2:j < 1073741824:=hc.2
  exact floordiv_int (by lia) (by rw [Int.fdiv_eq_ediv_of_nonneg i (by lia)];exact q) (.inl (PyProof.noPylong_small (by lia)))
theorem op_mod:OpR X (binaryOp .Mod) (rI (fun _ j=>0 < j) fun i j=>.int (i % j)):=opI fun i j _ _ _ _ _ hc q=>by
  have h1:(0:Int) < j:=hc
  exact mod_int' (by lia) (by rw [Int.fmod_eq_emod_of_nonneg i (by lia)];exact q)
theorem op_pow:OpR X (binaryOp .Pow) (rI CPow fun i j=>.int (i ^ j.toNat)):=opI fun _ _ _ _ _ _ _ hc q=>pow_int_small hc.1 hc.2.1 hc.2.2 q
theorem unI {f:Value->Sem Value} {g:Int->Int}
    (rule:∀ (i:Int) (t:Tok) (s:Shared) (Q:Value->Shared->Prop) (E:Value->Shared->Prop),Q (.int (g i) s.toks) { s with toks:=s.toks + 1 }->wpAny (model X.prog X.w) X.A (f (.int i t)) Q E s) :
    UnR X f (rU fun i=>.int (g i)):=by
  intro pins s σ H x v Q I rx h
  obtain ⟨i,rfl,q⟩:=h
  obtain ⟨t,rfl⟩:=rx
  exact rule i t s _ _ ⟨.int (g i),H,I.tok _,⟨_,rfl⟩,q⟩
theorem un_neg:UnR X (unaryOp .USub) (rU fun i=>.int (-i)):=unI fun _ _ _ _ _ q=>neg_int q
end
noncomputable def scal:V->V->Bool
  | .non,.non=>true | .non,.int _=>true | .int _,.non=>true | .non,.bl _=>true | .bl _,.non=>true | .non,.str _=>true | .str _,.non=>true
  | .int _,.int _=>true | .bl _,.bl _=>true | .str _,.str _=>true | .byt _,.byt _=>true
  | .int _,.str _=>true | .str _,.int _=>true | .bl _,.str _=>true | .str _,.bl _=>true
  | _,_=>false
noncomputable def rEq:R2:=fun x y H Q=>scal x y=true/\Q (.bl (decide (x=y))) H
noncomputable def rNe:R2:=fun x y H Q=>scal x y=true/\Q (.bl (!decide (x=y))) H
theorem dec_int {i j:Int}:decide (V.int i=V.int j)=(i == j):=by
  rw [Bool.eq_iff_iff]
  simp
theorem dec_bl {i j:Bool}:decide (V.bl i=V.bl j)=(i == j):=by
  rw [Bool.eq_iff_iff]
  simp
theorem dec_str {i j:Str}:decide (V.str i=V.str j)=(i == j):=by
  rw [Bool.eq_iff_iff]
  simp
theorem dec_byt {i j:Array UInt8}:decide (V.byt i=V.byt j)=(i.toList == j.toList):=by
  rw [Bool.eq_iff_iff]
  cases i
  cases j
  simp
section
variable {X:Cx} {a b c:Expr} {ta tb tc:TE} {pos:Pos}
theorem fin_bl {pins:List (Addr × Obj)} {σ:St} {H:Hp} {s:Shared} {Q:VK} {k k':Bool} (I:Inv X pins σ H s) (q:Q (.bl k) H) (e:k=k'):EP X pins σ Q (.bool k') s:=by
  subst e
  exact ⟨.bl k,H,I,rfl,q⟩
theorem op_eq:OpR X (compareOp .Eq) rEq:=by
  intro pins s σ H x y v u Q I rx ry h
  obtain ⟨hs,q⟩:=h
  cases x with
  | non =>
    cases rx
    cases y with
    | non=>cases ry;exact PySem.EqNone.eq_none_none (fin_bl I q (by simp))
    | bl j=>cases ry;exact PySem.EqNone.eq_none_bool (fin_bl I q (by simp))
    | int j=>obtain ⟨t',rfl⟩:=ry;exact PySem.EqNone.eq_none_int (fin_bl I q (by simp))
    | str j=>obtain ⟨t',rfl⟩:=ry;exact PySem.EqNone.eq_none_str (fin_bl I q (by simp))
    | _=>exact absurd (show false=true from hs) Bool.false_ne_true
  | bl i =>
    cases rx
    cases y with
    | non=>cases ry;exact PySem.EqNone.eq_bool_none (fin_bl I q (by simp))
    | bl j=>cases ry;exact eq_bool (fin_bl I q dec_bl)
    | str j=>obtain ⟨t',rfl⟩:=ry;exact PySem.EqMixed.eq_bool_str (fin_bl I q (by simp))
    | _=>exact absurd (show false=true from hs) Bool.false_ne_true
  | int i =>
    obtain ⟨t,rfl⟩:=rx
    cases y with
    | non=>cases ry;exact PySem.EqNone.eq_int_none (fin_bl I q (by simp))
    | int j=>obtain ⟨t',rfl⟩:=ry;exact eq_int (fin_bl I q dec_int)
    | str j=>obtain ⟨t',rfl⟩:=ry;exact PySem.EqMixed.eq_int_str (fin_bl I q (by simp))
    | _=>exact absurd (show false=true from hs) Bool.false_ne_true
  | str i =>
    obtain ⟨t,rfl⟩:=rx
    cases y with
    | non=>cases ry;exact PySem.EqNone.eq_str_none (fin_bl I q (by simp))
    | bl j=>cases ry;exact PySem.EqMixed.eq_str_bool (fin_bl I q (by simp))
    | int j=>obtain ⟨t',rfl⟩:=ry;exact PySem.EqMixed.eq_str_int (fin_bl I q (by simp))
    | str j=>obtain ⟨t',rfl⟩:=ry;exact eq_str (fin_bl I q dec_str)
    | _=>exact absurd (show false=true from hs) Bool.false_ne_true
  | byt i =>
    obtain ⟨t,rfl⟩:=rx
    cases y with
    | byt j=>obtain ⟨t',rfl⟩:=ry;exact PySem.W.eq_bytes (fin_bl I q dec_byt)
    | _=>exact absurd (show false=true from hs) Bool.false_ne_true
  | _=>cases y <;> exact absurd (show false=true from hs) Bool.false_ne_true
theorem op_ne:OpR X (compareOp .NotEq) rNe:=by
  intro pins s σ H x y v u Q I rx ry h
  obtain ⟨hs,q⟩:=h
  cases x with
  | non =>
    cases rx
    cases y with
    | non=>cases ry;exact PySem.EqNone.ne_none_none (fin_bl I q (by simp))
    | bl j=>cases ry;exact PySem.EqNone.ne_none_bool (fin_bl I q (by simp))
    | int j=>obtain ⟨t',rfl⟩:=ry;exact PySem.EqNone.ne_none_int (fin_bl I q (by simp))
    | str j=>obtain ⟨t',rfl⟩:=ry;exact PySem.EqNone.ne_none_str (fin_bl I q (by simp))
    | _=>exact absurd (show false=true from hs) Bool.false_ne_true
  | bl i =>
    cases rx
    cases y with
    | non=>cases ry;exact PySem.EqNone.ne_bool_none (fin_bl I q (by simp))
    | bl j=>cases ry;exact ne_bool (fin_bl I q (congrArg not dec_bl))
    | str j=>obtain ⟨t',rfl⟩:=ry;exact PySem.EqMixed.ne_bool_str (fin_bl I q (by simp))
    | _=>exact absurd (show false=true from hs) Bool.false_ne_true
  | int i =>
    obtain ⟨t,rfl⟩:=rx
    cases y with
    | non=>cases ry;exact PySem.EqNone.ne_int_none (fin_bl I q (by simp))
    | int j=>obtain ⟨t',rfl⟩:=ry;exact ne_int (fin_bl I q (congrArg not dec_int))
    | str j=>obtain ⟨t',rfl⟩:=ry;exact PySem.EqMixed.ne_int_str (fin_bl I q (by simp))
    | _=>exact absurd (show false=true from hs) Bool.false_ne_true
  | str i =>
    obtain ⟨t,rfl⟩:=rx
    cases y with
    | non=>cases ry;exact PySem.EqNone.ne_str_none (fin_bl I q (by simp))
    | bl j=>cases ry;exact PySem.EqMixed.ne_str_bool (fin_bl I q (by simp))
    | int j=>obtain ⟨t',rfl⟩:=ry;exact PySem.EqMixed.ne_str_int (fin_bl I q (by simp))
    | str j=>obtain ⟨t',rfl⟩:=ry;exact ne_str (fin_bl I q (congrArg not dec_str))
    | _=>exact absurd (show false=true from hs) Bool.false_ne_true
  | byt i =>
    obtain ⟨t,rfl⟩:=rx
    cases y with
    | byt j=>obtain ⟨t',rfl⟩:=ry;exact PySem.W.ne_bytes (fin_bl I q (congrArg not dec_byt))
    | _=>exact absurd (show false=true from hs) Bool.false_ne_true
  | _=>cases y <;> exact absurd (show false=true from hs) Bool.false_ne_true
theorem op_lt:OpR X (compareOp .Lt) (rI0 fun i j=>.bl (decide (i < j))):=opB0 fun _ _ _ _ _ _ _ q=>lt_int q
theorem op_le:OpR X (compareOp .LtE) (rI0 fun i j=>.bl (decide (i<=j))):=opB0 fun _ _ _ _ _ _ _ q=>le_int q
theorem op_gt:OpR X (compareOp .Gt) (rI0 fun i j=>.bl (decide (j < i))):=opB0 fun _ _ _ _ _ _ _ q=>gt_int q
theorem op_ge:OpR X (compareOp .GtE) (rI0 fun i j=>.bl (decide (j<=i))):=opB0 fun _ _ _ _ _ _ _ q=>ge_int q
theorem op_lt_str:OpR X (compareOp .Lt) (fun x y H Q=>∃ i j,x=.str i/\y=.str j/\Q (.bl (decide (i.cps.toList < j.cps.toList))) H):=by
  intro pins s σ H x y v u Q I rx ry h
  obtain ⟨i,j,rfl,rfl,q⟩:=h
  obtain ⟨t,rfl⟩:=rx
  obtain ⟨t',rfl⟩:=ry
  exact lt_str (fin_bl I q rfl)
theorem op_in_str:OpR X (compareOp .In) (fun x y H Q=>∃ i j,x=.str i/\y=.str j/\Q (.bl (!(Builtin.Str.occurrences j i 0 j.length 1).isEmpty)) H):=by
  intro pins s σ H x y v u Q I rx ry h
  obtain ⟨i,j,rfl,rfl,q⟩:=h
  obtain ⟨t,rfl⟩:=rx
  obtain ⟨t',rfl⟩:=ry
  exact in_str (fin_bl I q rfl)
theorem op_isN:OpR X (compareOp .Is) (fun x y H Q=>y=.non/\Q (.bl (decide (x=.non))) H):=by
  intro pins s σ H x y v u Q I rx ry h
  obtain ⟨rfl,q⟩:=h
  cases ry
  refine is_none_gen (fin_bl I q ?_)
  cases x <;> first
    | (cases rx;rfl)
    | (obtain ⟨t,rfl⟩:=rx;rfl)
theorem op_notN:OpR X (compareOp .IsNot) (fun x y H Q=>y=.non/\Q (.bl (!decide (x=.non))) H):=by
  intro pins s σ H x y v u Q I rx ry h
  obtain ⟨rfl,q⟩:=h
  cases ry
  refine isnot_none_gen (fin_bl I q ?_)
  cases x <;> first
    | (cases rx;rfl)
    | (obtain ⟨t,rfl⟩:=rx;rfl)
theorem OpR.or {f:Value->Value->Sem Value} {r r':R2} (h:OpR X f r) (h':OpR X f r'):OpR X f (fun x y H Q=>r x y H Q\/r' x y H Q):=by
  intro pins s σ H x y v u Q I rx ry q
  rcases q with q | q
  . exact h pins s σ H x y v u Q I rx ry q
  . exact h' pins s σ H x y v u Q I rx ry q
theorem nomark (b:Expr) {op:CmpOp} (h:op≠.In:=by decide) (h2:op≠.NotIn:=by decide):behindInMarks op b=false:=by
  have e1:(op == CmpOp.In)=false:=by cases op <;> first | rfl | exact absurd rfl h
  have e2:(op == CmpOp.NotIn)=false:=by cases op <;> first | rfl | exact absurd rfl h2
  cases b <;> simp [behindInMarks,e1,e2]
theorem pe_cmpR {op:CmpOp} {r:R2} (ho:OpR X (compareOp op) r) (ha:PE X a ta) (hb:PE X b tb) (hm:behindInMarks op b=false):PE X (.Compare a [op] [b] pos) (tOp r ta tb):=by
  intro pins s σ H Q I h
  exact wpAny_Compare1 (binT ha hb I h fun v u s2 x y H2 I2 rx ry q=>ho pins s2 σ H2 x y v u Q I2 rx ry q) hm
noncomputable def tTest (t:TE):TT:=fun σ H Q=>t σ H fun x H'=>∃ k,x=.bl k/\Q k H'
theorem pt_cmpR {op:CmpOp} {r:R2} (ho:OpR X (compareOp op) r) (ha:PE X a ta) (hb:PE X b tb) (hm:behindInMarks op b=false):PT X (.Compare a [op] [b] pos) (tTest (tOp r ta tb)):=by
  intro pins s σ H Q I h
  refine wpAny_isTrue_Compare1 (thn (ha pins s σ H _ I h) fun v s1 ⟨x,H1,I1,r1,q1⟩=>thn (hb pins s1 σ H1 _ I1 q1) fun u s2 ⟨y,H2,I2,r2,q2⟩ =>
    thn (ho pins s2 σ H2 x y v u _ I2 r1 r2 q2) fun c s3 ⟨z,H3,I3,r3,k,e,q3⟩=>?_) hm
  subst e
  cases r3
  exact wpAny_truthy_bool ⟨H3,I3,q3⟩
noncomputable def tChain (r r':R2) (ta tb tc:TE):TE:=fun σ H Q=>ta σ H fun x H1=>tb σ H1 fun y H2=>r x y H2 fun z H3=>∃ k,z=.bl k /\
  (if k=true then tc σ H3 fun w' H4=>r' y w' H4 Q else Q (.bl false) H3)
theorem pt_chain {op op':CmpOp} {r r':R2} (ho:OpR X (compareOp op) r) (ho':OpR X (compareOp op') r') (ha:PE X a ta) (hb:PE X b tb) (hc:PE X c tc)
    (hm:lastMarks [op,op'] [b,c]=false:=by with_unfolding_all rfl):PT X (.Compare a [op,op'] [b,c] pos) (tTest (tChain r r' ta tb tc)):=by
  intro pins s σ H Q I h
  refine isTrue_chain (thn (ha pins s σ H _ I h) fun v s1 ⟨x,H1,I1,r1,q1⟩=>test_link (thn (hb pins s1 σ H1 _ I1 q1) fun u s2 ⟨y,H2,I2,r2,q2⟩ =>
    thn (ho pins s2 σ H2 x y v u _ I2 r1 r2 q2) fun d s3 ⟨z,H3,I3,r3,k,e,q3⟩=>?_)) hm
  subst e
  cases r3
  refine wpAny_truthy_bool ?_
  cases k with
  | false =>
    obtain ⟨k',e',q'⟩:=q3
    cases e'
    exact ite_ff ⟨H3,I3,q'⟩
  | true =>
    refine ite_tt (test_last (thn (hc pins s3 σ H3 _ I3 q3) fun w' s4 ⟨z',H4,I4,r4,q4⟩=>thn (ho' pins s4 σ H4 y z' u w' _ I4 r2 r4 q4) fun d' s5 h_q=>?_))
    obtain ⟨z2,H5,I5,r5,k2,e2,q5⟩:=h_q
    subst e2
    cases r5
    exact wpAny_truthy_bool ⟨H5,I5,q5⟩
theorem line63:(sizeLine:Nat) < 2 ^ 63:=by rw [sizeLine_eq];decide
theorem op_add_str:OpR X (binaryOp .Add) (fun x y H Q=>∃ i j,x=.str i/\y=.str j/\i.length + j.length<=sizeLine/\Q (.str (i++j)) H):=by
  intro pins s σ H x y v u Q I rx ry h
  obtain ⟨i,j,rfl,rfl,hz,q⟩:=h
  obtain ⟨t,rfl⟩:=rx
  obtain ⟨t',rfl⟩:=ry
  exact add_str (fun t' tk=>⟨.str (i++j),H,I.tok _,⟨_,rfl⟩,q⟩) hz
theorem vals1 {x:V} {us:List Value} (r:Vals [x] us):∃ u,us=[u]/\RelV x u:=by
  cases r with
  | cons r1 r2=>cases r2;exact ⟨_,rfl,r1⟩
theorem vals2 {x y:V} {us:List Value} (r:Vals [x,y] us):∃ u w',us=[u,w']/\RelV x u/\RelV y w':=by
  cases r with
  | cons r1 r2 =>
    cases r2 with
    | cons r3 r4=>cases r4;exact ⟨_,_,rfl,r1,r3⟩
theorem call_max2 (hc:X.calm=true):CallR X (.builtin "max") (fun xs H Q=>∃ i j,xs=[.int i,.int j]/\Q (.int (if j > i then j else i)) H):=by
  intro pins s σ H xs us Q I r h
  obtain ⟨i,j,rfl,q⟩:=h
  obtain ⟨u,w',rfl,⟨t,rfl⟩,⟨t',rfl⟩⟩:=vals2 r
  refine max_two_ints (I.ok.hd hc) fun h' tk k=>⟨_,H,I.kept k,?_,q⟩
  by_cases hj:j > i
  . rw [if_pos hj,if_pos hj];exact ⟨_,rfl⟩
  . rw [if_neg hj,if_neg hj];exact ⟨_,rfl⟩
theorem call_min2 (hc:X.calm=true):CallR X (.builtin "min") (fun xs H Q=>∃ i j,xs=[.int i,.int j]/\Q (.int (if j < i then j else i)) H):=by
  intro pins s σ H xs us Q I r h
  obtain ⟨i,j,rfl,q⟩:=h
  obtain ⟨u,w',rfl,⟨t,rfl⟩,⟨t',rfl⟩⟩:=vals2 r
  refine min_two_ints (I.ok.hd hc) fun h' tk k=>⟨_,H,I.kept k,?_,q⟩
  by_cases hj:j < i
  . rw [if_pos hj,if_pos hj];exact ⟨_,rfl⟩
  . rw [if_neg hj,if_neg hj];exact ⟨_,rfl⟩
theorem call_int1:CallR X (.type "int") (fun xs H Q=>(∃ i,xs=[.int i]/\Q (.int i) H)\/∃ k,xs=[.bl k]/\Q (.int (if k then 1 else 0)) H):=by
  intro pins s σ H xs us Q I r h
  rcases h with ⟨i,rfl,q⟩ | ⟨k,rfl,q⟩
  . obtain ⟨u,rfl,t,rfl⟩:=vals1 r
    exact call_int_int ⟨.int i,H,I,⟨_,rfl⟩,q⟩
  . obtain ⟨u,rfl,r1⟩:=vals1 r
    cases r1
    exact call_int_bool ⟨.int (if k then 1 else 0),H,I.tok _,⟨_,rfl⟩,q⟩
end
end L2
namespace L2
open PySem PySem.Spec PyProof.Rows
structure ObjM (h:Heap) (x dx C:Addr) (mA:Str->Option Value):Prop where
  obj:h.get? x=some (PySem.W.instObj C dx)
  ns:h.Ns1 dx mA
  ne:dx≠x
theorem lookIn_ns {h:Heap} {dx:Addr} {mA:Str->Option Value} (n:h.Ns1 dx mA):∃ od,h.get? dx=some od/\∀ name,PySem.W.lookIn name od=some (mA name):=by
  obtain ⟨o,es,ep,ho,hd,hk,_,hm⟩:=n
  refine ⟨o,ho,fun name=>?_⟩
  have e:=hm name
  unfold nsFind findBy at e
  rw [<- Array.find?_toList] at e
  unfold PySem.W.lookIn
  rw [hd]
  dsimp only
  split
  . rename_i y q
    rw [q] at e
    exact congrArg some e
  . rename_i q
    rw [q] at e
    have a:es.toList.any (·.refKey)=false:=by
      rw [List.any_eq_false]
      intro y hy
      obtain ⟨z,t,hkey⟩:=hk y (Array.mem_toList_iff.mp hy)
      simp [DictEntry.refKey,hkey]
    have a':¬ es.toList.any (·.refKey)=true:=by rw [a];exact Bool.false_ne_true
    rw [if_neg a']
    exact congrArg some e
theorem ObjM.look {h:Heap} {x dx C:Addr} {mA:Str->Option Value} (I:ObjM h x dx C mA):∃ od,PySem.W.InstAt h x (PySem.W.instObj C dx) C (some od)/\∀ name,PySem.W.lookIn name od=some (mA name) :=
  let ⟨od,ho,hl⟩:=lookIn_ns I.ns
  ⟨od,⟨I.obj,rfl,rfl,ho⟩,hl⟩
theorem RelO.some_of {v:V} {o:Option Value} (r:RelO (some v) o):∃ u,o=some u/\RelV v u:=by
  cases o with
  | none=>exact (show False from r).elim
  | some u=>exact ⟨u,rfl,r⟩
theorem handed_of {v:V} {u:Value} (r:RelV v u):PySem.W.handedIn u=true:=by
  cases v with
  | non=>cases (show u=Value.none from r);rfl
  | bl b=>cases (show u=Value.bool b from r);rfl
  | int i=>obtain ⟨t,e⟩:=(show ∃ t,u=Value.int i t from r);cases e;rfl
  | str x=>obtain ⟨t,e⟩:=(show ∃ t,u=Value.str x t from r);cases e;rfl
  | byt b=>obtain ⟨t,e⟩:=(show ∃ t,u=Value.bytes b t from r);cases e;rfl
  | flt b=>obtain ⟨t,e⟩:=(show ∃ t,u=Value.float b t from r);cases e;rfl
  | ref a=>cases (show u=Value.ref a from r);rfl
  | ty n=>cases (show u=Value.type n from r);rfl
section
variable {P:Program} {w:World} {H H':Hp} {h h':Heap} {a C dx:Addr} {fs fs':List (Str × V)}
theorem ins_get (hok:HOk P w H h) (e:H a=some (.ins C dx fs)):∃ mA,ObjM h a dx C mA/\(∀ f,RelO (fs.lookup f) (mA f))/\PySem.Within mA (fs.map (·.1))/\fs.length<=1000/\H dx=some (.own a):=by
  obtain ⟨d,z,ne,ob,mA,n,r,q⟩:=(show ObjOk P w H h a (.ins C dx fs) from hok a _ e)
  exact ⟨mA,⟨ob,n,ne⟩,r,q,z,d⟩
end
structure Cls (K:PySem.W.Frag) (C:Addr):Prop where
  pg:PySem.W.plainGet K C Str.empty=true
  hd:PySem.W.hasDictIn K C=true
  po:PySem.W.plainOver K C=true
  sa:PySem.W.findIn K (.ref C) "__setattr__"=some (some (.builtin "object.__setattr__"))
theorem Cls.get {K:PySem.W.Frag} {C:Addr} (c:Cls K C) (f:Str):PySem.W.plainGet K C f=true:=c.pg
noncomputable def NoAttr (K:PySem.W.Frag) (C:Addr) (f:Str):Prop:=PySem.W.findIn K (.ref C) f=some none
theorem NoAttr.taker {K:PySem.W.Frag} {C:Addr} {f:Str} (n:NoAttr K C f):PySem.W.takerIn K C f=some none:=by
  unfold PySem.W.takerIn
  rw [show PySem.W.findIn K (.ref C) f=some none from n]
  rfl
section
variable {X:Cx} {pins:List (Addr × Obj)} {σ:St} {H:Hp} {s:Shared} {a C dx:Addr} {fs:List (Str × V)} {f:Str} {v:V} {A:Around} {E:Value->Shared->Prop}
theorem attr_of {prog:Program} {w:World} {env:Env} {e:Expr} {f:Str} {pos:Pos} {s:Shared} {Q:Value->Shared->Prop} (hb:attributeBase e f env (eval e env)=eval e env)
    (h:wpAny (model prog w) A (eval e env) (fun o s₁=>wpAny (model prog w) A (getAttr o f true) Q E s₁) E s):wpAny (model prog w) A (eval (.Attribute e f pos) env) Q E s :=
  Attribute_any_ h (by rw [arm_eval_Attribute,hb])
end
section
variable {X:Cx} {pins:List (Addr × Obj)} {σ:St} {H:Hp} {s:Shared} {A:Around} {E:Value->Shared->Prop} {Q:Value->Shared->Prop} {c:Value} {b:Bool}
inductive TyOf (K:PySem.W.Frag) (H:Hp):V->Value->Prop where
  | non:TyOf K H .non (.type "NoneType")
  | bl (x:Bool):TyOf K H (.bl x) (.type "bool")
  | int (i:Int):TyOf K H (.int i) (.type "int")
  | str (x:Str):TyOf K H (.str x) (.type "str")
  | flt (x:UInt64):TyOf K H (.flt x) (.type "float")
  | lst {a:Addr} {xs:List V} (e:H a=some (.lst xs)):TyOf K H (.ref a) (.type "list")
  | frz {a:Addr} {o:Obj} {xs:List V} (e:H a=some (.frz o (.lst xs))):TyOf K H (.ref a) (.type "list")
  | tup {a:Addr} {xs:List V} (e:H a=some (.tup xs)):TyOf K H (.ref a) (.type "tuple")
  | dK {a:Addr} {kvs:List (Key × V)} (e:H a=some (.dK kvs)):TyOf K H (.ref a) (.type "dict")
  | dT {a:Addr} {kvs:List (List Key × V)} (e:H a=some (.dT kvs)):TyOf K H (.ref a) (.type "dict")
  | ins {a C dx:Addr} {fs:List (Str × V)} (e:H a=some (.ins C dx fs)) (cl:Cls K C) (ha:PySem.W.findIn K (.ref C) "__class__"=some (some (.builtin "object.__class__")))
      (hn:PySem.W.specialIn K (.builtin "object.__class__") "__get__"=some (some (.builtin "getset_descriptor.__get__"))) (htk:PySem.W.takesIn K (.builtin "object.__class__")=some true)
      (hm:PySem.W.mroIn K C (.type "object")=some true):TyOf K H (.ref a) (.ref C)
theorem isinst_ok {x:V} {u t:Value} (I:Inv X pins σ H s) (rx:RelV x u) (ty:TyOf X.K H x t) (e:PySem.W.kitOne X.K t c=some b) (h:∀ tk,Q (.bool b) { s with toks:=tk }) :
    wpAny (model X.prog X.w) A (call (.builtin "isinstance") [u,c]) Q E s:=by
  cases ty with
  | non=>cases (show u=Value.none from rx);exact PySem.W.kia_one PySem.W.kitx_none I.kIn True.intro e (fun z=>nomatch z) h
  | bl y=>cases (show u=Value.bool y from rx);exact PySem.W.kia_one PySem.W.kitx_bool I.kIn True.intro e (fun z=>nomatch z) h
  | int i=>obtain ⟨t,q⟩:=(show ∃ t,u=Value.int i t from rx);cases q;exact PySem.W.kia_one PySem.W.kitx_int I.kIn True.intro e (fun z=>nomatch z) h
  | str y=>obtain ⟨t,q⟩:=(show ∃ t,u=Value.str y t from rx);cases q;exact PySem.W.kia_one PySem.W.kitx_str I.kIn True.intro e (fun z=>nomatch z) h
  | flt y=>obtain ⟨t,q⟩:=(show ∃ t,u=Value.float y t from rx);cases q;exact PySem.W.kia_one PySem.W.kitx_float I.kIn True.intro e (fun z=>nomatch z) h
  | @lst a xs ea =>
    cases (show u=Value.ref a from rx)
    obtain ⟨_,_,n,_,h1⟩:=(show ObjOk X.prog X.w H s.heap a (.lst xs) from I.hok a _ ea)
    exact PySem.W.kia_one PySem.W.kitx_list I.kIn ⟨_,h1,rfl⟩ e (fun z=>nomatch z) h
  | @frz a ob xs ea =>
    cases (show u=Value.ref a from rx)
    obtain ⟨_,_,_,n,_,h1⟩:=(show ObjOk X.prog X.w H s.heap a (.frz ob (.lst xs)) from I.hok a _ ea)
    exact PySem.W.kia_one PySem.W.kitx_list I.kIn ⟨_,h1,rfl⟩ e (fun z=>nomatch z) h
  | @tup a xs ea =>
    cases (show u=Value.ref a from rx)
    obtain ⟨_,_,_,p⟩:=(show ObjOk X.prog X.w H s.heap a (.tup xs) from I.hok a _ ea)
    obtain ⟨o,h1,h2,_⟩:=p
    exact PySem.W.kia_one PySem.W.kitx_tuple I.kIn ⟨o,h1,h2⟩ e (fun z=>nomatch z) h
  | @dK a kvs ea =>
    cases (show u=Value.ref a from rx)
    obtain ⟨_,_,vs,_,p⟩:=(show ObjOk X.prog X.w H s.heap a (.dK kvs) from I.hok a _ ea)
    obtain ⟨o,es,ep,h1,h2,_⟩:=p
    exact PySem.W.kia_one PySem.W.kitx_dict I.kIn ⟨o,h1,h2.1⟩ e (fun z=>nomatch z) h
  | @dT a kvs ea =>
    cases (show u=Value.ref a from rx)
    obtain ⟨_,_,xs,_,o,es,ep,h1,h2,_⟩:=(show ObjOk X.prog X.w H s.heap a (.dT kvs) from I.hok a _ ea)
    exact PySem.W.kia_one PySem.W.kitx_dict I.kIn ⟨o,h1,h2.1⟩ e (fun z=>nomatch z) h
  | @ins a C dx fs ea cl ha hn htk hm =>
    cases (show u=Value.ref a from rx)
    obtain ⟨mA,O,_⟩:=ins_get I.hok ea
    obtain ⟨od,J,_⟩:=O.look
    exact PySem.W.kia_one (PySem.W.kitx_own (cl.get _) cl.hd ha hn htk hm) I.kIn J e (fun z=>nomatch z) h
end
end L2
namespace L2
open PySem PySem.Spec PyProof.Rows
structure Room (k:Nat) (A:Around):Prop where
  hd:A.handled=none
  dp:A.depth + 3 * k + 5 < recursionLimit
  un:A.units + 16 * k + 200 < cLine
theorem Room.mono {j k:Nat} {A:Around} (r:Room k A) (h:j<=k):Room j A:=⟨r.hd,by have:=r.dp;lia,by have:=r.un;lia⟩
theorem Room.deeper {k:Nat} {A:Around} (r:Room (k + 1) A) (env:Env):Room k (A.deeper env) :=
  ⟨r.hd,by have:=r.dp;show A.depth + 1 + 3 * k + 5 < _;lia,by have:=r.un;show A.units + 3 + 16 * k + 200 < _;lia⟩
theorem make_depth {A:Around} {C:Addr} {us:List Value} {kw:List (Str × Value)}:(A.under (.builtin "type.__call__" ⟨.ref C::us,kw⟩)).depth=A.depth + 1:=by
  first | rfl | simp [Around.under,Code.weight,Code.isCreation,Code.isGuard,Code.isCaller,Code.frames,Code.isFrame,guardIds]
theorem make_units {A:Around} {C:Addr} {us:List Value} {kw:List (Str × Value)}:(A.under (.builtin "type.__call__" ⟨.ref C::us,kw⟩)).units=A.units + 1:=by
  first | rfl | simp [Around.under,Code.cUnits,Code.frames,Code.isFrame]
theorem Room.make {k:Nat} {A:Around} (r:Room (k + 1) A) (C:Addr) (us:List Value) (kw:List (Str × Value)):Room k (A.under (.builtin "type.__call__" ⟨.ref C::us,kw⟩)) :=
  ⟨r.hd,by have:=r.dp;rw [make_depth];lia,by have:=r.un;rw [make_units];lia⟩
theorem Room.depth {k:Nat} {A:Around} (r:Room k A):A.depth < recursionLimit:=by have:=r.dp;lia
noncomputable def tNil:TA:=fun _ H Q=>Q [] H
noncomputable def tCons (ta:TE) (tr:TA):TA:=fun σ H Q=>ta σ H fun x H1=>tr σ H1 fun xs H2=>Q (x::xs) H2
section
variable {X:Cx} {e:Expr} {es:List Expr} {te:TE} {t:TA} {pos:Pos}
theorem pa_nil:PA X [] tNil:=fun _ _ _ _ H Q I h=>Calls.spliced_nil ⟨[],H,I,.nil,h⟩
theorem pa_cons (ha:PE X e te) (hr:PA X es t) (hs:starEach (e::es) X.env=(false,eval e X.env)::starEach es X.env:=by rfl):PA X (e::es) (tCons te t):=by
  intro pos pins s σ H Q I h
  rw [hs]
  show wpAny _ _ (spliced ((false,eval e X.env)::backTo pos (starEach es X.env))) _ _ s
  refine Calls.spliced_cons (thn (ha pins s σ H _ I h) fun u s1 h_q=>?_)
  obtain ⟨x,H1,I1,r1,q1⟩:=h_q
  exact thn (hr pos pins s1 σ H1 _ I1 q1) fun us s2 ⟨xs,H2,I2,r2,q2⟩=>⟨x::xs,H2,I2,.cons r1 r2,q2⟩
noncomputable def tTup (t:TA):TE:=fun σ H Q=>t σ H fun xs H1=>xs.length<=sizeLine/\∀ p,H1 p=none->Q (.ref p) (upd H1 p (.tup xs))
noncomputable def tLst (t:TA):TE:=fun σ H Q=>t σ H fun xs H1=>xs.length<=sizeLine/\∀ p,H1 p=none->Q (.ref p) (upd H1 p (.lst xs))
theorem pe_tup {x1} (h:PA X es t):PE X (.Tuple es x1 pos) (tTup t):=by
  intro pins s σ H Q I hq
  refine wpAny_Tuple_spliced (thn (h pos pins s σ H _ I hq) fun us s1 ⟨xs,H1,I1,r,z,q⟩=>⟨by rw [<- r.length];exact z,?_⟩)
  have hf:H1 s1.heap.objs.size=none:=I1.hok.fresh (Nat.le_refl _)
  refine ⟨.ref s1.heap.objs.size,upd H1 s1.heap.objs.size (.tup xs),I1.laid (t':=s1.toks) (fun b u e=>Heap.get?_push_of_some _ e) (Nat.le_refl _) ?_,rfl,q _ hf⟩
  exact ⟨z,us,r,⟨_,Heap.get?_push_size _ rfl,rfl,_,rfl⟩⟩
theorem pe_lst (h:PA X es t):PE X (.List es pos) (tLst t):=by
  intro pins s σ H Q I hq
  refine wpAny_List_spliced (thn (h pos pins s σ H _ I hq) fun us s1 ⟨xs,H1,I1,r,z,q⟩=>⟨by rw [<- r.length];exact z,?_⟩)
  have hf:H1 s1.heap.objs.size=none:=I1.hok.fresh (Nat.le_refl _)
  refine ⟨.ref s1.heap.objs.size,upd H1 s1.heap.objs.size (.lst xs),I1.laid (t':=s1.toks) (fun b u e=>Heap.get?_push_of_some _ e) (Nat.le_refl _) ?_,rfl,q _ hf⟩
  exact ⟨z,us,0,r,Heap.get?_push_size _ rfl⟩
end
noncomputable abbrev Sp:=List V->Hp->VK->XK->Prop
noncomputable abbrev CXT:=List Env->Hp->Shared->XK->Value->Shared->Prop
structure Env0 (P:Program) (w:World) (K:PySem.W.Frag) (mg:Str->Option Value) (base:Heap) (A:Around) (outer:List Env) (s:Shared) (H:Hp):Prop where
  frames:A.frames=some outer
  mod:Mod K mg base
  bs:∀ b o,base.get? b=some o->s.heap.get? b=some o/\H b=none
  bsz:base.objs.size<=s.heap.objs.size
  funs:s.heap.FunFrames base outer
  frf:∀ b∈frs outer,H b=none
  hok:HOk P w H s.heap
  bare:AllBare s.gens
noncomputable def CE (outer:List Env) (P:Program) (w:World) (H:Hp) (s:Shared) (Q:VK) (u:Value) (s':Shared):Prop :=
  ∃ v H',s'.os=s.os/\AllBare s'.gens/\Un (frs outer) [] H H' s.heap s'.heap/\HOk P w H' s'.heap/\RelV v u/\Q v H'
noncomputable def CR (CX:CXT) (outer:List Env) (P:Program) (w:World) (H:Hp) (s:Shared) (Q:VK) (E:XK) (r:Result) (s':Shared):Prop :=
  match r with
  | .ok (.ret u)=>CE outer P w H s Q u s'
  | .ok _=>False
  | .error e=>CX outer H s E e s'
structure FnOk (P:Program) (w:World) (K:PySem.W.Frag) (mg:Str->Option Value) (base:Heap) (CX:CXT) (k:Nat) (f:Addr) (fd:FuncData) (ps:List Str) (sp:Sp):Prop where
  len:∀ vs H Q E,sp vs H Q E->vs.length=ps.length
  run : ∀ (A:Around) (outer:List Env) (s:Shared) (H:Hp) (args:Args) (us:List Value) (vs:List V) (Q:VK) (E:XK),Room k A->Env0 P w K mg base A outer s H->BindsTo s fd args (ps.zip us)->Vals vs us->sp vs H Q E ->
    codeAny (model P w) A (.call (.ref f) args) (CR CX outer P w H s Q E) s
theorem FnOk.mono {P:Program} {w:World} {K:PySem.W.Frag} {mg:Str->Option Value} {base:Heap} {CX:CXT} {j k:Nat} {f:Addr} {fd:FuncData} {ps:List Str} {sp:Sp} (F:FnOk P w K mg base CX j f fd ps sp) (h:j<=k) :
    FnOk P w K mg base CX k f fd ps sp:=⟨F.len,fun A outer s H args us vs Q E hr=>F.run A outer s H args us vs Q E (hr.mono h)⟩
theorem Env0.make {P:Program} {w:World} {K:PySem.W.Frag} {mg:Str->Option Value} {base:Heap} {A:Around} {outer:List Env} {s:Shared} {H:Hp} (e:Env0 P w K mg base A outer s H) (C:Addr) (us:List Value) (kw:List (Str × Value)) :
    Env0 P w K mg base (A.under (.builtin "type.__call__" ⟨.ref C::us,kw⟩)) outer s H:=⟨by first | exact e.frames | (simpa [Around.under,Code.envs,Code.isFrame,pushEnvs] using e.frames),e.mod,e.bs,e.bsz,e.funs,e.frf,e.hok,e.bare⟩
section
variable {X:Cx} {pins:List (Addr × Obj)} {σ:St} {H:Hp} {s s':Shared}
theorem Inv.env0 (I:Inv X pins σ H s):Env0 X.prog X.w X.K X.mg X.base X.A X.stack s H :=
  ⟨I.ok.frames,I.ok.mod,I.bs,Nat.le_trans I.ok.bsz I.sz,I.stack,I.stkFree,I.hok,I.bare⟩
theorem Inv.after {Q:VK} {u:Value} (I:Inv X pins σ H s) (h:CE X.stack X.prog X.w H s Q u s'):EP X pins σ Q u s':=by
  obtain ⟨v,H',os,bare,un,hok,r,q⟩:=h
  obtain ⟨hh,g,d,t,os'⟩:=s'
  obtain rfl:os'=s.os:=os
  exact ⟨v,H',I.call (h':=hh) (g':=g) (d':=d) (t':=t) (ch:=[]) un hok bare (fun b z=>absurd z (by simp)),r,q⟩
end
noncomputable def tCall (sp:Sp) (dvs:List V) (E:XK) (t:TA):TE:=fun σ H Q=>t σ H fun vs H1=>sp (vs++dvs) H1 Q E
noncomputable def Binds (K:PySem.W.Frag) (fd:FuncData) (ps:List Str) (ds:List Value):Prop :=
  ∀ (s:Shared) (us:List Value),K.In s.heap->(us++ds).length=ps.length->BindsTo s fd ⟨us,[]⟩ (ps.zip (us++ds))
theorem Binds.all {K:PySem.W.Frag} {fd:FuncData} {ps:List Str} (h:∀ us:List Value,us.length=ps.length->bindArgs fd ⟨us,[]⟩=pure (ps.zip us)):Binds K fd ps []:=fun s us _ hl=>by
  rw [List.append_nil] at hl ⊢
  exact .of_eq (h us hl)
noncomputable def Passes (CX:CXT) (X:Cx) (E:XK):Prop:=∀ (pins:List (Addr × Obj)) (σ:St) (H:Hp) (s:Shared) (e:Value) (s':Shared),Inv X pins σ H s->CX X.stack H s E e s'->X.xe e s'
section
variable {X:Cx} {CX:CXT} {k:Nat} {f C:Addr} {fd:FuncData} {ps:List Str} {sp:Sp} {dvs:List V} {ds:List Value} {E:XK} {x m:Str} {p pos apos:Pos} {e o:Expr} {es:List Expr} {ta:TE} {t:TA}
theorem run_fn {pins:List (Addr × Obj)} {σ:St} {H:Hp} {s:Shared} {Q:VK} {us:List Value} {vs:List V} (F:FnOk X.prog X.w X.K X.mg X.base CX k f fd ps sp) (hr:Room k X.A) (hb:Binds X.K fd ps ds) (hd:Vals dvs ds) (hx:Passes CX X E)
    (I:Inv X pins σ H s) (r:Vals vs us) (h:sp (vs++dvs) H Q E):wpAny (model X.prog X.w) X.A (call (.ref f) us) (EP X pins σ Q) X.xe s:=by
  have r2:Vals (vs++dvs) (us++ds):=r.append hd
  have hl:(us++ds).length=ps.length:=by rw [<- r2.length];exact F.len _ _ _ _ h
  refine wpAny_call (codeAny_mono (F.run X.A X.stack s H ⟨us,[]⟩ (us++ds) (vs++dvs) Q E hr I.env0 (hb s us I.kIn hl) r2 h) fun r s' hq=>?_)
  cases r with
  | error e=>exact hx pins σ H s e s' I hq
  | ok fl =>
    cases fl with
    | ret u=>exact I.after hq
    | next=>exact False.elim hq
    | brk=>exact False.elim hq
    | cont=>exact False.elim hq
theorem pe_call (F:FnOk X.prog X.w X.K X.mg X.base CX k f fd ps sp) (hr:Room k X.A) (hg:Gl X x) (hm:X.mg x=some (.ref f)) (hk:PySem.W.keepIn X.K (.ref f)=true) (hb:Binds X.K fd ps ds) (hd:Vals dvs ds) (hx:Passes CX X E)
    (ha:PA X (e::es) t) (hdb:(x == ("__debug__":Str))=false:=by decide) (he:starEach (e::es) X.env=(false,eval e X.env)::starEach es X.env:=by rfl) (hpl:(backTo pos (starEach es X.env)).any (·.1)=false:=by rfl) :
    PE X (.Call (.Name x p) (e::es) [] pos) (tCall sp dvs E t):=by
  intro pins s σ H Q I h
  refine wpAny_Call_Name_kw (ld_glob I hg hm ?_ hdb)
  refine PySem.W.callWith_K (h₀:=X.base) I.ok.mod.kin hk (thn (ha pos pins s σ H _ I h) fun us s1 ⟨vs,H1,I1,r,q⟩=>⟨I1.kIn,?_⟩) he hpl
  exact run_fn F hr hb hd hx I1 r q
end
structure FnScope (N P:List Str) (sc:Scope):Prop where
  kind:sc.kind=.function
  co:sc.isCoroutine=false
  gen:sc.isGenerator=false
  nd:N.Nodup
  pre:N.take P.length=P
  par:∀ x∈P,sc.names.lookup x=some .local\/sc.names.lookup x=some .cell
  nofree:∀ y∈sc.names,y.2≠.free
theorem bindL_out {kindOf:Str->Option NameKind} {x:Str}:∀ {binds:List (Str × Value)} {m:Str->Option Value},(∀ v,(x,v) ∉ binds)->bindL kindOf binds m x=m x
  | [],_,_=>rfl
  | (n, v)::r,m,h=>by
    unfold bindL
    rw [bindL_out fun w hw=>h w (List.mem_cons_of_mem _ hw)]
    split
    . have:x≠n:=by rintro rfl;exact h v List.mem_cons_self
      simp [this]
    . rfl
theorem bindC_out {kindOf:Str->Option NameKind} {x:Str}:∀ {binds:List (Str × Value)} {m:Str->Option Value},(∀ v,(x,v) ∉ binds)->bindC kindOf binds m x=m x
  | [],_,_=>rfl
  | (n, v)::r,m,h=>by
    unfold bindC
    rw [bindC_out fun w hw=>h w (List.mem_cons_of_mem _ hw)]
    split
    . rfl
    . have:x≠n:=by rintro rfl;exact h v List.mem_cons_self
      simp [this]
theorem bindL_get {kindOf:Str->Option NameKind} {x:Str} {v:Value}:∀ {P:List Str} {vs:List Value} {i:Nat} {m:Str->Option Value},P.Nodup->P[i]? = some x->vs[i]? = some v->kindOf x=some .local ->
    bindL kindOf (P.zip vs) m x=some v
  | [],_,_,_,_,h,_,_=>by simp at h
  | _::_,[],_,_,_,_,h,_=>by simp at h
  | p :: P,w::vs,0,m,nd,h1,h2,hk=>by
    simp at h1 h2;subst h1;subst h2
    show bindL kindOf ((p,w)::P.zip vs) m p=_
    unfold bindL
    rw [bindL_out fun v hv=>(List.nodup_cons.mp nd).1 (List.of_mem_zip hv).1,if_pos hk]
    simp
  | p :: P,w::vs,i + 1,m,nd,h1,h2,hk=>by
    show bindL kindOf ((p,w)::P.zip vs) m x=_
    unfold bindL
    exact bindL_get (i:=i) (List.nodup_cons.mp nd).2 (by simpa using h1) (by simpa using h2) hk
theorem bindC_get {kindOf:Str->Option NameKind} {x:Str} {v:Value}:∀ {P:List Str} {vs:List Value} {i:Nat} {m:Str->Option Value},P.Nodup->P[i]? = some x->vs[i]? = some v->kindOf x≠some .local ->
    bindC kindOf (P.zip vs) m x=some v
  | [],_,_,_,_,h,_,_=>by simp at h
  | _::_,[],_,_,_,_,h,_=>by simp at h
  | p :: P,w::vs,0,m,nd,h1,h2,hk=>by
    simp at h1 h2;subst h1;subst h2
    show bindC kindOf ((p,w)::P.zip vs) m p=_
    unfold bindC
    rw [bindC_out fun v hv=>(List.nodup_cons.mp nd).1 (List.of_mem_zip hv).1,if_neg hk]
    simp
  | p :: P,w::vs,i + 1,m,nd,h1,h2,hk=>by
    show bindC kindOf ((p,w)::P.zip vs) m x=_
    unfold bindC
    exact bindC_get (i:=i) (List.nodup_cons.mp nd).2 (by simpa using h1) (by simpa using h2) hk
noncomputable def start (N:List Str) (vs:List V):St:=vs.map some++List.replicate (N.length - vs.length) none
noncomputable def cxOf (CX:CXT) (P:Program) (w:World) (K:PySem.W.Frag) (mg:Str->Option Value) (base:Heap) (N:List Str) (qual:Str) (scope:Scope) (f:Addr) (cd:Value) (A:Around) (outer:List Env) (s:Shared) (H:Hp) (E:XK):Cx where
  prog:=P
  w := w
  K := K
  mg:=mg
  base:=base
  A := A.deeper (envOfC qual scope s.heap.objs.size f cd)
  N := N
  s₀:=s
  H₀:=H
  env:=envOfC qual scope s.heap.objs.size f cd
  outer:=outer
  stack:=envOfC qual scope s.heap.objs.size f cd::outer
  ex:=[]
  calm:=true
  fn:=fun _=>true
  pn:=[]
  xe:=fun e s'=>wpAny (model P w) (A.deeper (envOfC qual scope s.heap.objs.size f cd)) (leaving (envOfC qual scope s.heap.objs.size f cd) e) (fun _ s''=>CX outer H s E e s'') (fun e' s''=>CX outer H s E e' s'') s'
theorem cell_has {sc:Scope} {n:Nat} {x:Str} (h:sc.names.lookup x=some .cell):∃ c,(cellsFrom n sc.names []).lookup x=some c:=by
  have q:=PySem.W.cellsFrom_some sc.names n [] (.inl h)
  exact Option.isSome_iff_exists.mp q
theorem inv_start {CX:CXT} {P:Program} {w:World} {K:PySem.W.Frag} {mg:Str->Option Value} {base:Heap} {N ps:List Str} {qual:Str} {scope:Scope} {f:Addr} {cd:Value} {A:Around} {outer:List Env} {s s1:Shared} {H:Hp} {E:XK} {us:List Value} {vs:List V}
    (S:FnScope N ps scope) (hd:A.handled=none) (e0:Env0 P w K mg base A outer s H) (hl:vs.length=ps.length) (r:Vals vs us)
    (x:InCallC s s.heap.objs.size (bindL (envOfC qual scope s.heap.objs.size f cd).kindOf (ps.zip us) fun _=>none) (cellsFrom (s.heap.objs.size + 1) scope.names []) (bindC (envOfC qual scope s.heap.objs.size f cd).kindOf (ps.zip us) fun _=>none) s1) :
    Inv (cxOf CX P w K mg base N qual scope f cd A outer s H E) [] (start N vs) H s1:=by
  have hpl:ps.length<=N.length:=by have:=congrArg List.length S.pre;rw [List.length_take] at this;lia
  obtain ⟨h1,tk,rfl,hk⟩:=x.done
  have noA:∀ b:Addr,b ∉ (cxOf CX P w K mg base N qual scope f cd A outer s H E).ex:=fun b z=>absurd (show b∈([]:List Addr) from z) (by simp)
  refine ⟨⟨e0.mod,S.kind,rfl,rfl,Nat.le_refl _,fun y z c h1 h2=>?_,fun y hy=>?_,fun y c _ h=>?_,fun _=>hd,Around.frames_deeper e0.frames,.inr ⟨rfl,rfl⟩,fun b z=>absurd z (noA b),e0.bs,e0.bsz,fun b _ _=>noA b,fun b z=>absurd z (noA b),e0.funs,e0.frf⟩,
    rfl,e0.bare,Un.kept hk,⟨_,x.toInCall.ns,fun i y v h1 h2 h3=>?_⟩,fun y c h=>⟨_,x.cell y c h⟩,e0.hok.fresh (Nat.le_refl _),fun y c h=>?_,fun p hp=>absurd (show p∈([]:List (Addr × Obj)) from hp) (by simp),e0.hok.kept hk,?_⟩
  . exact name_of_addr x.apart (PySem.mem_of_lookup h1) (PySem.mem_of_lookup h2)
  . have hy:scope.names.lookup y=some .cell\/scope.names.lookup y=some .free:=hy
    rcases hy with hy | hy
    . exact cell_has hy
    . exact absurd rfl (S.nofree _ (PySem.mem_of_lookup hy))
  . exact Nat.le_of_lt (x.above y c (PySem.mem_of_lookup h))
  . have hi:i < vs.length:=by
      unfold start at h2
      by_cases hi:i < vs.length
      . exact hi
      . rw [List.getElem?_append_right (by simpa using hi)] at h2
        rw [List.getElem?_replicate] at h2
        split at h2 <;> cases h2
    have ha:vs[i]? = some v:=by
      unfold start at h2
      rw [List.getElem?_append_left (by simpa using hi),List.getElem?_map] at h2
      cases e:vs[i]? with
      | none=>rw [e] at h2;cases h2
      | some a=>rw [e] at h2;cases h2;rfl
    obtain ⟨u,hu,rv⟩:=r.get ha
    have hp:ps[i]? = some y:=by
      rw [<- S.pre,List.getElem?_take_of_lt (by lia)];exact h1
    have ndP:ps.Nodup:=by rw [<- S.pre];exact S.nd.sublist (List.take_sublist _ _)
    refine ⟨u,rv,?_⟩
    rcases S.par y (List.mem_of_getElem? hp) with k | k
    . exact .inl ⟨k,bindL_get ndP hp hu k⟩
    . obtain ⟨c,e⟩:=cell_has (n:=s.heap.objs.size + 1) k
      refine .inr ⟨.inl k,c,e,?_⟩
      have q:=x.cell y c e
      rw [bindC_get ndP hp hu (by show scope.names.lookup y≠_;rw [k];decide)] at q
      exact q
  . exact e0.hok.fresh (Nat.le_of_lt (x.above y c (PySem.mem_of_lookup h)))
  . unfold start
    show _=N.length
    rw [List.length_append,List.length_map,List.length_replicate]
    lia
theorem fn_of {CX:CXT} {P:Program} {w:World} {K:PySem.W.Frag} {mg:Str->Option Value} {base:Heap} {k:Nat} {f:Addr} {name qual:Str} {params:Arguments} {body:List Stmt} {scope:Scope} {dV kV doc pm cdv ct oc:Value} {an od:Option Addr}
    {osl:Array (Option Value)} {N ps:List Str} {sp:Sp} (lk:K.lookup f=some ⟨oc,od,.func (PySem.W.fnOf name qual params body scope dV kV doc pm an cdv ct),osl⟩) (hcd:PySem.W.codeIn K cdv qual=true) (S:FnScope N ps scope)
    (len:∀ vs H Q E,sp vs H Q E->vs.length=ps.length)
    (hbody:∀ (A:Around) (outer:List Env) (s:Shared) (H:Hp) (vs:List V) (Q:VK) (E:XK),Room k (A.deeper (envOfC qual scope s.heap.objs.size f cdv))->sp vs H Q E ->
      ∃ t,PSs (cxOf CX P w K mg base N qual scope f cdv A outer s H E) body t/\t { nx:=fun _ H'=>Q .non H',rt:=Q } (start N vs) H) :
    FnOk P w K mg base CX (k + 1) f (PySem.W.fnOf name qual params body scope dV kV doc pm an cdv ct) ps sp:=by
  refine ⟨len,fun A outer s H args us vs Q E hr e0 hb r hsp=>?_⟩
  have hl:=len _ _ _ _ hsp
  have KX:K.In s.heap:=e0.mod.kin.keeps fun b o e=>(e0.bs b o e).1
  have lim:s.heap.NoLimit:=e0.mod.nolimit.keeps fun b o e=>(e0.bs b o e).1
  have hkind:∀ y∈ps.zip us,scope.names.lookup y.1=some .local\/(scope.names.lookup y.1=some .cell/\((cellsFrom (s.heap.objs.size + 1) scope.names []).lookup y.1).isSome=true):=fun hq0 hy=>by
    obtain ⟨n,v⟩:=hq0
    rcases S.par n (List.of_mem_zip hy).1 with q | q
    . exact .inl q
    . exact .inr ⟨q,PySem.W.cellsFrom_some _ _ _ (.inl q)⟩
  refine codeAny_call_function hr.depth (KX _ _ lk) rfl S.co S.gen rfl (PySem.W.codeRec_of KX hcd) (hb _ _ _ _ ?_)
  refine wpAny_newFunctionEnv_cells S.kind hkind fun env he s1 x=>?_
  subst he
  refine ⟨lim.keeps x.toInCall.keep,codeAny_func ?_⟩
  obtain ⟨t,ht,hq⟩:=hbody A outer s H vs Q E (hr.deeper _) hsp
  have I:Inv (cxOf CX P w K mg base N qual scope f cdv A outer s H E) [] (start N vs) H s1:=inv_start S hr.hd e0 hl r x
  refine wpAny_mono (ht [] s1 (start N vs) H _ I hq) (fun fl s' hs=>?_) fun e s' hs=>hs
  have fin:∀ {σ':St} {H':Hp} {v:V} {u:Value},Inv (cxOf CX P w K mg base N qual scope f cdv A outer s H E) [] σ' H' s'->RelV v u->Q v H'->CE outer P w H s Q u s' :=
    fun {σ' H' v u} J rv q=>⟨v,H',J.os,J.bare,J.base,J.hok,rv,q⟩
  cases fl with
  | ret u =>
    obtain ⟨v,σ',H',J,rv,q⟩:=hs
    exact fin J rv q
  | next =>
    obtain ⟨σ',H',J,q⟩:=hs
    exact fin (v:=V.non) (u:=Value.none) J rfl q
  | brk =>
    obtain ⟨_,_,_,q⟩:=hs
    exact False.elim q
  | cont =>
    obtain ⟨_,_,_,q⟩:=hs
    exact False.elim q
end L2
namespace L2
open PySem PySem.Spec PyProof.Rows
section
variable {X:Cx} {x:Str} {p pos:Pos} {e:Expr} {es:List Expr} {t:TA} {id T:String} {r:List V->Hp->VK->Prop}
noncomputable def tCB (r:List V->Hp->VK->Prop) (t:TA):TE:=fun σ H Q=>t σ H fun vs H1=>r vs H1 Q
theorem pe_callB (hc:CallR X (.builtin id) r) (hg:Gl X x) (hm:X.mg x=none) (hv:bootBuiltins x=some (.builtin id)) (ha:PA X (e::es) t) (hn:x≠"__name__":=by decide) (hdb:(x == ("__debug__":Str))=false:=by decide)
    (he:starEach (e::es) X.env=(false,eval e X.env)::starEach es X.env:=by rfl) (hpl:(backTo pos (starEach es X.env)).any (·.1)=false:=by rfl):PE X (.Call (.Name x p) (e::es) [] pos) (tCB r t):=by
  intro pins s σ H Q I h
  refine wpAny_Call_Name_kw (ld_blt I hg hm hv ?_ hn hdb)
  exact PyProof.Rows.callWith_builtin1 (thn (ha pos pins s σ H _ I h) fun us s1 ⟨vs,H1,I1,r1,q1⟩=>hc pins s1 σ H1 vs us Q I1 r1 q1) he hpl
theorem pe_callTy (hc:CallR X (.type T) r) (hg:Gl X x) (hm:X.mg x=none) (hv:bootBuiltins x=some (.type T)) (ha:PA X (e::es) t) (hn:x≠"__name__":=by decide) (hdb:(x == ("__debug__":Str))=false:=by decide)
    (he:starEach (e::es) X.env=(false,eval e X.env)::starEach es X.env:=by rfl) (hpl:(backTo pos (starEach es X.env)).any (·.1)=false:=by rfl):PE X (.Call (.Name x p) (e::es) [] pos) (tCB r t):=by
  intro pins s σ H Q I h
  refine wpAny_Call_Name_kw (ld_blt I hg hm hv ?_ hn hdb)
  exact PyProof.Rows.callWith_type1 (thn (ha pos pins s σ H _ I h) fun us s1 ⟨vs,H1,I1,r1,q1⟩=>hc pins s1 σ H1 vs us Q I1 r1 q1) he hpl
end
end L2
namespace HT
open PySem PyProof.Rows
theorem rcLt_int (A:Around) (s:Shared) (a:Int) (t:Tok) (c:Int) (u:Tok) (prog:Program) (w:World) (E:Value->Shared->Prop) (Q:Value->Shared->Prop) (h:Q (.bool (decide (a < c))) s) :
    wpAny (model prog w) A (richCompare .Lt (.int a t) (.int c u)) Q E s :=
  (PyProof.Rows.lt_int h:wpAny (model prog w) A (compareOp .Lt (.int a t) (.int c u)) Q E s)
section
variable {prog:Program} {w:World} {A:Around} {E:Value->Shared->Prop} {s:Shared}
theorem cat_tup {t b:Addr} {vs ws:List Value} {Q:Value->Shared->Prop} (ht:IsTup s.heap t vs.toArray) (hb:IsTup s.heap b ws.toArray) (hv:vs≠[])
    (h1:ws=[]->Q (.ref t) s) (h2:ws≠[]->Q (.ref s.heap.objs.size) { s with heap:=s.heap.push { cls:=.type "tuple",data:=.seq (vs++ws).toArray } })
    (hsz:vs.length + ws.length<=sizeLine):wpAny (model prog w) A (binaryOp .Add (.ref t) (.ref b)) Q E s:=by
  obtain ⟨⟨cls,dd,data,sl⟩,ho,hc,n,hd⟩:=id ht
  obtain ⟨⟨cls2,dd2,data2,sl2⟩,ho2,hc2,n2,hd2⟩:=id hb
  simp only at hc hd hc2 hd2
  subst hc hd hc2 hd2
  have e:vs.toArray++ws.toArray=(vs++ws).toArray:=by simp
  by_cases hw:ws=[]
  . exact concat_meets ⟨_,ho,rfl⟩ ⟨_,ho2,rfl⟩ noFill_tuple_add seq_tuple_add PySem.F.slot_tuple_add PySem.F.entry_tuple_add (PySem.F.args_tuple_add_2 _ _)
      (tuple_addW1 t b vs.toArray ws.toArray n n2 dd dd2 sl sl2 (by simpa using hv) (by simp [hw])) ⟨ho,ho2,h1 hw⟩
  . refine concat_meets ⟨_,ho,rfl⟩ ⟨_,ho2,rfl⟩ noFill_tuple_add seq_tuple_add PySem.F.slot_tuple_add PySem.F.entry_tuple_add (PySem.F.args_tuple_add_2 _ _)
      (tuple_addW2 t b vs.toArray ws.toArray n n2 dd dd2 sl sl2 (by simpa using hv) (by simpa using hw) (by rw [List.size_toArray,List.size_toArray];exact hsz)) ⟨ho,ho2,?_⟩
    rw [e]
    exact h2 hw
noncomputable def sIx (n d:Nat):Option Int->Nat
  | none=>d
  | some v=>if v < 0 then (v + (n:Int)).toNat else min v.toNat n
theorem sIx_none (n d:Nat):sIx n d none=d:=rfl
theorem sIx_nat (n d k:Nat):sIx n d (some (k:Int))=min k n:=by
  show (if (k:Int) < 0 then ((k:Int) + (n:Int)).toNat else min (k:Int).toNat n)=min k n
  rw [if_neg (by lia),Int.toNat_natCast]
theorem sIx_le (n d:Nat) (hd:d<=n) (o:Option Int):sIx n d o<=n:=by
  cases o with
  | none=>exact hd
  | some v =>
    show (if v < 0 then (v + (n:Int)).toNat else min v.toNat n)<=n
    by_cases hv:v < 0
    . rw [if_pos hv];lia
    . rw [if_neg hv];exact Nat.min_le_right _ _
theorem clip_eq (v:Int) (n d:Nat):(if v < 0 then max (v + (n:Int)) 0 else min v (n:Int))=((sIx n d (some v):Nat):Int):=by
  show (if v < 0 then max (v + (n:Int)) 0 else min v (n:Int))=(((if v < 0 then (v + (n:Int)).toNat else min v.toNat n):Nat):Int)
  by_cases hv:v < 0
  . simp only [if_pos hv];lia
  . simp only [if_neg hv];lia
theorem adjust_gen (lo hi:Option Int) (n:Nat):Builtin.Slice.sliceAdjust lo hi 1 (n:Int)=(((sIx n 0 lo:Nat):Int),((sIx n n hi:Nat):Int)):=by
  have h1:¬ ((1:Int) < 0):=by lia
  unfold Builtin.Slice.sliceAdjust
  simp only [h1,if_false]
  refine Prod.ext ?_ ?_
  . cases lo with
    | none=>rfl
    | some v=>exact clip_eq v n 0
  . cases hi with
    | none=>rfl
    | some v=>exact clip_eq v n n
theorem places_gen (i j:Nat):Builtin.Slice.slicePlaces (i:Int) (j:Int) 1=j - i:=by
  unfold Builtin.Slice.slicePlaces
  have h1:(1:Int) > 0:=by lia
  simp only [h1,if_true,Int.ediv_one]
  split <;> lia
theorem slicePart_ {v:Value} {o:Option Int} {Q:Option Int->Shared->Prop} (p:IsPart v o) (h:Q o s):wpAny (model prog w) A (Builtin.Slice.slicePartIndex v) Q E s:=by
  cases p with
  | none=>exact slicePart_none h
  | int i t=>exact slicePart_int h
theorem sliceApplied_gen {sl:Addr} {vl vu:Value} {lo hi:Option Int} {n:Nat} {Q:Int × Int × Nat->Shared->Prop} (hs:s.heap.IsSliceOf sl vl vu .none) (pl:IsPart vl lo) (pu:IsPart vu hi)
    (h:Q (((sIx n 0 lo:Nat):Int),1,sIx n n hi - sIx n 0 lo) s):wpAny (model prog w) A (Builtin.Slice.sliceApplied (.ref sl) (pure (n:Int))) Q E s:=by
  obtain ⟨os,hos,hcs,hds⟩:=id hs
  unfold Builtin.Slice.sliceApplied Builtin.Slice.sliceFields
  refine wpAny_bind (wpAny_bind (wpAny_field hos hds (x:=vl) rfl (wpAny_bind (wpAny_field hos hds (x:=vu) rfl (wpAny_bind (wpAny_field hos hds (x:=.none) rfl (wpAny_pure ?_)))))))
  refine wpAny_bind (slicePart_none ?_)
  show wpAny _ _ (if ((1:Int) == 0)=true then _ else _) _ _ s
  rw [if_neg (by decide)]
  refine wpAny_bind (slicePart_ pl (wpAny_bind (slicePart_ pu (wpAny_bind (wpAny_pure ?_)))))
  show wpAny _ _ (match Builtin.Slice.sliceAdjust lo hi 1 (n:Int) with | (lo,hi)=>pure (lo,(1:Int),Builtin.Slice.slicePlaces lo hi 1)) _ _ s
  rw [adjust_gen lo hi n]
  show wpAny _ _ (pure (((sIx n 0 lo:Nat):Int),(1:Int),Builtin.Slice.slicePlaces ((sIx n 0 lo:Nat):Int) ((sIx n n hi:Nat):Int) 1)) _ _ s
  rw [places_gen]
  exact wpAny_pure h
theorem pick_gen (xs:Array Value) (i k:Nat):((List.range k).filterMap fun (m:Nat)=>xs[((i:Int) + (m:Int) * 1).toNat]?).toArray=((xs.toList.drop i).take k).toArray:=by
  have e:(fun (m:Nat)=>xs[((i:Int) + (m:Int) * 1).toNat]?)=fun m=>xs[i + m]?:=by
    funext m
    have:((i:Int) + (m:Int) * 1).toNat=i + m:=by lia
    rw [this]
  rw [e]
  have:=pick_run xs i k
  rw [List.filterMap_map] at this
  have e2:((fun x=>xs[x]?) ∘ fun x=>i + x)=fun m=>xs[i + m]?:=rfl
  rw [e2] at this
  rw [this]
theorem getItem_tuple_cut {t sl:Addr} {items:Array Value} {vl vu:Value} {lo hi:Option Int} {Q:Value->Shared->Prop} (ht:IsTup s.heap t items) (hs:s.heap.IsSliceOf sl vl vu .none) (pl:IsPart vl lo) (pu:IsPart vu hi)
    (hw:¬ (sIx items.size 0 lo=0/\sIx items.size items.size hi=items.size))
    (h:Q (.ref s.heap.objs.size) { s with heap:=s.heap.push { cls:=.type "tuple",data:=.seq ((items.toList.drop (sIx items.size 0 lo)).take (sIx items.size items.size hi - sIx items.size 0 lo)).toArray } })
    (hsz:items.size<=sizeLine):wpAny (model prog w) A (getItem (.ref t) (.ref sl)) Q E s:=by
  have htake:sizeOk (.seq ((items.toList.drop (sIx items.size 0 lo)).take (sIx items.size items.size hi - sIx items.size 0 lo)).toArray):=by
    show ((items.toList.drop (sIx items.size 0 lo)).take (sIx items.size items.size hi - sIx items.size 0 lo)).toArray.size<=sizeLine
    rw [List.size_toArray,List.length_take,List.length_drop,Array.length_toList]
    lia
  have hj:sIx items.size items.size hi<=items.size:=sIx_le _ _ (Nat.le_refl _) hi
  obtain ⟨os,hos,hcs,hds⟩:=id hs
  have hTs:s.TypeIs (.ref sl) "slice":=⟨os,hos,hcs⟩
  unfold getItem
  try with_reducible refine wpAny_holding ?_
  first | refine wpAny_bind (wpAny_pure ?_) | skip
  refine wpAny_bind (wpAny_sequenceKey ht.typeIs (by decide) ?_)
  refine wpAny_bind (wpAny_callSpecial?_slot (name:=Str.ofString "__getitem__") ht.typeIs PyProof.Rows.slot_tuple_getitem
    (wpAny_call_entry PyProof.Rows.slot_tuple_getitem ht.typeIs entry_tuple_getitem ?_ (args_tuple_getitem _ _)))
  show wpAny _ _ (Builtin.Tuple.tupleItemsOf (.ref t) >>= _) _ _ s
  refine wpAny_bind (tupleItemsOf_ ht ?_)
  refine wpAny_bind (wpAny_typeOf hTs ?_)
  rw [if_pos (by decide)]
  refine wpAny_bind (sliceApplied_gen hs pl pu ?_)
  have hno:¬ ((((sIx items.size 0 lo:Nat):Int) == 0 && (1:Int) == 1 && (sIx items.size items.size hi - sIx items.size 0 lo) == items.size)=true):=by
    intro q
    rw [Bool.and_eq_true,Bool.and_eq_true] at q
    have q1:((sIx items.size 0 lo:Nat):Int)=0:=eq_of_beq q.1.1
    have q2:sIx items.size items.size hi - sIx items.size 0 lo=items.size:=eq_of_beq q.2
    exact hw ⟨by lia,by lia⟩
  show wpAny _ _ (if (((sIx items.size 0 lo:Nat):Int) == 0 && (1:Int) == 1 && (sIx items.size items.size hi - sIx items.size 0 lo) == items.size)=true then _ else _) _ _ s
  rw [if_neg hno,pick_gen]
  first
    | exact wpAny_bind (m:=Builtin.Tuple.tupleExact _) (wpAny_newObj_type (wpAny_pure ⟨_,rfl,wpAny_pure h⟩) htake)
    | exact wpAny_bind (m:=Builtin.Tuple.tupleExact _) (wpAny_newObj_type (wpAny_bind (wpAny_pure (wpAny_pure ⟨_,rfl,wpAny_pure h⟩))) htake)
    | exact wpAny_bind (wpAny_bind (m:=Builtin.Tuple.tupleExact _) (wpAny_newObj_type (wpAny_pure (wpAny_pure ⟨_,rfl,wpAny_pure h⟩)) htake))
    | exact wpAny_bind (wpAny_bind (m:=Builtin.Tuple.tupleExact _) (wpAny_newObj_type (wpAny_pure ⟨_,rfl,wpAny_pure h⟩) htake))
end
end HT
namespace L2
open PySem PySem.Spec PyProof.Rows
noncomputable abbrev TO:=St->Hp->(Option Int->Hp->Prop)->Prop
noncomputable def PO (X:Cx) (e:Option Expr) (t:TO):Prop :=
  ∀ (pins:List (Addr × Obj)) (s:Shared) (σ:St) (H:Hp) (Q:Option Int->Hp->Prop),Inv X pins σ H s->t σ H Q ->
    wpAny (model X.prog X.w) X.A (evalPart e X.env) (fun u s'=>∃ o H',Inv X pins σ H' s'/\IsPart u o/\Q o H') X.xe s
noncomputable def tNoPart:TO:=fun _ H Q=>Q none H
noncomputable def tPart (t:TE):TO:=fun σ H Q=>t σ H fun x H1=>∃ i,x=.int i/\Q (some i) H1
section
variable {X:Cx} {e:Expr} {te:TE} {lo hi:Option Expr} {tl th:TO} {pos p2:Pos}
theorem po_none:PO X none tNoPart:=by
  intro pins s σ H Q I h
  rw [evalPart_none]
  exact wpAny_pure ⟨none,H,I,.none,h⟩
theorem po_some (h:PE X e te):PO X (some e) (tPart te):=by
  intro pins s σ H Q I hw
  rw [evalPart_some]
  refine thn (h pins s σ H _ I hw) fun u s1 h_q=>?_
  obtain ⟨x,H1,I1,r1,q1⟩:=h_q
  obtain ⟨i,rfl,q⟩:=q1
  obtain ⟨t,rfl⟩:=r1
  exact ⟨some i,H1,I1,.int i t,q⟩
noncomputable def SlR (X:Cx) (r:V->Option Int->Option Int->Hp->VK->Prop):Prop :=
  ∀ (pins:List (Addr × Obj)) (s:Shared) (σ:St) (H:Hp) (x:V) (v vl vu:Value) (lo hi:Option Int) (sl:Addr) (Q:VK),Inv X pins σ H s->RelV x v->s.heap.IsSliceOf sl vl vu .none->IsPart vl lo->IsPart vu hi->r x lo hi H Q ->
    ∃ T id,typeLookup (.type T) "__getitem__"=pure (some (.builtin id))/\s.TypeIs v T/\wpAny (model X.prog X.w) X.A (getItem v (.ref sl)) (EP X pins σ Q) X.xe s
noncomputable def tSl (r:V->Option Int->Option Int->Hp->VK->Prop) (te:TE) (tl th:TO):TE:=fun σ H Q=>te σ H fun x H1=>tl σ H1 fun l H2=>th σ H2 fun u H3=>r x l u H3 Q
theorem pe_slice {r:V->Option Int->Option Int->Hp->VK->Prop} (hr:SlR X r) (he:PE X e te) (hl:PO X lo tl) (hu:PO X hi th):PE X (.Subscript e (.Slice lo hi none p2) pos) (tSl r te tl th):=by
  intro pins s σ H Q I h
  refine Subscript_ (thn (he pins s σ H _ I h) fun v s1 h_q=>?_)
  obtain ⟨x,H1,I1,r1,q1⟩:=h_q
  refine wpAny_Slice (thn (hl pins s1 σ H1 _ I1 q1) fun vl s2 ⟨l,H2,I2,pl,q2⟩=>thn (hu pins s2 σ H2 _ I2 q2) fun vu s3 h_q=>?_)
  obtain ⟨u,H3,I3,pu,q3⟩:=h_q
  rw [evalPart_none]
  refine wpAny_pure ?_
  have I4:Inv X pins σ H3 { s3 with heap:=s3.heap.push { cls:=.type "slice",data:=.fields #[vl,vu,.none] } }:=I3.kept (t':=s3.toks) fun b ob q=>Heap.get?_push_of_some _ q
  obtain ⟨T,id,hT,ht,hg⟩:=hr pins { s3 with heap:=s3.heap.push { cls:=.type "slice",data:=.fields #[vl,vu,.none] } } σ H3 x v vl vu l u s3.heap.objs.size Q I4 r1 (Heap.IsSliceOf.new ..) pl pu q3
  show wpAny (model X.prog X.w) X.A (subscriptTail e (.Slice lo hi none p2) v (.ref s3.heap.objs.size)) (EP X pins σ Q) X.xe { s3 with heap:=s3.heap.push { cls:=.type "slice",data:=.fields #[vl,vu,.none] } }
  exact tail_any (ops:=[.ref s3.heap.objs.size,v]) ht hT hg (by with_unfolding_all rfl)
noncomputable def cutV (xs:List V) (lo hi:Option Int):List V:=(xs.drop (HT.sIx xs.length 0 lo)).take (HT.sIx xs.length xs.length hi - HT.sIx xs.length 0 lo)
theorem cutV_length (xs:List V) (lo hi:Option Int):(cutV xs lo hi).length<=xs.length:=by
  unfold cutV
  rw [List.length_take,List.length_drop]
  lia
noncomputable def rSlT (K:PySem.W.Frag):V->Option Int->Option Int->Hp->VK->Prop:=fun x lo hi H Q=>∃ a xs,x=.ref a/\SqT K H a xs /\
  ¬ (HT.sIx xs.length 0 lo=0/\HT.sIx xs.length xs.length hi=xs.length)/\∀ p,H p=none->Q (.ref p) (upd H p (.tup (cutV xs lo hi)))
theorem sl_tup:SlR X (rSlT X.K):=by
  intro pins s σ H x v vl vu lo hi sl Q I rx hs pl pu h
  obtain ⟨a,xs,rfl,hx,hw,q⟩:=h
  cases rx
  obtain ⟨its,r,ht,hz⟩:=I.tuple hx
  have hlen:its.toArray.size=xs.length:=by rw [List.size_toArray];exact r.length.symm
  refine ⟨"tuple",_,PyProof.Rows.slot_tuple_getitem.lookup,ht.typeIs,?_⟩
  refine HT.getItem_tuple_cut ht hs pl pu (by rw [hlen];exact hw) ?_ (by rw [hlen];exact hz)
  rw [hlen]
  refine ⟨.ref s.heap.objs.size,_,I.laid (t':=s.toks) (o:=.tup (cutV xs lo hi)) (fun b ob q=>Heap.get?_push_of_some _ q) (Nat.le_refl _) ?_,rfl,q _ (I.hok.fresh (Nat.le_refl _))⟩
  exact ⟨Nat.le_trans (cutV_length xs lo hi) hz,_,(r.drop (HT.sIx xs.length 0 lo)).take (HT.sIx xs.length xs.length hi - HT.sIx xs.length 0 lo),IsTup.new _ _⟩
noncomputable def rCatT (K:PySem.W.Frag):R2:=fun x y H Q=>∃ a b xs ys,x=.ref a/\y=.ref b/\SqT K H a xs/\SqT K H b ys/\xs≠[]/\xs.length + ys.length<=sizeLine /\
  (ys=[]->Q (.ref a) H)/\(ys≠[]->∀ p,H p=none->Q (.ref p) (upd H p (.tup (xs++ys))))
theorem Vals.nil_iff {xs:List V} {us:List Value} (r:Vals xs us):us=[] ↔ xs=[]:=by
  cases r with
  | nil=>simp
  | cons _ _=>simp
theorem op_catT:OpR X (binaryOp .Add) (rCatT X.K):=by
  intro pins s σ H x y v u Q I rx ry h
  obtain ⟨a,b,xs,ys,rfl,rfl,ha,hb,hx,hz,q1,q2⟩:=h
  cases rx
  cases ry
  obtain ⟨its,r1,p1,_⟩:=I.tuple ha
  obtain ⟨its2,r2,p2,_⟩:=I.tuple hb
  refine HT.cat_tup p1 p2 (fun z=>hx (r1.nil_iff.mp z)) (fun z=>⟨.ref a,H,I,rfl,q1 (r2.nil_iff.mp z)⟩) (fun z=>?_) (by rw [<- r1.length,<- r2.length];exact hz)
  refine ⟨.ref s.heap.objs.size,_,I.laid (t':=s.toks) (o:=.tup (xs++ys)) (fun b ob q=>Heap.get?_push_of_some _ q) (Nat.le_refl _) ?_,rfl,q2 (fun w=>z (r2.nil_iff.mpr w)) _ (I.hok.fresh (Nat.le_refl _))⟩
  exact ⟨by rw [List.length_append];exact hz,_,r1.append r2,IsTup.new _ _⟩
end
end L2
namespace L2
open PySem PySem.Spec PyProof.Rows
noncomputable def ixN (n:Nat) (i:Int):Option Nat:=if 0<=i then (if i < n then some i.toNat else none) else if -(n:Int)<=i then some (i + n).toNat else none
noncomputable def atI {α:Type} (xs:List α) (i:Int):Option α:=(ixN xs.length i).bind fun j=>xs[j]?
theorem ixN_seq {n:Nat} {i:Int} {j:Nat} (h:ixN n i=some j):seqIndex? i n=some j/\j < n/\-(n:Int)<=i/\i < n:=by
  unfold ixN at h
  by_cases h0:0<=i
  . rw [if_pos h0] at h
    by_cases h1:i < n
    . rw [if_pos h1] at h
      have e:i.toNat=j:=Option.some.inj h
      exact ⟨by rw [seqIndex_of h0 h1,e],by lia,by lia,h1⟩
    . rw [if_neg h1] at h;cases h
  . rw [if_neg h0] at h
    by_cases h1:-(n:Int)<=i
    . rw [if_pos h1] at h
      have e:(i + n).toNat=j:=Option.some.inj h
      exact ⟨by rw [seqIndex_neg (by lia) h1,e],by lia,h1,by lia⟩
    . rw [if_neg h1] at h;cases h
theorem atI_get {α:Type} {xs:List α} {i:Int} {v:α} (h:atI xs i=some v):∃ j,seqIndex? i xs.length=some j/\xs[j]? = some v/\j < xs.length/\-(xs.length:Int)<=i/\i < xs.length:=by
  unfold atI at h
  cases e:ixN xs.length i with
  | none=>rw [e] at h;cases h
  | some j =>
    rw [e] at h
    obtain ⟨h1,h2,h3,h4⟩:=ixN_seq e
    exact ⟨j,h1,h,h2,h3,h4⟩
theorem atI_nat {α:Type} {xs:List α} {j:Nat} {v:α} (h:xs[j]? = some v):atI xs (j:Int)=some v:=by
  have hj:j < xs.length:=(List.getElem?_eq_some_iff.mp h).1
  have e:ixN xs.length (j:Int)=some j:=by
    unfold ixN
    rw [if_pos (by lia),if_pos (by lia)];simp
  unfold atI;rw [e];exact h
noncomputable def PlainIx (b:Expr):Prop:=∀ o i,subscripted b false o i=operate [o,i] (getItem o i)
noncomputable def IxR (X:Cx) (r:R2):Prop :=
  ∀ (value slice:Expr) (pins:List (Addr × Obj)) (s:Shared) (σ:St) (H:Hp) (x y:V) (v u:Value) (Q:VK),Inv X pins σ H s->RelV x v->RelV y u->r x y H Q ->
    subscripted slice false v u=operate [v,u] (getItem v u)->wpAny (model X.prog X.w) X.A (subscriptTail value slice v u) (EP X pins σ Q) X.xe s
noncomputable def MtR (X:Cx) (id:String) (r:V->List V->Hp->VK->Prop):Prop :=
  ∀ (pins:List (Addr × Obj)) (s:Shared) (σ:St) (H:Hp) (x:V) (xs:List V) (v:Value) (us:List Value) (Q:VK),Inv X pins σ H s->RelV x v->Vals xs us->r x xs H Q ->
    wpAny (model X.prog X.w) X.A (call (.builtin id) (v::us)) (EP X pins σ Q) X.xe s
section
variable {X:Cx} {a b:Expr} {ta tb:TE} {pos:Pos}
theorem IxR.or {r r':R2} (h:IxR X r) (h':IxR X r'):IxR X (fun x y H Q=>r x y H Q\/r' x y H Q):=by
  intro value slice pins s σ H x y v u Q I rx ry q hs
  rcases q with q | q
  . exact h value slice pins s σ H x y v u Q I rx ry q hs
  . exact h' value slice pins s σ H x y v u Q I rx ry q hs
theorem pe_ix {r:R2} (hr:IxR X r) (ha:PE X a ta) (hb:PE X b tb) (hs:PlainIx b):PE X (.Subscript a b pos) (tOp r ta tb):=by
  intro pins s σ H Q I h
  exact Subscript_ (binT ha hb I h fun v u s2 x y H2 I2 rx ry q=>hr a b pins s2 σ H2 x y v u Q I2 rx ry q (hs _ _))
noncomputable def rIxL (K:PySem.W.Frag):R2:=fun x y H Q=>∃ p xs i v,x=.ref p/\y=.int i/\SqL K H p xs/\atI xs i=some v/\Q v H
noncomputable def rIxT (K:PySem.W.Frag):R2:=fun x y H Q=>∃ p xs i v,x=.ref p/\y=.int i/\SqT K H p xs/\atI xs i=some v/\Q v H
noncomputable def rIxS:R2:=fun x y H Q=>∃ z i c,x=.str z/\y=.int i/\z.length<=sizeLine/\atI z.cps.toList i=some c/\Q (.str ⟨#[c]⟩) H
theorem ix_list:IxR X (rIxL X.K):=by
  intro value slice pins s σ H x y v u Q I rx ry h hs
  obtain ⟨p,xs,i,z,rfl,rfl,hq,he,q⟩:=h
  cases rx
  obtain ⟨t,rfl⟩:=ry
  obtain ⟨its,r,pl,hz⟩:=I.list hq
  obtain ⟨j,h1,h2,h3,h4,h5⟩:=atI_get he
  obtain ⟨w,ew,rw'⟩:=r.get h2
  have hl:=r.length
  have hn:=line63
  have fin:EP X pins σ Q w s:=⟨z,H,I,rw',q⟩
  by_cases h0:0<=i
  . have hj:i.toNat=j:=by
      rw [seqIndex_of h0 h5] at h1
      exact Option.some.inj h1
    exact item_listR pl.isList h0 (by lia) (by rw [hj];simpa using ew) fin hs
  . have hj:(i + (its.toArray.size:Int)).toNat=j:=by
      rw [seqIndex_neg (by lia) h4] at h1
      rw [List.size_toArray,<- hl]
      exact Option.some.inj h1
    exact subscriptTail_builtinR (x:=w) pl.isList.typeIs slot_list_getitem.lookup
      (wpAny_getItem_list_neg (Q:=fun r s'=>r=w/\EP X pins σ Q r s') pl.isList (by lia) (by rw [List.size_toArray] <;> lia) (by lia) (by rw [hj];simpa using ew) ⟨rfl,fin⟩) hs
theorem ix_tup:IxR X (rIxT X.K):=by
  intro value slice pins s σ H x y v u Q I rx ry h hs
  obtain ⟨p,xs,i,z,rfl,rfl,hq,he,q⟩:=h
  cases rx
  obtain ⟨t,rfl⟩:=ry
  obtain ⟨its,r,pl,hz⟩:=I.tuple hq
  obtain ⟨j,h1,h2,h3,h4,h5⟩:=atI_get he
  obtain ⟨w,ew,rw'⟩:=r.get h2
  have hl:=r.length
  have hn:=line63
  have fin:EP X pins σ Q w s:=⟨z,H,I,rw',q⟩
  exact subscriptTail_builtinR (x:=w) pl.typeIs slot_tuple_getitem.lookup
    (getItem_tuple (j:=j) (Q:=fun r s'=>r=w/\EP X pins σ Q r s') pl (by lia) (by lia) (by rw [List.size_toArray,<- hl];exact h1) (by simpa using ew) ⟨rfl,fin⟩) hs
theorem ix_str:IxR X rIxS:=by
  intro value slice pins s σ H x y v u Q I rx ry h hs
  obtain ⟨z,i,c,rfl,rfl,hz,he,q⟩:=h
  obtain ⟨t,rfl⟩:=rx
  obtain ⟨t',rfl⟩:=ry
  obtain ⟨j,h1,h2,h3,h4,h5⟩:=atI_get he
  have hl:z.cps.toList.length=z.length:=by simp [Str.length]
  rw [hl] at h1 h4 h5
  have hn:=line63
  exact tail_any (typeIs_str s z t) slot_str_getitem.lookup (getItem_str (c:=c) (by
    have e1:decide (i < -(2 ^ 63:Int))=false:=decide_eq_false (by lia)
    have e2:decide (i ≥ 2 ^ 63)=false:=decide_eq_false (by lia)
    rw [e1,e2,Bool.or_false]) (by rw [h1];simpa using h2) ⟨.str ⟨#[c]⟩,H,I.tok _,⟨_,rfl⟩,q⟩) hs
noncomputable def rIx (K:PySem.W.Frag):R2:=fun x y H Q=>rIxL K x y H Q\/rIxT K x y H Q\/rIxS x y H Q
theorem ix_seq:IxR X (rIx X.K):=ix_list.or (ix_tup.or ix_str)
theorem mapSeq_set (its:List Value) (n j:Nat) (u:Value):Obj.mapSeq (·.setIfInBounds j u) { cls:=.type "list",data:=.seq its.toArray n }={ cls:=.type "list",data:=.seq (its.set j u).toArray n }:=by
  simp [Obj.mapSeq]
theorem Inv.lst {pins:List (Addr × Obj)} {σ:St} {H:Hp} {s:Shared} {p:Addr} {xs:List V} (I:Inv X pins σ H s) (h:H p=some (.lst xs)) :
    ∃ (its:List Value) (n:Nat),Vals xs its/\s.heap.get? p=some { cls:=.type "list",data:=.seq its.toArray n }/\xs.length<=sizeLine:=by
  obtain ⟨z,its,n,r,e⟩:=I.hok p _ h
  exact ⟨its,n,r,e,z⟩
theorem Inv.lstUpd {pins:List (Addr × Obj)} {σ:St} {H:Hp} {s:Shared} {p:Addr} {xs ys:List V} {its its':List Value} {n n':Nat} {f:Obj->Obj} (I:Inv X pins σ H s) (h:H p=some (.lst xs))
    (ho:s.heap.get? p=some { cls:=.type "list",data:=.seq its.toArray n }) (hf:f { cls:=.type "list",data:=.seq its.toArray n }={ cls:=.type "list",data:=.seq its'.toArray n' }) (r:Vals ys its') (hz:ys.length<=sizeLine) (t:Nat) :
    Inv X pins σ (upd H p (.lst ys)) { s with heap:=s.heap.update p f,toks:=t }:=by
  have e:(s.heap.update p f).get? p=some { cls:=.type "list",data:=.seq its'.toArray n' }:=by
    rw [Heap.get?_update_self f ho (by rw [hf] <;> rfl),hf]
  refine I.write (x:=p) (e:=p) (by rw [h];trivial) (.inl rfl) (fun b u hb q=>(Heap.get?_update_other _ _ (Ne.symm hb)).trans q) ⟨_,e⟩ ?_
  exact ⟨hz,its',n',r,e⟩
noncomputable def rSetL:V->V->V->Hp->(Hp->Prop)->Prop:=fun o i v H Q=>∃ p xs k j,o=.ref p/\i=.int k/\H p=some (.lst xs)/\ixN xs.length k=some j/\Q (upd H p (.lst (xs.set j v)))
theorem set_list:PSet X rSetL:=by
  intro pins s σ H o i v ov iv u Q I ro ri rv h
  obtain ⟨p,xs,k,j,rfl,rfl,hp,hj,q⟩:=h
  cases ro
  obtain ⟨t,rfl⟩:=ri
  obtain ⟨its,n,r,ho,hz⟩:=I.lst hp
  obtain ⟨h1,h2,h3,h4⟩:=ixN_seq hj
  have hl:=r.length
  have hn:=line63
  have I':Inv X pins σ (upd H p (.lst (xs.set j v))) { s with heap:=s.heap.update p (Obj.mapSeq (·.setIfInBounds j u)) } :=
    I.lstUpd hp ho (mapSeq_set its n j u) (r.set rv j) (by rw [List.length_set];exact hz) s.toks
  by_cases h0:0<=k
  . have hk:k.toNat=j:=by
      rw [seqIndex_of h0 h4] at h1
      exact Option.some.inj h1
    exact PySem.W.ki_setAt ho h0 (by lia) (by rw [List.size_toArray,<- hl];exact h4) (by rw [hk];exact ⟨_,I',q⟩)
  . have hk:(k + (its.toArray.size:Int)).toNat=j:=by
      rw [seqIndex_neg (by lia) h3] at h1
      rw [List.size_toArray,<- hl]
      exact Option.some.inj h1
    exact PySem.W.ki_setBack ho (by lia) (by rw [List.size_toArray,<- hl];exact h3) (by lia) (by rw [hk];exact ⟨_,I',q⟩)
theorem slice_bounds (lo hi:Option Int) (n:Nat):(sliceBounds lo hi none n).1=((HT.sIx n 0 lo:Nat):Int)/\(sliceBounds lo hi none n).2.1=((HT.sIx n n hi:Nat):Int)/\(sliceBounds lo hi none n).2.2=1:=by
  refine ⟨?_,?_,rfl⟩
  . cases lo with
    | none=>simp [sliceBounds,HT.sIx]
    | some i =>
      simp only [sliceBounds,HT.sIx,Option.getD_none,show (1:Int) > 0 by decide,if_true]
      by_cases h:i < 0
      . simp only [h,if_true] <;> lia
      . simp only [h,if_false] <;> lia
  . cases hi with
    | none=>simp [sliceBounds,HT.sIx]
    | some i =>
      simp only [sliceBounds,HT.sIx,Option.getD_none,show (1:Int) > 0 by decide,if_true]
      by_cases h:i < 0
      . simp only [h,if_true] <;> lia
      . simp only [h,if_false] <;> lia
theorem slicePick_cut (its:List Value) (lo hi:Option Int):slicePick its.toArray lo hi none=((its.drop (HT.sIx its.length 0 lo)).take (HT.sIx its.length its.length hi - HT.sIx its.length 0 lo)).toArray:=by
  obtain ⟨h1,h2,h3⟩:=slice_bounds lo hi its.toArray.size
  unfold slicePick
  rw [h1,h2,h3]
  simp only [sliceRange_one,pick_run,List.size_toArray] <;> rfl
noncomputable def rSlL (K:PySem.W.Frag):V->Option Int->Option Int->Hp->VK->Prop:=fun x lo hi H Q=>∃ a xs,x=.ref a/\SqL K H a xs/\∀ p,H p=none->Q (.ref p) (upd H p (.lst (cutV xs lo hi)))
theorem sl_list:SlR X (rSlL X.K):=by
  intro pins s σ H x v vl vu lo hi sl Q I rx hs pl pu h
  obtain ⟨a,xs,rfl,hx,q⟩:=h
  cases rx
  obtain ⟨its,r,ht,hz⟩:=I.list hx
  have hlen:=r.length
  refine ⟨"list",_,slot_list_getitem.lookup,ht.isList.typeIs,?_⟩
  refine wpAny_getItem_list_slice ht.isList hs pl pu .none (by simp) ?_ (by rw [List.size_toArray] <;> lia)
  rw [slicePick_cut,<- hlen]
  refine ⟨.ref s.heap.objs.size,_,I.laid (t':=s.toks) (o:=.lst (cutV xs lo hi)) (fun b ob q=>Heap.get?_push_of_some _ q) (Nat.le_refl _) ?_,rfl,q _ (I.hok.fresh (Nat.le_refl _))⟩
  exact ⟨Nat.le_trans (cutV_length xs lo hi) hz,_,0,(r.drop (HT.sIx xs.length 0 lo)).take (HT.sIx xs.length xs.length hi - HT.sIx xs.length 0 lo),Heap.get?_push_size _ rfl⟩
noncomputable def flatV:V->Bool
  | .non=>true
  | .bl _=>true
  | .int _=>true
  | .str _=>true
  | _=>false
noncomputable def eqV:V->V->Bool
  | .non,.non=>true
  | .bl a,.bl b=>a == b
  | .bl a,.int b=>(if a then 1 else 0) == b
  | .int a,.bl b=>a == (if b then 1 else 0)
  | .int a,.int b=>a == b
  | .str a,.str b=>a == b
  | _,_=>false
theorem eqAt_V {A:Around} {s:Shared} {y x:V} {u v:Value} (ry:RelV y u) (rx:RelV x v) (fy:flatV y=true) (fx:flatV x=true):SeqAt.EqAt A s u v (eqV y x):=by
  cases y with
  | non =>
    cases ry
    cases x with
    | non=>cases rx;exact SeqAt.EqAt.same _
    | bl b=>cases rx;exact SeqAt.EqAt.none_bool b
    | int b=>obtain ⟨t,rfl⟩:=rx;exact SeqAt.EqAt.none_int b t
    | str b=>obtain ⟨t,rfl⟩:=rx;exact SeqAt.EqAt.none_str b t
    | _=>exact absurd (show false=true from fx) Bool.false_ne_true
  | bl a =>
    cases ry
    cases x with
    | non=>cases rx;exact SeqAt.EqAt.bool_none a
    | bl b=>cases rx;exact SeqAt.EqAt.bool_bool a b
    | int b=>obtain ⟨t,rfl⟩:=rx;exact SeqAt.EqAt.bool_int a b t
    | str b=>obtain ⟨t,rfl⟩:=rx;exact SeqAt.EqAt.bool_str a b t
    | _=>exact absurd (show false=true from fx) Bool.false_ne_true
  | int a =>
    obtain ⟨t',rfl⟩:=ry
    cases x with
    | non=>cases rx;exact SeqAt.EqAt.int_none a t'
    | bl b=>cases rx;exact SeqAt.EqAt.int_bool a t' b
    | int b=>obtain ⟨t,rfl⟩:=rx;exact SeqAt.EqAt.int_int a t' b t
    | str b=>obtain ⟨t,rfl⟩:=rx;exact SeqAt.EqAt.int_str a t' b t
    | _=>exact absurd (show false=true from fx) Bool.false_ne_true
  | str a =>
    obtain ⟨t',rfl⟩:=ry
    cases x with
    | non=>cases rx;exact SeqAt.EqAt.str_none a t'
    | bl b=>cases rx;exact SeqAt.EqAt.str_bool a t' b
    | int b=>obtain ⟨t,rfl⟩:=rx;exact SeqAt.EqAt.str_int a t' b t
    | str b=>obtain ⟨t,rfl⟩:=rx;exact SeqAt.EqAt.str_str a t' b t
    | _=>exact absurd (show false=true from fx) Bool.false_ne_true
  | _=>exact absurd (show false=true from fy) Bool.false_ne_true
noncomputable def eqU (x:V) (u:Value):Bool:=match u with
  | .none=>eqV .non x
  | .bool b=>eqV (.bl b) x
  | .int i _=>eqV (.int i) x
  | .str z _=>eqV (.str z) x
  | _=>false
theorem eqU_of {x y:V} {u:Value} (r:RelV y u) (f:flatV y=true):eqU x u=eqV y x:=by
  cases y with
  | non=>cases r;rfl
  | bl b=>cases r;rfl
  | int i=>obtain ⟨t,rfl⟩:=r;rfl
  | str z=>obtain ⟨t,rfl⟩:=r;rfl
  | _=>exact absurd (show false=true from f) Bool.false_ne_true
theorem any_eqU {x:V}:∀ {xs:List V} {us:List Value},Vals xs us->xs.all flatV=true->us.any (eqU x)=xs.any fun y=>eqV y x
  | _,_,.nil,_=>rfl
  | y :: xs,u::us,.cons r t,f=>by
    rw [List.all_cons,Bool.and_eq_true] at f
    rw [List.any_cons,List.any_cons,eqU_of r f.1,any_eqU t f.2]
theorem mem_eqAt {A:Around} {s:Shared} {x:V} {v:Value} (rx:RelV x v) (fx:flatV x=true):∀ {xs:List V} {us:List Value},Vals xs us->xs.all flatV=true->∀ u∈us,SeqAt.EqAt A s u v (eqU x u)
  | _,_,.nil,_=>fun u hu=>by cases hu
  | y :: xs,u::us,.cons r t,f=>fun u' hu=>by
    rw [List.all_cons,Bool.and_eq_true] at f
    rcases List.mem_cons.mp hu with rfl | hu
    . rw [eqU_of r f.1];exact eqAt_V r rx f.1 fx
    . exact mem_eqAt rx fx t f.2 u' hu
noncomputable def inV (x:V) (xs:List V):Bool:=xs.any fun y=>eqV y x
noncomputable def rIn (K:PySem.W.Frag) (neg:Bool):R2:=fun x y H Q=>∃ p xs,y=.ref p/\(SqL K H p xs\/SqT K H p xs)/\flatV x=true/\xs.all flatV=true/\Q (.bl (if neg then !inV x xs else inV x xs)) H
theorem op_in_seq:OpR X (compareOp .In) (rIn X.K false):=by
  intro pins s σ H x y v u Q I rx ry h
  obtain ⟨p,xs,rfl,hq,fx,fs,q⟩:=h
  cases ry
  rcases hq with hq | hq
  . obtain ⟨its,r,pl,hz⟩:=I.list hq
    refine SeqAt.in_listAt (eqU x) pl.isList (fun w hw=>mem_eqAt rx fx r fs w (by simpa using hw)) ⟨.bl _,H,I,rfl,?_⟩
    rw [show its.toArray.any (eqU x)=its.any (eqU x) by simp,any_eqU r fs]
    exact q
  . obtain ⟨its,r,pl,hz⟩:=I.tuple hq
    refine SeqAt.in_tupleAt (eqU x) pl (fun w hw=>mem_eqAt rx fx r fs w (by simpa using hw)) ⟨.bl _,H,I,rfl,?_⟩
    rw [show its.toArray.any (eqU x)=its.any (eqU x) by simp,any_eqU r fs]
    exact q
theorem op_notIn_seq:OpR X (compareOp .NotIn) (rIn X.K true):=by
  intro pins s σ H x y v u Q I rx ry h
  obtain ⟨p,xs,rfl,hq,fx,fs,q⟩:=h
  cases ry
  rcases hq with hq | hq
  . obtain ⟨its,r,pl,hz⟩:=I.list hq
    refine SeqAt.notIn_listAt (eqU x) pl.isList (fun w hw=>mem_eqAt rx fx r fs w (by simpa using hw)) ⟨.bl _,H,I,rfl,?_⟩
    rw [show its.toArray.any (eqU x)=its.any (eqU x) by simp,any_eqU r fs]
    exact q
  . obtain ⟨its,r,pl,hz⟩:=I.tuple hq
    refine SeqAt.notIn_tupleAt (eqU x) pl (fun w hw=>mem_eqAt rx fx r fs w (by simpa using hw)) ⟨.bl _,H,I,rfl,?_⟩
    rw [show its.toArray.any (eqU x)=its.any (eqU x) by simp,any_eqU r fs]
    exact q
theorem op_notIn_str:OpR X (compareOp .NotIn) (fun x y H Q=>∃ i j,x=.str i/\y=.str j/\Q (.bl (!(!(Builtin.Str.occurrences j i 0 j.length 1).isEmpty))) H):=by
  intro pins s σ H x y v u Q I rx ry h
  obtain ⟨i,j,rfl,rfl,q⟩:=h
  obtain ⟨t,rfl⟩:=rx
  obtain ⟨t',rfl⟩:=ry
  exact notIn_str ⟨.bl _,H,I,rfl,q⟩
theorem call_len_seq:CallR X (.builtin "len") (fun xs H Q=>∃ p ys,xs=[.ref p]/\(SqL X.K H p ys\/SqT X.K H p ys)/\Q (.int ys.length) H):=by
  intro pins s σ H xs us Q I r h
  obtain ⟨p,ys,rfl,hq,q⟩:=h
  obtain ⟨u,rfl,rx⟩:=vals1 r
  cases rx
  have hn:=line63
  rcases hq with hq | hq
  . obtain ⟨its,r',pl,hz⟩:=I.list hq
    have hlen:=r'.length
    exact Calls.call_len_list pl.isList (by simp only [List.size_toArray] <;> lia) ⟨.int ys.length,H,I.tok _,⟨s.toks + 1,by rw [List.size_toArray,hlen]⟩,q⟩
  . obtain ⟨its,r',pl,hz⟩:=I.tuple hq
    have hlen:=r'.length
    exact len_tuple pl (by simp only [List.size_toArray] <;> lia) ⟨.int ys.length,H,I.tok _,⟨s.toks + 1,by rw [List.size_toArray,hlen]⟩,q⟩
theorem call_len_str:CallR X (.builtin "len") (fun xs H Q=>∃ z,xs=[.str z]/\z.length<=sizeLine/\Q (.int z.length) H):=by
  intro pins s σ H xs us Q I r h
  obtain ⟨z,rfl,hz,q⟩:=h
  obtain ⟨u,rfl,t,rfl⟩:=vals1 r
  have hn:=line63
  exact len_str (by lia) ⟨.int z.length,H,I.tok _,⟨_,rfl⟩,q⟩
theorem CallR.or {f:Value} {r r':List V->Hp->VK->Prop} (h:CallR X f r) (h':CallR X f r'):CallR X f (fun xs H Q=>r xs H Q\/r' xs H Q):=by
  intro pins s σ H xs us Q I rs q
  rcases q with q | q
  . exact h pins s σ H xs us Q I rs q
  . exact h' pins s σ H xs us Q I rs q
theorem call_list_of:CallR X (.type "list") (fun xs H Q=>∃ p ys,xs=[.ref p]/\(SqL X.K H p ys\/SqT X.K H p ys)/\∀ l,H l=none->Q (.ref l) (upd H l (.lst ys))):=by
  intro pins s σ H xs us Q I r h
  obtain ⟨p,ys,rfl,hq,q⟩:=h
  obtain ⟨u,rfl,rx⟩:=vals1 r
  cases rx
  have fin:∀ (its:List Value),Vals ys its->ys.length<=sizeLine->∀ (h':Heap) (c':Nat),(∀ b o',s.heap.get? b=some o'->h'.get? b=some o') ->
      h'.get? s.heap.objs.size=some { cls:=.type "list",dict:=none,data:=.seq its.toArray c',slots:=#[] }->EP X pins σ Q (.ref s.heap.objs.size) { s with heap:=h' }:=fun its r' hz h' c' kp e =>
    ⟨.ref s.heap.objs.size,_,I.laid (t':=s.toks) kp (Nat.le_refl _) (show ObjOk X.prog X.w _ h' _ (.lst ys) from ⟨hz,its,c',r',e⟩),rfl,q _ (I.hok.fresh (Nat.le_refl _))⟩
  rcases hq with hq | hq
  . obtain ⟨its,r',pl,hz⟩:=I.list hq
    have hlen:=r'.length
    obtain ⟨o,ho,hc,n,hd⟩:=pl.isList
    exact call_list_seq p (.inl rfl) ho hc hd (fun h' c' kp e=>fin its r' hz h' c' kp e) (by simp only [List.size_toArray] <;> lia)
  . obtain ⟨its,r',pl,hz⟩:=I.tuple hq
    have hlen:=r'.length
    obtain ⟨o,ho,hc,n,hd⟩:=pl
    exact call_list_seq p (.inr rfl) ho hc hd (fun h' c' kp e=>fin its r' hz h' c' kp e) (by simp only [List.size_toArray] <;> lia)
theorem call_tuple_of:CallR X (.type "tuple") (fun xs H Q=>∃ p ys,xs=[.ref p]/\((SqL X.K H p ys/\∀ l,H l=none->Q (.ref l) (upd H l (.tup ys)))\/(SqT X.K H p ys/\Q (.ref p) H))):=by
  intro pins s σ H xs us Q I r h
  obtain ⟨p,ys,rfl,h⟩:=h
  obtain ⟨u,rfl,rx⟩:=vals1 r
  cases rx
  rcases h with ⟨hq,q⟩ | ⟨hq,q⟩
  . obtain ⟨its,r',pl,hz⟩:=I.list hq
    have hlen:=r'.length
    refine call_tuple_list pl.isList (fun h' kp=>?_) (by simp only [List.size_toArray] <;> lia)
    have I1:Inv X pins σ H { s with heap:=h' }:=I.kept (t':=s.toks) kp
    have I2:Inv X pins σ (upd H h'.objs.size (.tup ys)) { s with heap:=h'.push { cls:=.type "tuple",data:=.seq its.toArray } } :=
      I1.laid (t':=s.toks) (fun b o e=>Heap.get?_push_of_some _ e) (Nat.le_refl _) (show ObjOk X.prog X.w _ _ _ (.tup ys) from ⟨hz,its,r',IsTup.new _ _⟩)
    exact ⟨.ref h'.objs.size,_,I2,rfl,q _ (I1.hok.fresh (Nat.le_refl _))⟩
  . obtain ⟨its,r',pl,hz⟩:=I.tuple hq
    exact call_tuple_same pl ⟨.ref p,H,I,rfl,q⟩
noncomputable def tyV (K:PySem.W.Frag) (T:String) (x:V) (H:Hp):Prop:=match x with
  | .str _=>T="str"
  | .int _=>T="int"
  | .ref p=>(T="list"/\∃ xs,SqL K H p xs)\/(T="tuple"/\∃ o,K.lookup p=some o/\o.cls=.type "tuple"/\o.dict=none) \/
      (T="dict"/\((∃ kvs,H p=some (.dK kvs))\/∃ kvs,H p=some (.dT kvs)))\/(T="set"/\∃ S n,H p=some (.set S n))
  | _=>False
theorem tyV_is {pins:List (Addr × Obj)} {σ:St} {H:Hp} {s:Shared} {T:String} {x:V} {v:Value} (I:Inv X pins σ H s) (r:RelV x v) (ty:tyV X.K T x H) :
    s.TypeIs v T/\∀ a,v=.ref a->∃ ob,s.heap.get? a=some ob/\ob.dict=none:=by
  cases x with
  | str z =>
    obtain ⟨t,rfl⟩:=r
    cases (show T="str" from ty)
    exact ⟨typeIs_str s z t,fun _ e=>nomatch e⟩
  | int i =>
    obtain ⟨t,rfl⟩:=r
    cases (show T="int" from ty)
    exact ⟨typeIs_int s i t,fun _ e=>nomatch e⟩
  | ref p =>
    cases r
    rcases ty with ⟨rfl,xs,hq⟩ | ⟨rfl,o,hk,hc,hd⟩ | ⟨rfl,hk⟩ | ⟨rfl,S,n,hk⟩
    . obtain ⟨its,_,pl,_⟩:=I.list hq
      refine ⟨pl.isList.typeIs,fun a e=>?_⟩
      cases e
      obtain ⟨o,n,e,c,hd,_⟩:=pl
      exact ⟨o,e,hd⟩
    . refine ⟨⟨o,I.kIn p o hk,hc⟩,fun a e=>?_⟩
      cases e
      exact ⟨o,I.kIn _ o hk,hd⟩
    . have z:∃ o,s.heap.get? p=some o/\o.ExactDict:=by
        rcases hk with ⟨kvs,hk⟩ | ⟨kvs,hk⟩
        . obtain ⟨_,_,_,_,o,_,_,e,ex,_⟩:=I.hok p _ hk
          exact ⟨o,e,ex⟩
        . obtain ⟨_,_,_,_,o,_,_,e,ex,_⟩:=I.hok p _ hk
          exact ⟨o,e,ex⟩
      obtain ⟨o,e,ex⟩:=z
      refine ⟨⟨o,e,ex.1⟩,fun a e2=>?_⟩
      cases e2
      exact ⟨o,e,ex.2.1⟩
    . obtain ⟨o,_,_,_,e,ex,_⟩:=I.hok p _ hk
      refine ⟨⟨o,e,ex.1⟩,fun a e2=>?_⟩
      cases e2
      exact ⟨o,e,ex.2.1⟩
  | _=>exact False.elim ty
noncomputable def tBM0 (K:PySem.W.Frag) (T:String) (r:V->List V->Hp->VK->Prop) (to:TE):TE:=fun σ H Q=>to σ H fun x H1=>tyV K T x H1/\r x [] H1 Q
noncomputable def tBM (K:PySem.W.Frag) (T:String) (r:V->List V->Hp->VK->Prop) (to:TE) (t:TA):TE:=fun σ H Q=>to σ H fun x H1=>tyV K T x H1/\t σ H1 fun xs H2=>r x xs H2 Q
variable {o e:Expr} {es:List Expr} {to:TE} {t:TA} {name:Str} {apos cpos:Pos} {T id:String} {r:V->List V->Hp->VK->Prop}
theorem pe_bm0 (pa:PlainAttrs T) (slot:Slot T name id) (hty:typeOf (.builtin id)=pure (.type "method_descriptor")) (hm:MtR X id r) (ho:PE X o to)
    (hbase:attributeBase o name X.env (eval o X.env)=eval o X.env:=by rfl) (hline:(apos.endLine == cpos.line)=true:=by rfl):PE X (.Call (.Attribute o name apos) [] [] cpos) (tBM0 X.K T r to):=by
  intro pins s σ H Q I h
  refine wpAny_Call_method0_late hbase hline (thn (ho pins s σ H _ I h) fun v s1 h_q=>?_)
  obtain ⟨x,H1,I1,r1,ty,q1⟩:=h_q
  obtain ⟨h1,h2⟩:=tyV_is I1 r1 ty
  exact ⟨T,id,pa,slot,hty,h1,h2,Calls.callWith_builtin rfl (PySem.evalArgs_none (hm pins s1 σ H1 x [] v [] Q I1 r1 .nil q1))⟩
theorem pe_bm (pa:PlainAttrs T) (slot:Slot T name id) (hty:typeOf (.builtin id)=pure (.type "method_descriptor")) (hm:MtR X id r) (ho:PE X o to) (ha:PA X (e::es) t)
    (hbase:attributeBase o name X.env (eval o X.env)=eval o X.env:=by rfl)
    (hfew:((backTo cpos (starEach (e::es) X.env)).all (fun x=>!x.1) && (backToKw cpos (keywordEach [] X.env)).all (fun x=>x.1.isSome)
      && decide ((e::es).length + ([]:List Keyword).length + (if ([]:List Keyword).isEmpty then 0 else 1) < 30))=true:=by rfl)
    (hline:(apos.endLine == cpos.line)=true:=by rfl) (hs:starEach (e::es) X.env=(false,eval e X.env)::starEach es X.env:=by rfl) (hplain:(backTo cpos (starEach es X.env)).any (·.1)=false:=by rfl) :
    PE X (.Call (.Attribute o name apos) (e::es) [] cpos) (tBM X.K T r to t):=by
  intro pins s σ H Q I h
  refine wpAny_Call_method_late hbase hfew hline rfl (thn (ho pins s σ H _ I h) fun v s1 h_q=>?_)
  obtain ⟨x,H1,I1,r1,ty,q1⟩:=h_q
  obtain ⟨h1,h2⟩:=tyV_is I1 r1 ty
  refine ⟨T,id,pa,slot,hty,h1,h2,?_⟩
  have hA:=ha cpos pins s1 σ H1 _ I1 q1
  rw [hs] at hA ⊢
  refine Calls.callWith_builtin (by show (false || (backTo cpos (starEach es X.env)).any (·.1))=false;rw [hplain] <;> rfl) (Calls.evalArgs_plain ?_)
  exact thn hA fun us s2 ⟨vs,H2,I2,r2,q2⟩=>hm pins s2 σ H2 x vs v us Q I2 r1 r2 q2
end
end L2
namespace L2
open PySem PySem.Spec PyProof.Rows
noncomputable def MtM (X:Cx) (id:String) (r:V->List V->Hp->VK->Prop):Prop :=
  ∀ (pins:List (Addr × Obj)) (s:Shared) (σ:St) (H:Hp) (x:V) (xs:List V) (v:Value) (us:List Value) (Q:VK),Inv X pins σ H s->RelV x v->Vals xs us->r x xs H Q ->
    wpAny (model X.prog X.w) X.A (call (.builtin id) (v::us)) (EP X pins σ Q) X.xe s
theorem Vals.one:∀ {x:V} {us:List Value},Vals [x] us->∃ u,us=[u]/\RelV x u
  | _,_,.cons r .nil=>⟨_,rfl,r⟩
theorem Vals.two:∀ {x y:V} {us:List Value},Vals [x,y] us->∃ u v,us=[u,v]/\RelV x u/\RelV y v:=by
  intro x y us h
  cases h with
  | cons r h=>cases h with | cons q h=>cases h;exact ⟨_,_,rfl,r,q⟩
theorem Vals.zero:∀ {us:List Value},Vals [] us->us=[]
  | _,.nil=>rfl
theorem Vals.dropLast {xs:List V} {us:List Value} (h:Vals xs us):Vals xs.dropLast us.dropLast:=by
  induction h with
  | nil=>exact .nil
  | cons r t ih =>
    cases t with
    | nil=>exact .nil
    | cons q t'=>exact .cons r ih
theorem Vals.reverse {xs:List V} {us:List Value} (h:Vals xs us):Vals xs.reverse us.reverse:=by
  induction h with
  | nil=>exact .nil
  | cons r t ih=>rw [List.reverse_cons,List.reverse_cons];exact Vals.append ih (.cons r .nil)
theorem Vals.rep {xs:List V} {us:List Value} (h:Vals xs us):∀ k:Nat,Vals (List.replicate k xs).flatten (List.replicate k us).flatten
  | 0=>.nil
  | k + 1=>by
    rw [List.replicate_succ,List.replicate_succ,List.flatten_cons,List.flatten_cons]
    exact Vals.append h (Vals.rep h k)
theorem erase_last {α:Type} (l:List α):l.eraseIdx (l.length - 1)=l.dropLast:=by
  induction l with
  | nil=>rfl
  | cons a r ih =>
    cases r with
    | nil=>rfl
    | cons b r =>
      have e:(a::b::r).length - 1=((b::r).length - 1) + 1:=by
        have h1:(a::b::r).length=r.length + 2:=rfl
        have h2:(b::r).length=r.length + 1:=rfl
        lia
      rw [e,List.eraseIdx_cons_succ,ih]
      all_goals rfl
theorem foldl_rep (its:List Value):∀ (k:Nat) (acc:List Value),
    List.foldl (fun x1 x2=>x1++x2) acc.toArray (List.replicate k its.toArray)=(acc++(List.replicate k its).flatten).toArray
  | 0,acc=>by simp
  | k + 1,acc=>by
    have e:acc.toArray++its.toArray=(acc++its).toArray:=by simp
    have e2:(acc++its)++(List.replicate k its).flatten=acc++(List.replicate (k + 1) its).flatten:=by
      rw [List.replicate_succ,List.flatten_cons,List.append_assoc]
    rw [<- e2,<- foldl_rep its k (acc++its),<- e,List.replicate_succ,List.foldl_cons]
section
variable {X:Cx} {pins:List (Addr × Obj)} {σ:St} {H:Hp} {s:Shared} {l b:Addr} {xs ys zs:List V}
theorem Inv.lset {its its':List Value} {n:Nat} {f:Array Value->Array Value} {t':Nat} (I:Inv X pins σ H s) (hH:H l=some (.lst xs))
    (e:s.heap.get? l=some { cls:=.type "list",data:=.seq its.toArray n }) (hf:f its.toArray=its'.toArray) (hv:Vals ys its') (hz:ys.length<=sizeLine) :
    Inv X pins σ (upd H l (.lst ys)) { s with heap:=s.heap.update l (Obj.mapSeq f),toks:=t' }:=by
  have q:=PySem.IsL.update e f
  rw [hf] at q
  refine I.write (x:=l) (e:=l) (by rw [hH];exact trivial) (.inl rfl) (fun b' u hb hu=>(Heap.get?_update_other s.heap (Obj.mapSeq f) (Ne.symm hb)).trans hu) ⟨_,q⟩ ?_
  exact ⟨hz,its',_,hv,q⟩
theorem Inv.lnew {its:List Value} {t':Nat} (I:Inv X pins σ H s) (hv:Vals ys its) (hz:ys.length<=sizeLine) :
    Inv X pins σ (upd H s.heap.objs.size (.lst ys)) { s with heap:=s.heap.push { cls:=.type "list",data:=.seq its.toArray },toks:=t' } :=
  I.laid (fun _ _ q=>Heap.get?_push_of_some _ q) (Nat.le_refl _) ⟨hz,its,0,hv,Heap.get?_push_size _ rfl⟩
theorem Inv.fresh (I:Inv X pins σ H s):H s.heap.objs.size=none:=I.hok.fresh (Nat.le_refl _)
theorem Inv.lstM (I:Inv X pins σ H s) (hH:H l=some (.lst xs)):xs.length<=sizeLine/\∃ (its:List Value) (n:Nat),Vals xs its/\xs.length=its.length/\s.heap.get? l=some { cls:=.type "list",data:=.seq its.toArray n }:=by
  obtain ⟨z,its,n,r,e⟩:=I.hok l _ hH
  exact ⟨z,its,n,r,r.length,e⟩
theorem notLongL {n:Nat} (h:n<=sizeLine):Builtin.List.listTooLong n=false:=by
  unfold Builtin.List.listTooLong
  exact decide_eq_false (by lia)
end
section
variable {X:Cx}
noncomputable def rAppend:V->List V->Hp->VK->Prop:=fun x vs H Q=>∃ l xs y,x=.ref l/\vs=[y]/\H l=some (.lst xs)/\xs.length < sizeLine/\Q .non (upd H l (.lst (xs++[y])))
theorem mt_append:MtM X "list.append" rAppend:=by
  intro pins s σ H x vs v us Q I rx rv h
  obtain ⟨l,xs,y,rfl,rfl,hH,hz,q⟩:=h
  cases rx
  obtain ⟨u,rfl,ru⟩:=rv.one
  obtain ⟨z,its,n,r,hl,e⟩:=I.lstM hH
  refine call_meets F.slot_list_append ⟨_,e,rfl⟩ F.entry_list_append (F.args_list_append_2 _ _) (PySem.list_append l its.toArray n u (by rw [List.size_toArray];lia)) ⟨e,?_⟩
  refine ⟨.non,_,I.lset (its':=its++[u]) hH e (by simp) (r.append (.cons ru .nil)) ?_,rfl,q⟩
  rw [List.length_append,List.length_singleton]
  lia
noncomputable def rPop:V->List V->Hp->VK->Prop:=fun x vs H Q=>∃ l xs y,x=.ref l/\vs=[]/\H l=some (.lst xs)/\xs[xs.length - 1]? = some y/\Q y (upd H l (.lst xs.dropLast))
theorem mt_pop:MtM X "list.pop" rPop:=by
  intro pins s σ H x vs v us Q I rx rv h
  obtain ⟨l,xs,y,rfl,rfl,hH,hy,q⟩:=h
  cases rx
  have hus:=rv.zero
  subst hus
  obtain ⟨z,its,n,r,hl,e⟩:=I.lstM hH
  obtain ⟨u,hu,ru⟩:=r.get hy
  have hy':its.toArray[its.toArray.size - 1]? = some u:=by
    show its.toArray[its.length - 1]? = some u
    rw [<- Array.getElem?_toList,<- hl]
    exact hu
  refine call_meets F.slot_list_pop ⟨_,e,rfl⟩ F.entry_list_pop (F.args_list_pop_1 _) (MeetsSeq.list_pop_last l its.toArray n u hy' (by rw [List.size_toArray];lia)) ⟨e,?_⟩
  refine ⟨y,_,I.lset (its':=its.dropLast) hH e ?_ r.dropLast ?_,ru,q⟩
  . show its.toArray.eraseIdxIfInBounds (its.toArray.size - 1)=its.dropLast.toArray
    rw [List.size_toArray,List.eraseIdxIfInBounds_toArray,erase_last]
  . rw [List.length_dropLast]
    lia
noncomputable def rCat:R2:=fun x y H Q=>∃ l b xs zs,x=.ref l/\y=.ref b/\H l=some (.lst xs)/\H b=some (.lst zs)/\xs.length + zs.length<=sizeLine/\∀ p,H p=none->Q (.ref p) (upd H p (.lst (xs++zs)))
noncomputable def rRep:R2:=fun x y H Q=>∃ l k xs,x=.ref l/\y=.int k/\H l=some (.lst xs)/\-(2 ^ 63)<=k/\k < 2 ^ 63/\xs.length * k.toNat<=sizeLine /\
  ∀ p,H p=none->Q (.ref p) (upd H p (.lst (List.replicate k.toNat xs).flatten))
theorem len_rep {α:Type} (xs:List α) (k:Nat):(List.replicate k xs).flatten.length=k * xs.length:=by
  induction k with
  | zero=>simp
  | succ k ih=>rw [List.replicate_succ,List.flatten_cons,List.length_append,ih,Nat.succ_mul,Nat.add_comm]
theorem op_rep:OpR X (binaryOp .Mult) rRep:=by
  intro pins s σ H x y v u Q I rx ry h
  obtain ⟨l,k,xs,rfl,rfl,hH,h1,h2,hz,q⟩:=h
  cases rx
  obtain ⟨t,rfl⟩:=ry
  obtain ⟨z,its,n,r,hl,e⟩:=I.lstM hH
  have hlen:its.toArray.size * k.toNat<=sizeLine:=by rw [List.size_toArray,<- hl];exact hz
  have hcap:¬ its.toArray.size * k.toNat > (2 ^ 63 - 1) / 8:=by
    have:(sizeLine:Nat)<=(2 ^ 63 - 1) / 8:=by decide
    lia
  have hfit:¬ (!Builtin.List.listFitsIndex k)=true:=by
    rw [fitsIndex_both h1 h2]
    exact Bool.false_ne_true
  have hlong:¬ Builtin.List.listTooLong (its.toArray.size * k.toNat)=true:=by
    rw [notLongL hlen]
    exact Bool.false_ne_true
  have hnew:List.foldl (fun x1 x2=>x1++x2) #[] (List.replicate (if its.toArray.isEmpty=true then 0 else k.toNat) its.toArray)=(List.replicate k.toNat its).flatten.toArray:=by
    have f0:∀ m:Nat,List.foldl (fun x1 x2=>x1++x2) #[] (List.replicate m its.toArray)=(List.replicate m its).flatten.toArray:=fun m=>by
      have:=foldl_rep its m []
      rw [List.nil_append] at this
      exact this
    rw [f0]
    cases its with
    | nil=>simp
    | cons a r'=>rw [if_neg (by simp)]
  refine wpAny_binaryOp_repeat_ref (T:="list") (U:="int") (by decide) ⟨_,e,rfl⟩ (fun s'=>typeIs_int s' k t) noFill_list_mul F.fills_int_mul F.slot_int_rmul repeat_list F.slot_int_index.lookup
    (call_meets F.slot_int_rmul (typeIs_int s k t) F.entry_int_rmul (F.args_int_rmul_2 _ _) (int___rmul___int_list k t l its.toArray n)
      ⟨e,rfl,⟨_,e,rfl⟩,call_meets F.slot_list_mul ⟨_,e,rfl⟩ F.entry_list_mul (F.args_list_mul_2 _ _) (AutoListH.list___mul___list_int_3 l its.toArray n k t hfit hcap hlong) ⟨e,?_⟩⟩)
  rw [hnew]
  exact ⟨.ref _,_,I.lnew (t':=s.toks) (r.rep k.toNat) (by rw [len_rep,Nat.mul_comm];exact hz),rfl,q _ I.fresh⟩
end
end L2
namespace Att
open PySem PySem.W PySem.Calls PyProof.Rows
theorem ints_of_wellAll {P:Params} {h:Heap}:∀ (ns:List Int) (vs:List Value),WellAll P h vs (ns.map WData.int)->IntsAre vs ns:=by
  intro ns
  induction ns with
  | nil =>
    intro vs w
    rw [List.map_nil] at w
    cases w
    exact .nil
  | cons n ns ih =>
    intro vs w
    rw [List.map_cons] at w
    cases w with
    | cons a b =>
      cases a
      exact .cons _ _ (ih _ b)
theorem script_of {l:OpenLaw} {n:Nat} (hn:l.most=some n) {P:Params} {h:Heap} {args:List WData} {vals:List Value}
    (hpre:l.row.toRowW.claim.pre args=true) (hwl:WellAll P h vals args) :
    ∃ a vs ns,vals=[Value.ref a]/\args=[WData.list (ns.map WData.int)]/\h.get? a=some { cls:=.type "list",data:=.seq vs.toArray }/\IntsAre vs ns/\ns.length<=n:=by
  have hsh:WShape.hasAll [] args [.list .int]=true:=(pre_splitW hpre).1
  have hc:l.pre.holds [] { args:=args }=true:=(pre_splitW hpre).2
  obtain ⟨d,r,rfl,h1,h2⟩:=hasAllW_cons hsh
  obtain rfl:=hasAllW_nil h2
  obtain ⟨xs,rfl,h3⟩:=hasW_list h1
  obtain ⟨ns,rfl⟩:=items_int h3
  have hlen:ns.length<=n:=by
    unfold OpenLaw.pre at hc
    have h4:(WTm.not (.lt (.lit (.int (n:Int))) (.len (.arg 0)))).holds [] { args:=[.list (ns.map .int)] }=true:=by
      have h4:=(holds_andW hc).1
      rw [hn] at h4
      exact h4
    have h5:=condW_of h4 (w_not (w_lt w_lit (w_len_list (w_arg rfl))))
    rw [List.length_map] at h5
    refine Nat.le_of_not_lt fun q=>?_
    have q':(n:Int) < ((ns.length:Nat):Int):=by lia
    first
      | (rw [decide_eq_true q'] at h5;exact absurd h5 (by decide))
      | (simp at h5;lia)
  cases hwl with
  | cons w1 w2 =>
    cases w2
    cases w1 with
    | list ho hall=>exact ⟨_,_,ns,rfl,rfl,ho,ints_of_wellAll ns _ hall,hlen⟩
theorem post_true (l:OpenLaw) (args:List WData):l.row.toRowW.claim.post args (.bool true) args=true :=
  postW_of (r:=l.row.toRowW) (X:=(true == true))
    (show WShape.has [] (.bool true) .bool=true by first | rfl | decide | simp [WShape.has,WShape.arms,WShape.armsAll])
    (show (WTm.eq .res (.lit (.bool true))).value [] { args:=args,res:=some (.bool true),after:=args }=some (.bool (true == true)) from w_eq_bool (w_res rfl) w_lit) rfl
theorem attach_call {l:OpenLaw} {n:Nat} {q:Program} {loose:List Str} {XP:(Str->Option Value)->Heap->Prop} {YP:World->Heap->Prop} {d:DefRec}
    (hn:l.most=some n) (hdf:d.params.defaults=[])
    (call:∀ (w:World) (s₀ s₁:Shared) (mg mb:Str->Option Value) (fa:Addr) (o:Obj) (pm cd doc:Value) (a:Addr) (vs:List Value) (ns:List Int),
      Ground q loose [] XP w s₀ mg mb s₁.heap->YP w s₁.heap ->
      s₁.heap.get? fa=some o->o.data=.func (docDef d.name d.params d.body d.scope pm cd doc)->s₁.heap.CodeRec cd d.name->mg d.name=some (.ref fa) ->
      s₁.heap.get? a=some { cls:=.type "list",data:=.seq vs.toArray }->IntsAre vs ns->ns.length<=n->s₁.gens=#[] ->
      codeAny (model l.prog w) callerA (.call (.ref fa) ⟨[.ref a],[]⟩) (fun r s'=>r=.ok (.ret (.bool true))/\OldK s₁.heap s'.heap/\s'.os=s₁.os/\AllBare s'.gens) s₁) :
    WalkO q loose XP YP l.row.toRowW d [] (fun f vs=>PySem.call f vs):=by
  intro w s₀ s₁ mg mb G Y fa o pm cd doc dV kV ho hd hcd hD hmg hg args vals as hpre hlay hrd hwl hlo
  obtain rfl:dV=.none:=Dflts.none hD hdf
  obtain rfl:kV=.none:=Dflts.noKw hD
  obtain ⟨a,vs,ns,rfl,rfl,hobj,hints,hlen⟩:=script_of hn hpre hwl
  refine enter_call (codeAny_mono (call w s₀ s₁ mg mb fa o pm cd doc a vs ns G Y ho (fd_plain hd) hcd hmg hobj hints hlen hg) fun r s' hq=>?_)
  obtain ⟨rfl,h2,h3,h4⟩:=hq
  exact ⟨.inl ⟨.bool true,.bool true,[],rfl,fun _=>rfl,.bool true,post_true l _,fun _=>⟨List.Pairwise.nil,fun _ hm=>(nomatch hm)⟩⟩,h2,h3,h4⟩
end Att
namespace L2
open PySem PySem.Spec PyProof.Rows
theorem vals_ints:∀ {vs:List Value} {ns:List Int},IntsAre vs ns->Vals (ns.map V.int) vs
  | _,_,.nil=>.nil
  | _,_,.cons n t h=>.cons ⟨t,rfl⟩ (vals_ints h)
noncomputable def Only (H:Hp):Prop:=∀ b,H b=none\/∃ o xs,H b=some (.frz o (.lst xs))
theorem law_call {P:Program} {w:World} {K:PySem.W.Frag} {mg mb:Str->Option Value} {CX:CXT} {k:Nat} {fa a:Addr} {fd:FuncData} {x:Str} {sp:Sp} {s₁:Shared} {vs:List Value} {ns:List Int}
    (KX:K.In s₁.heap) (hns:s₁.heap.Ns mainGlobals mg) (hb:s₁.heap.Ns builtinsNs mb) (hbb:∀ x:Str,x≠"__name__"->mb x=bootBuiltins x) (hlim:s₁.heap.NoLimit) (hg:s₁.gens=#[])
    (ha:s₁.heap.get? a=some { cls:=.type "list",data:=.seq vs.toArray }) (hi:IntsAre vs ns) (hl:ns.length<=sizeLine) (hr:Room k callerA)
    (F:∀ base:Heap,K.In base->base.Ns mainGlobals mg->FnOk P w K mg base CX k fa fd [x] sp) (hbind:∀ (s:Shared) (u:Value),BindsTo s fd ⟨[u],[]⟩ [(x,u)])
    (hsp:∀ H:Hp,Only H->SqL K H a (ns.map V.int)->sp [.ref a] H (fun v _=>v=.bl true) fun _ _ _=>False)
    (hCX:∀ H e s',CX [] H s₁ (fun _ _ _=>False) e s'->False) :
    codeAny (model P w) callerA (.call (.ref fa) ⟨[.ref a],[]⟩) (fun r s'=>r=.ok (.ret (.bool true))/\OldK s₁.heap s'.heap/\s'.os=s₁.os/\AllBare s'.gens) s₁:=by
  have rv:=vals_ints hi
  have lenV:=hi.length
  have core : ∀ H:Hp,Only H->SqL K H a (ns.map V.int)->HOk P w H s₁.heap->(∀ b,H b≠none->b=a)->(H a≠none->K.lookup a=none) ->
      codeAny (model P w) callerA (.call (.ref fa) ⟨[.ref a],[]⟩) (fun r s'=>r=.ok (.ret (.bool true))/\OldK s₁.heap s'.heap/\s'.os=s₁.os/\AllBare s'.gens) s₁:=by
    intro H hO hS hok hA hK
    have base_of:∀ {b:Addr} {o:Obj},s₁.heap.get? b=some o->H b=none->(hidT s₁.heap H).get? b=some o:=fun e n=>hidT_get e n
    have noA:∀ {b:Addr} {o:Obj} {es:Array DictEntry} {ep:Nat},s₁.heap.get? b=some o->o.data=.dict es ep->H b=none:=fun {b o es ep} e d=>by
      cases q:H b with
      | none=>rfl
      | some u =>
        have e':b=a:=hA b (by rw [q];simp)
        subst e'
        rw [ha] at e;cases e
        have d':Data.seq vs.toArray _=Data.dict es ep:=d
        cases d'
    have nsK:∀ {b:Addr} {m:Str->Option Value},s₁.heap.Ns b m->(hidT s₁.heap H).Ns b m:=fun {b m} ⟨o,es,ep,e,d,r⟩=>⟨o,es,ep,base_of e (noA e d),d,r⟩
    have hKb:K.In (hidT s₁.heap H):=fun b o e=>base_of (KX b o e) (by
      cases q:H b with
      | none=>rfl
      | some u =>
        have e':b=a:=hA b (by rw [q];simp)
        subst e'
        rw [hK (by rw [q];simp)] at e;cases e)
    have hM:Mod K mg (hidT s₁.heap H):=⟨hKb,nsK hns,⟨mb,nsK hb,hbb⟩,let ⟨mc,h1,h2⟩:=hlim;⟨mc,nsK h1,h2⟩⟩
    have e0:Env0 P w K mg (hidT s₁.heap H) callerA [] s₁ H:=⟨rfl,hM,fun b o e=>of_hidT e,Nat.le_of_eq (hidT_size _ _),trivial,fun b hb=>absurd (show b∈([]:List Addr) from hb) (by simp),hok,.of_eq hg⟩
    refine codeAny_mono ((F _ hKb (nsK hns)).run callerA [] s₁ H ⟨[.ref a],[]⟩ [.ref a] [.ref a] _ _ hr e0 (hbind s₁ (.ref a)) (.cons rfl .nil) (hsp H hO hS)) fun r s' h=>?_
    cases r with
    | error e=>exact (hCX H e s' h).elim
    | ok fl =>
      cases fl with
      | next=>exact False.elim h
      | brk=>exact False.elim h
      | cont=>exact False.elim h
      | ret u =>
        obtain ⟨v,H',os,bare,un,hok',r',q⟩:=h
        have q':v=.bl true:=q
        subst q'
        obtain rfl:u=Value.bool true:=r'
        refine ⟨rfl,OldK.of_keep fun b o e=>?_,os,bare⟩
        cases q:H b with
        | none=>exact un.keep b o e q (by intro z;exact absurd (show b∈([]:List Addr) from z) (by simp)) (by simp)
        | some u =>
          rcases hO b with z | ⟨ob,xs,z⟩
          . rw [q] at z;cases z
          . have z2:=un.frzs b ob _ z
            obtain ⟨e1,_⟩:=hok b _ z
            obtain ⟨e2,_⟩:=hok' b _ z2
            rw [e] at e1;cases e1
            exact e2
  cases hk:K.lookup a with
  | some o =>
    have e:=KX a o hk
    rw [ha] at e
    cases e
    refine core (fun _=>none) (fun _=>.inl rfl) (.inr ⟨_,vs.toArray,_,hk,rfl,rfl,rfl,by rw [List.size_toArray,lenV];exact hl,by simpa using rv⟩) (fun b u z=>by have z':(none:Option HO)=some u:=z;cases z') (fun b z=>absurd rfl z) fun z=>absurd rfl z
  | none =>
    refine core (fun b=>if b=a then some (.frz { cls:=.type "list",data:=.seq vs.toArray } (.lst (ns.map V.int))) else none) (fun b=>?_) (.inl (.inr ⟨{ cls:=.type "list",data:=.seq vs.toArray },if_pos rfl⟩)) (fun b u z=>?_) (fun b z=>?_) fun _=>hk
    . by_cases hb:b=a
      . exact .inr ⟨_,_,if_pos hb⟩
      . exact .inl (if_neg hb)
    . by_cases hb:b=a
      . have z':=(if_pos hb).symm.trans z
        cases z'
        subst hb
        exact ⟨ha,by rw [List.length_map];exact hl,vs,_,rv,ha⟩
      . have z':=(if_neg hb).symm.trans z
        cases z'
    . by_cases hb:b=a
      . exact hb
      . exact absurd (if_neg hb) z
end L2
namespace L2
open PySem PySem.Spec PyProof.Rows
theorem walk_of {l:PySem.W.OpenLaw} {n k:Nat} {q:Program} {loose:List Str} {XP:(Str->Option Value)->Heap->Prop} {YP:World->Heap->Prop} {d:DefRec} {K:Params->PySem.W.Frag} {CX:World->CXT} {sp:World->Sp} {x:Str}
    (hn:l.most=some n) (hn2:n<=sizeLine) (hdf:d.params.defaults=[]) (hr:Room k callerA)
    (hY:∀ (w:World) (h:Heap),YP w h->(K w.params).In h)
    (F : ∀ (w:World) (mg:Str->Option Value) (fa:Addr) (h:Heap),(K w.params).In h->h.Ns mainGlobals mg->mg d.name=some (.ref fa) ->
      ∃ fd:FuncData,(∀ (s:Shared) (u:Value),BindsTo s fd ⟨[u],[]⟩ [(x,u)]) /\
        ∀ base:Heap,(K w.params).In base->base.Ns mainGlobals mg->FnOk l.prog w (K w.params) mg base (CX w) k fa fd [x] (sp w))
    (hsp:∀ (w:World) (H:Hp) (a:Addr) (ns:List Int),ns.length<=n->Only H->SqL (K w.params) H a (ns.map V.int)->sp w [.ref a] H (fun v _=>v=.bl true) fun _ _ _=>False)
    (hCX:∀ (w:World) (H:Hp) (s:Shared) (e:Value) (s':Shared),CX w [] H s (fun _ _ _=>False) e s'->False) :
    PySem.W.WalkO q loose XP YP l.row.toRowW d [] (fun f vs=>PySem.call f vs):=by
  refine Att.attach_call hn hdf fun w s₀ s₁ mg mb fa o pm cd doc a vs ns G Y ho hd hcd hmg hobj hints hlen hg=>?_
  have KX:=hY w _ Y
  obtain ⟨fd,hb,hF⟩:=F w mg fa _ KX G.T.g hmg
  exact law_call KX G.T.g G.T.b G.T.builtins G.T.nolimit hg hobj hints (Nat.le_trans hlen hn2) hr hF hb (fun H hO hS=>hsp w H a ns hlen hO hS) fun H e s'=>hCX w H s₁ e s'
end L2
namespace L2
open PySem PySem.Spec PyProof.Rows
noncomputable def inClass (s:Stmt) (j:Nat):Stmt:=match s with
  | .ClassDef _ _ _ body _ _ _ _ _ _ _=>body.getD j (.Pass ⟨0,0,0,0⟩)
  | _=>.Pass ⟨0,0,0,0⟩
noncomputable def defArgs (s:Stmt):Arguments:=match s with
  | .FunctionDef _ a _ _ _ _ _ _ _ _=>a
  | _=>{ posonlyargs:=[],args:=[],vararg:=none,kwonlyargs:=[],kw_defaults:=[],kwarg:=none,defaults:=[] }
noncomputable def defBody (s:Stmt):List Stmt:=match s with
  | .FunctionDef _ _ b _ _ _ _ _ _ _=>b
  | _=>[]
noncomputable def defScope (s:Stmt):Scope:=match s with
  | .FunctionDef _ _ _ _ _ _ sc _ _ _=>sc
  | _=>{ kind:=.function,names:=[],isGenerator:=false,isCoroutine:=false }
noncomputable abbrev CX0:CXT:=fun _ _ _ _ _ _=>False
noncomputable abbrev E0:XK:=fun _ _ _=>False
theorem pass0 {X:Cx}:Passes CX0 X E0:=fun _ _ _ _ _ _ _ h=>h.elim
structure Fun (K:PySem.W.Frag) (x qual:Str) (st:Stmt) (f:Addr) (fd:FuncData):Prop where
  ex : ∃ (oc:Value) (od:Option Addr) (kV doc pm:Value) (an:Option Addr) (cdv ct:Value) (osl:Array (Option Value)),
    fd=PySem.W.fnOf x qual (defArgs st) (defBody st) (defScope st) .none kV doc pm an cdv ct/\K.lookup f=some ⟨oc,od,.func fd,osl⟩/\PySem.W.codeIn K cdv qual=true
  kp:PySem.W.keepIn K (.ref f)=true
section
variable {P:Program} {w:World} {K:PySem.W.Frag} {mg:Str->Option Value} {base:Heap}
theorem Fun.ok {x qual:Str} {st:Stmt} {f:Addr} {fd:FuncData} {N ps:List Str} {k:Nat} {sp:Sp} (F:Fun K x qual st f fd) (S:FnScope N ps (defScope st)) (len:∀ vs H Q E,sp vs H Q E->vs.length=ps.length)
    (hbody:∀ (cdv:Value) (A:Around) (outer:List Env) (s:Shared) (H:Hp) (vs:List V) (Q:VK) (E:XK),Room k (A.deeper (envOfC qual (defScope st) s.heap.objs.size f cdv))->sp vs H Q E ->
      ∃ t,PSs (cxOf CX0 P w K mg base N qual (defScope st) f cdv A outer s H E).nox (defBody st) t/\t { nx:=fun _ H'=>Q .non H',rt:=Q } (start N vs) H):FnOk P w K mg base CX0 (k + 1) f fd ps sp:=by
  obtain ⟨oc,od,kV,doc,pm,an,cdv,ct,osl,rfl,lk,hcd⟩:=F.ex
  refine fn_of lk hcd S len fun A outer s H vs Q E hr hsp=>?_
  obtain ⟨t,h,q⟩:=hbody cdv A outer s H vs Q E hr hsp
  exact ⟨t,h.nox,q⟩
theorem Fun.binds {x qual:Str} {st:Stmt} {f:Addr} {fd:FuncData} {ps:List Str} (F:Fun K x qual st f fd)
    (h:∀ (kV doc pm:Value) (an:Option Addr) (cdv ct:Value) (us:List Value),us.length=ps.length->bindArgs (PySem.W.fnOf x qual (defArgs st) (defBody st) (defScope st) .none kV doc pm an cdv ct) ⟨us,[]⟩=pure (ps.zip us)):Binds K fd ps []:=by
  obtain ⟨oc,od,kV,doc,pm,an,cdv,ct,osl,rfl,lk,hcd⟩:=F.ex
  exact .all (h kV doc pm an cdv ct)
theorem fun_mk {x qual:Str} {st:Stmt} {f:Addr} {oc:Value} {od an:Option Addr} {osl:Array (Option Value)} {kV doc pm cdv ct:Value} (l:K.lookup f=some ⟨oc,od,.func (PySem.W.fnOf x qual (defArgs st) (defBody st) (defScope st) .none kV doc pm an cdv ct),osl⟩)
    (c:PySem.W.codeIn K cdv qual=true) (k:PySem.W.keepIn K (.ref f)=true):Fun K x qual st f (PySem.W.fnOf x qual (defArgs st) (defBody st) (defScope st) .none kV doc pm an cdv ct):=⟨⟨oc,od,kV,doc,pm,an,cdv,ct,osl,rfl,l,c⟩,k⟩
end
theorem small1000 {n:Nat} (h:n<=1000):n < sizeLine:=Nat.lt_of_le_of_lt h (by decide)
section
variable {X:Cx}
theorem pv (i:Nat) {x:Str} {pos:Pos} (hN:X.N[i]? = some x:=by rfl) (hv:Vis X.env.scope x:=by first | exact Or.inl rfl | exact Or.inr (Or.inl rfl) | exact Or.inr (Or.inr rfl)) (hd:(x == ("__debug__":Str))=false:=by decide)
    (hcd:(x == ("__classdict__":Str))=false:=by decide):PE X (.Name x pos) (tVar i):=pe_var hN hv hd hcd
end
noncomputable def Same (H H':Hp):Prop:=∀ b o,H b=some o->H' b=some o
theorem Same.refl (H:Hp):Same H H:=fun _ _ h=>h
end L2
namespace L2
open PySem PySem.W
noncomputable def topRunT (tb:String->Option Builtin) (p:Program) (w:World) (n₀:Nat) (ann:Option Value):Nat->SharedT->Thread->Option SharedT
  | 0,_,_=>none
  | n + 1, s,t=>match through t with
    | true=>some s
    | false=>match stepOk n₀ ann t with
      | false=>none
      | true=>match stepT (denote tb) p w s t with
        | some (s',t')=>topRunT tb p w n₀ ann n s' t'
        | none=>none
theorem topRun_of {tb:String->Option Builtin} {p:Program} {w:World} {n₀:Nat} {ann:Option Value}:∀ {n:Nat} {s s':SharedT} {t:Thread},topRunT tb p w n₀ ann n s t=some s'->topRun tb p w n₀ ann n s.abs t=some s'.abs
  | 0,_,_,_,h=>by cases h
  | n + 1, s,s',t,h=>by
    unfold topRunT at h
    unfold topRun
    cases ht:through t with
    | true=>rw [ht] at h;cases h;rfl
    | false =>
      rw [ht] at h
      cases hk:stepOk n₀ ann t with
      | false=>rw [hk] at h;cases h
      | true =>
        rw [hk] at h
        cases hs:stepT (denote tb) p w s t with
        | none=>rw [hs] at h;cases h
        | some r=>obtain ⟨s₂,t₂⟩:=r;rw [hs] at h;rw [stepT_spec hs];exact topRun_of h
noncomputable def pushT (x:Option (BT × Nat)) (o:Obj):Option (BT × Nat):=match x with
  | none=>none
  | some (t,n)=>match ((t.ins n o).get n).isSome with
    | true=>some (t.ins n o,n + 1)
    | false=>none
noncomputable def buildT (l:List Obj):Option (BT × Nat):=l.foldl pushT (some (.nil,0))
theorem push_none:∀ l:List Obj,l.foldl pushT none=none
  | []=>rfl
  | o::l=>push_none l
theorem build_go:∀ (l pre:List Obj) (t:BT) (n:Nat) (T:BT) (m:Nat) (life:Life),n=pre.length->absHeap t n life=⟨pre.toArray,life⟩->l.foldl pushT (some (t,n))=some (T,m)->m=(pre++l).length/\absHeap T m life=⟨(pre++l).toArray,life⟩
  | [],pre,t,n,T,m,life,hn,h,e=>by
    cases e
    rw [List.append_nil]
    exact ⟨hn,h⟩
  | o :: l,pre,t,n,T,m,life,hn,h,e=>by
    rw [List.foldl_cons] at e
    cases hs:((t.ins n o).get n).isSome with
    | false =>
      have:pushT (some (t,n)) o=none:=by unfold pushT;simp only [hs]
      rw [this,push_none] at e;cases e
    | true =>
      have hp:pushT (some (t,n)) o=some (t.ins n o,n + 1):=by unfold pushT;simp only [hs]
      rw [hp] at e
      have:=build_go l (pre++[o]) (t.ins n o) (n + 1) T m life (by rw [List.length_append,hn];rfl) (by
        rw [absHeap_ins hs,h]
        show Heap.mk _ _=Heap.mk _ _
        simp) e
      rw [List.append_assoc] at this
      exact this
theorem build_abs {l:List Obj} {T:BT} {m:Nat} {life:Life} (h:buildT l=some (T,m)):m=l.length/\absHeap T m life=⟨l.toArray,life⟩:=by
  have:=build_go l [] .nil 0 T m life rfl rfl h
  simpa using this
noncomputable def forceL {β:Type}:List Obj->(List Obj->β)->β
  | [],k=>k []
  | ⟨a,b,c,d⟩::l,k=>forceL l fun l'=>k (⟨a,b,c,d⟩::l')
theorem forceL_eq {β:Type}:∀ (l:List Obj) (k:List Obj->β),forceL l k=k l
  | [],k=>rfl
  | ⟨a,b,c,d⟩::l,k=>by rw [forceL,forceL_eq l]
noncomputable def headT {β:Type} (p:Program) (w:World) (os:OsState) (m:Nat) (ann:Option Value) (M:Nat) (k:Shared->β):Option β :=
  match buildT (boot_heap w.params).objs.toList with
  | none=>none
  | some (T,n)=>match topRunT treeTable p w m ann M ⟨T,n,(boot_heap w.params).life,#[],boot_drawn,boot_toks,os⟩ (topStub p) with
    | none=>none
    | some s=>some (forceL (s.tree.list s.n) fun l=>k ⟨⟨l.toArray,s.life⟩,s.gens,s.drawn,s.toks,s.os⟩)
theorem headT_run {β:Type} {p:Program} {w:World} {os:OsState} {m:Nat} {ann:Option Value} {M:Nat} {k:Shared->β} {r:β} (h:headT p w os m ann M k=some r):∃ s,topRun treeTable p w m ann M ⟨boot_heap w.params,#[],boot_drawn,boot_toks,os⟩ (topStub p)=some s/\k s=r:=by
  unfold headT at h
  cases hb:buildT (boot_heap w.params).objs.toList with
  | none=>rw [hb] at h;cases h
  | some x =>
    obtain ⟨T,n⟩:=x
    rw [hb] at h
    obtain ⟨hn,ha⟩:=build_abs (life:=(boot_heap w.params).life) hb
    have ha:absHeap T n (boot_heap w.params).life=boot_heap w.params:=by rw [ha]
    simp only at h
    cases ht:topRunT treeTable p w m ann M ⟨T,n,(boot_heap w.params).life,#[],boot_drawn,boot_toks,os⟩ (topStub p) with
    | none=>rw [ht] at h;cases h
    | some s =>
      rw [ht] at h
      simp only [forceL_eq,Option.some.injEq] at h
      have:=topRun_of ht
      rw [show (SharedT.mk T n (boot_heap w.params).life #[] boot_drawn boot_toks os).abs=⟨boot_heap w.params,#[],boot_drawn,boot_toks,os⟩ from by unfold SharedT.abs;simp only;rw [ha]] at this
      exact ⟨s.abs,this,h⟩
theorem left_whole {p q:Program} {loose:List Str} {Xt:Shared->Bool} {α:Type} {Yf:Shared->α} {Ya:World->α} {N:Nat} {g0:Bool} {m:Nat} {ann:Option Value}
    (e:opening p=plainProg p.main.scope.names) (hN:Nat.ble 600 N=true) (f:∀ s,fenceModules? p s=some s)
    (size:∀ w:World,((boot_heap w.params).isNs mainGlobals,(boot_heap w.params).objs.size,(boot_heap w.params).nsMap mainGlobals "__annotations__")=(true,m,ann))
    (run:∀ (w:World) (os:OsState),headT p w os m ann N (fun s=>(staticsOk (importedModules p.main.body) (boot_heap w.params) s.heap && namesBound p s.heap && gensDone s && laidKept (boot_heap w.params) s.heap,openSeen q loose (importedModules p.main.body) Xt g0 s,Yf s))=some (true,openGood q loose,Ya w)) :
    LeftO p q loose Xt Yf Ya N g0:=fun w=>by
  obtain ⟨⟨h,gs,d,k,os⟩,eo,e'⟩:=Option.map_eq_some_iff.mp (boot_open e hN f w)
  obtain ⟨rfl,rfl,rfl,rfl⟩:h=boot_heap w.params/\gs=#[]/\d=boot_drawn/\k=boot_toks:=by simpa using e'
  obtain ⟨z1,z2,z3⟩:_/\_/\_:=by simpa only [Prod.mk.injEq] using size w
  obtain ⟨s,r,l⟩:=headT_run (run w os)
  obtain ⟨l1,l2,l3⟩:_/\_/\_:=by simpa only [Prod.mk.injEq] using l
  have t:topFrom treeTable p w N ⟨boot_heap w.params,#[],boot_drawn,boot_toks,os⟩=some s:=by
    unfold topFrom
    dsimp only
    rw [z1,z2,z3,r]
    show (match staticsOk (importedModules p.main.body) (boot_heap w.params) s.heap && namesBound p s.heap && gensDone s && laidKept (boot_heap w.params) s.heap with | true=>_ | false=>_)=_
    rw [l1]
  unfold openEnds
  rw [eo]
  show (topFrom treeTable p w N _).map _=_
  rw [t]
  exact congrArg some (Prod.ext l2 l3)
noncomputable def hEnt (P:Params) (x:Str) (t:Nat) (v:Value):DictEntry:=⟨PyData.keyHash P x,.str x t,v⟩
noncomputable def hNs (n:Nat) (es:List DictEntry):Obj:=⟨.type "dict",none,.dict es.toArray n,#[]⟩
noncomputable def hTup (vs:List Value):Obj:=⟨.type "tuple",none,.seq vs.toArray 0,#[]⟩
noncomputable def hRf:Option Nat->Value
  | some a=>.ref a
  | none=>.none
noncomputable def hCode (x q:Str) (t ln ac fl a b:Nat) (d e:Option Nat) (f m n:Nat):Obj :=
  ⟨.type "code",none,.fields #[.str x t,.str q (t + 1),.str "/claim/cut.py" (t + 2),.int ln 0,.int ac 0,.int 0 0,.int 0 0,.int fl 0,.ref a,.bool true,.int 181 0,.ref b,.none,hRf d,hRf e,.ref f,.int m 0,.int ln 0,.str "/claim/cut.py" n],#[]⟩
noncomputable def hFun (st:Stmt) (x q:Str) (pm:Value) (c:Nat):Obj:=⟨.type "function",none,.func (fnOf x q (defArgs st) (defBody st) (defScope st) .none .none .none pm none (.ref c) .none),#[]⟩
noncomputable def hBoot (w:World):Bool × Nat × Option Value:=((boot_heap w.params).isNs mainGlobals,(boot_heap w.params).objs.size,(boot_heap w.params).nsMap mainGlobals "__annotations__")
end L2
set_option maxHeartbeats 4000000
namespace L2
open PySem PySem.Spec PyProof.Rows
end L2
namespace L2
open PySem PySem.Spec PyProof.Rows
theorem compLoop_any {prog:Program} {w:World} {A:Around} {R:Result->Shared->Prop} {s:Shared} {elt target iter:Expr} {ifs:List Expr} {scope:Scope} {pos:Pos} {it acc:Value} {env:Env} (I:Nat->Shared->Prop)
    (turn : ∀ n s,I n s->wpAny (model prog w) A (pyNext it) (fun r s₁=>match r with
      | none=>R (.ok .next) s₁
      | some v => wpAny (model prog w) A (letOwnedTupleGo target it v) (fun _ s₁'=>wpAny (model prog w) A (assign target env v) (fun _ s₂ =>
          wpAny (model prog w) A (forIn ifs true fun c r=>if r=true then do let ok <- isTrue c env (eval c env);pure (ForInStep.yield ok) else pure (ForInStep.yield r)) (fun ok s₃ =>
            if ok=true then wpAny (model prog w) A (eval elt env) (fun x s₄ =>
              wpAny (model prog w) A (call (.builtin "list.append") [acc,x]) (fun _ s₅=>∃ m,m < n/\I m s₅) (fun _ _=>False) s₄) (fun _ _=>False) s₃
            else ∃ m,m < n/\I m s₃) (fun _ _=>False) s₂) (fun _ _=>False) s₁') (fun _ _=>False) s₁) (fun _ _=>False) s)
    (n:Nat) (h:I n s) :
    codeAny (model prog w) A (.compLoop (.ListComp elt [⟨target,iter,ifs,0⟩] scope pos) 0 it acc env) R s:=by
  refine codeAny_loop rfl I (fun n s hI=>?_) n h
  show wpAny _ A ((compTurn (.ListComp elt [⟨target,iter,ifs,0⟩] scope pos) 0 it acc env).onRaise (fun x=>do noteFrame x env;theTreesLotGoes x)) _ _ s
  refine wpAny_noted ?_
  rw [compTurn_list]
  refine wpAny_bind (wpAny_standAt (wpAny_bind (wpAny_mono (turn n s hI) (fun r s₁ h₁=>?_) fun _ _ h'=>h'.elim)))
  cases r with
  | none=>exact wpAny_pure h₁
  | some v =>
    refine wpAny_bind (wpAny_mono h₁ (fun _ s₁' h₁'=>?_) fun _ _ h'=>h'.elim)
    refine wpAny_bind (wpAny_mono h₁' (fun _ s₂ h₂=>wpAny_bind (wpAny_mono h₂ (fun ok s₃ h₃=>?_) fun _ _ h'=>h'.elim)) fun _ _ h'=>h'.elim)
    cases ok with
    | false=>exact wpAny_pure ⟨rfl,h₃⟩
    | true =>
      exact wpAny_bind (wpAny_bind (wpAny_mono h₃ (fun x s₄ h₄=>wpAny_bind (wpAny_mono h₄ (fun _ s₅ h₅=>wpAny_pure (wpAny_pure ⟨rfl,h₅⟩)) fun _ _ h'=>h'.elim)) fun _ _ h'=>h'.elim))
noncomputable def Cx.comp (X:Cx) (scope:Scope) (cl:List (Str × Addr)) (N:List Str) (pins:List (Addr × Obj)) (s:Shared) (H:Hp) (fp:List Addr):Cx where
  prog:=X.prog
  w := X.w
  K := X.K
  mg:=X.mg
  base:=X.base
  A := X.A
  N := N
  s₀:=s
  H₀:=H
  env:=compEnvC scope cl s.heap.objs.size X.env
  outer:=X.stack
  stack:=X.stack
  ex:=fp
  fn:=fun _=>false
  calm:=X.calm
  pn:=X.pn++pins
  xe:=fun _ _=>False
noncomputable def compStart (nt:Nat) (frs:List (Str × Nat)) (σ:St):St:=List.replicate nt none++frs.map fun p=>(σ[p.2]?).join
structure CompScope (X:Cx) (scope:Scope) (cl:List (Str × Addr)) (ts:List Str) (frs:List (Str × Nat)):Prop where
  clos:closureFor scope X.env=pure cl
  kind:scope.kind=.function
  nocell:∀ y∈scope.names,y.2≠.cell
  names:∀ y∈scope.names,y.2=.local->scope.names.lookup y.1=some .local
  sub:∀ p∈cl,X.env.cells.lookup p.1=some p.2
  has:∀ p∈(relabel scope X.env).names,p.2=.cell\/p.2=.free->(cl.lookup p.1).isSome=true
  out:∀ p∈frs,X.N[p.2]? = some p.1/\(X.env.kindOf p.1=some .cell\/X.env.kindOf p.1=some .free)/\((relabel scope X.env).names.lookup p.1=some .cell\/(relabel scope X.env).names.lookup p.1=some .free)/\(cl.lookup p.1).isSome=true
section
variable {X:Cx} {scope:Scope} {cl:List (Str × Addr)} {ts:List Str} {frs':List (Str × Nat)} {pins:List (Addr × Obj)} {σ:St} {H:Hp} {s:Shared} {fp:List Addr}
theorem CompScope.subL (S:CompScope X scope cl ts frs') {x:Str} {c:Addr} (h:cl.lookup x=some c):X.env.cells.lookup x=some c:=S.sub (x,c) (PySem.mem_of_lookup h)
theorem CompScope.inv (S:CompScope X scope cl ts frs') (I:Inv X pins σ H s) (hf:∀ b∈fp,FpOk X pins H b) (hlt:∀ b∈fp,b < s.heap.objs.size) {h₁:Heap} {tk:Nat} {m:Str->Option Value} (hns:h₁.Ns s.heap.objs.size m)
    (hk:∀ b o,s.heap.get? b=some o->h₁.get? b=some o):Inv (X.comp scope cl (ts++frs'.map (·.1)) pins s H fp) [] (compStart ts.length frs' σ) H { s with heap:=h₁,toks:=tk }:=by
  have hC:∀ b o,s.heap.get? b=some o->b≠s.heap.objs.size:=fun b o e=>Nat.ne_of_lt (Heap.lt_size e)
  have hcell:∀ x c,cl.lookup x=some c->∃ v,h₁.IsCell c v:=fun x c e=>by
    obtain ⟨v,o,ho,hd⟩:=I.cell x c (S.subL e)
    exact ⟨v,o,hk c o ho,hd⟩
  refine ⟨⟨I.ok.mod,?_,I.ok.glob,I.ok.blt,Nat.le_refl _,fun x y c h1 h2=>I.ok.inj x y c (S.subL h1) (S.subL h2),fun x hx=>?_,fun x c z=>(by cases z),I.ok.hd,I.ok.frames,.inl rfl,fun b hb=>⟨Nat.ne_of_lt (hlt b hb),fun x c e=>?_⟩,I.bs,Nat.le_trans I.ok.bsz I.sz,fun b o e hb=>?_,fun b hb z=>?_,I.stack,I.stkFree⟩,
    rfl,I.bare,Un.kept hk,⟨m,hns,fun i x v h1 h2 h3=>?_⟩,hcell,I.hok.fresh (Nat.le_refl _),fun x c e=>I.freeC x c (S.subL e),fun p hp=>?_,I.hok.kept hk,?_⟩
  . exact S.kind
  . have hx':(relabel scope X.env).names.lookup x=some .cell\/(relabel scope X.env).names.lookup x=some .free:=hx
    have:(cl.lookup x).isSome=true:=by
      rcases hx' with e | e
      . exact S.has (x,.cell) (PySem.mem_of_lookup e) (.inl rfl)
      . exact S.has (x,.free) (PySem.mem_of_lookup e) (.inr rfl)
    exact Option.isSome_iff_exists.mp this
  . exact (hf b hb).2.2.2.2.1 x c (S.subL e)
  . obtain ⟨_,_,_,h4,_⟩:=hf b hb
    rcases h4 with h4 | h4
    . exact I.ok.noex b o e h4
    . exact absurd (Nat.lt_of_lt_of_le (Heap.lt_size e) (Nat.le_trans I.ok.bsz h4)) (Nat.lt_irrefl _)
  . obtain ⟨_,h2,h3,_⟩:=hf b hb
    rcases List.mem_cons.mp (I.stkSub b z) with e | e
    . exact h2 e
    . exact h3 e
  . have hi : ts.length<=i:=by
      by_cases hi:ts.length<=i
      . exact hi
      . have:(compStart ts.length frs' σ)[i]? = some none:=by
          unfold compStart
          rw [List.getElem?_append_left (by simp;lia),List.getElem?_replicate,if_pos (by lia)]
        rw [this] at h2;cases h2
    obtain ⟨p,hp,e1,e2⟩:∃ p∈frs',p.1=x/\(σ[p.2]?).join=some v:=by
      have h1':(ts++frs'.map (·.1))[i]? = some x:=h1
      have h2':(compStart ts.length frs' σ)[i]? = some (some v):=h2
      unfold compStart at h2'
      rw [List.getElem?_append_right hi,List.getElem?_map] at h1'
      rw [List.getElem?_append_right (by simpa using hi),List.getElem?_map,List.length_replicate] at h2'
      cases e:frs'[i - ts.length]? with
      | none=>rw [e] at h1';cases h1'
      | some p =>
        rw [e] at h1' h2'
        exact ⟨p,List.mem_of_getElem? e,Option.some.inj h1',Option.some.inj h2'⟩
    obtain ⟨o1,o2,o3,o4⟩:=S.out p hp
    rw [e1] at o1 o2 o3 o4
    have e3:σ[p.2]? = some (some v):=by
      cases e:σ[p.2]? with
      | none=>rw [e] at e2;cases e2
      | some q=>rw [e] at e2;exact congrArg some e2
    obtain ⟨m',_,hl⟩:=I.loc
    have hv:Vis X.env.scope x:=by
      rcases o2 with o2 | o2
      . exact .inr (.inl o2)
      . exact .inr (.inr o2)
    obtain ⟨u,r,l⟩:=hl p.2 x v o1 e3 hv
    refine ⟨u,r,.inr ⟨o3,?_⟩⟩
    obtain ⟨c,hc⟩:=Option.isSome_iff_exists.mp o4
    rcases l with ⟨k,_⟩ | ⟨_,c',e,ob,ho,hd⟩
    . rcases o2 with o2 | o2 <;> (rw [o2] at k;cases k)
    . have:c'=c:=by have:=S.subL hc;rw [this] at e;exact (Option.some.inj e).symm
      subst this
      exact ⟨c',hc,ob,hk c' ob ho,hd⟩
  . have hp':p∈X.pn++pins:=by
      have:p∈(X.pn++pins)++[]:=hp
      rwa [List.append_nil] at this
    obtain ⟨e,n,ne,nf,d⟩:=I.pin p hp'
    refine ⟨hk _ _ e,n,hC _ _ e,fun z=>?_,d⟩
    rcases List.mem_cons.mp (I.stkSub _ z) with e' | e'
    . exact ne e'
    . exact nf e'
  . show (compStart ts.length frs' σ).length=(ts++frs'.map (·.1)).length
    unfold compStart
    simp
theorem CompScope.after (I:Inv X pins σ H s) (hf:∀ b∈fp,FpOk X pins H b) {N:List Str} {σ':St} {H':Hp} {s':Shared} (J:Inv (X.comp scope cl N pins s H fp) [] σ' H' s') {h':Heap} (hs:Heap.SameBut s.heap.objs.size s'.heap h') :
    Inv X pins σ H' { s' with heap:=h' }:=by
  have hC:∀ b o,s.heap.get? b=some o->b≠s.heap.objs.size:=fun b o e=>Nat.ne_of_lt (Heap.lt_size e)
  have fr:H' s.heap.objs.size=none:=J.free
  refine I.call' (s':={ s' with heap:=h' }) (ch:=fp) J.os ?_ ?_ J.bare fun b hb=>?_
  . have u:=J.base
    exact ⟨fun b o e n h1 h2=>(hs.2 b (hC b o e)).trans (u.keep b o e n h1 h2),fun b o e n h1 h2=>by
        obtain ⟨sl,q⟩:=u.slot b o e n h1 h2
        exact ⟨sl,(hs.2 b (hC b o e)).trans q⟩,u.free,fun b o e h2=>by
        obtain ⟨o',q⟩:=u.there b o e h2
        exact ⟨o',(hs.2 b (hC b o e)).trans q⟩,u.tups,u.frzs,u.tbls⟩
  . intro b ob e
    refine (J.hok b ob e).stay (fun c w' hc q=>(hs.2 c ?_).trans q) (fun _ q=>q) fun _ _ q=>q
    rintro rfl
    rcases hc with hc | hc
    . rw [<- hc,fr] at e;cases e
    . rw [fr] at hc;cases hc
  . obtain ⟨h1,h2,h3,h4,h5,h6⟩:=hf b hb
    exact ⟨h4,h2,h5,h6⟩
end
noncomputable def PIfs (X:Cx) (ifs:List Expr) (t:TT):Prop :=
  ∀ (pins:List (Addr × Obj)) (s:Shared) (σ:St) (H:Hp) (Q:Bool->Hp->Prop),Inv X pins σ H s->t σ H Q ->
    wpAny (model X.prog X.w) X.A (forIn ifs true fun c r=>if r=true then do let ok <- isTrue c X.env (eval c X.env);pure (ForInStep.yield ok) else pure (ForInStep.yield r)) (TP X pins σ Q) X.xe s
noncomputable def tTrue:TT:=fun _ H Q=>Q true H
theorem pifs_nil {X:Cx}:PIfs X [] tTrue:=fun _ _ _ H _ I h=>wpAny_tests_nil ⟨H,I,h⟩
theorem pifs_one {X:Cx} {c:Expr} {t:TT} (h:PT X c t):PIfs X [c] t:=fun pins s σ H Q I q=>wpAny_tests_one (h pins s σ H Q I q)
noncomputable def tComp (nt:Nat) (frs:List (Str × Nat)) (wi:TI) (g:TG) (tt:TT) (te:TE):TE:=fun σ H Q=>wi σ H fun J H1=>∀ l,H1 l=none->∃ W:Nat->Nat->St->Hp->Prop,(∃ m,W 0 m (compStart nt frs σ) (upd H1 l (.lst []))) /\
  ∀ i m τ H,W i m τ H->(J.stop i H/\Q (.ref l) H)\/(J.go i H/\∀ x H',J.yld i H x H'->g x τ H' fun τ2 H2=>tt τ2 H2 fun ok H3 =>
    if ok=true then te τ2 H3 fun y H4=>∃ ys,H4 l=some (.lst ys)/\ys.length < sizeLine/\∃ m',m' < m/\W (i + 1) m' τ2 (upd H4 l (.lst (ys++[y]))) else ∃ m',m' < m/\W (i + 1) m' τ2 H3)
end L2
namespace L2
open PySem PySem.Spec PyProof.Rows PySem.Builtin.Str
noncomputable def cutS (z:Str) (lo hi:Option Int):Str:=⟨((z.cps.toList.drop (HT.sIx z.cps.toList.length 0 lo)).take (HT.sIx z.cps.toList.length z.cps.toList.length hi - HT.sIx z.cps.toList.length 0 lo)).toArray⟩
theorem clipS_eq (v:Int) (n d:Nat):max 0 (min (if v < 0 then v + (n:Int) else v) (n:Int))=((HT.sIx n d (some v):Nat):Int):=by
  rw [<- HT.clip_eq v n d]
  split <;> lia
theorem indices_eq (lo hi:Option Int) (n:Nat):strSliceIndices lo hi 1 n=(List.range (HT.sIx n n hi - HT.sIx n 0 lo)).map fun k=>HT.sIx n 0 lo + k:=by
  have h1:∀ (a b:Nat),sliceRange (a:Int) (b:Int) 1=(List.range (b - a)).map fun k=>a + k:=by
    intro a b
    unfold sliceRange
    simp only [show (1:Int) > 0 by decide,if_true]
    have e:(if (a:Int) < (b:Int) then ((b:Int) - (a:Int) + 1 - 1) / 1 else 0).toNat=b - a:=by
      rw [Int.ediv_one]
      split <;> lia
    rw [e]
    refine List.map_congr_left fun k _=>?_
    lia
  unfold strSliceIndices
  simp only [show (1:Int) > 0 by decide,if_true]
  cases lo with
  | none =>
    cases hi with
    | none=>exact h1 0 n
    | some v =>
      dsimp only
      rw [clipS_eq v n n]
      exact h1 0 _
  | some u =>
    cases hi with
    | none =>
      dsimp only
      rw [clipS_eq u n 0]
      exact h1 _ n
    | some v =>
      dsimp only
      rw [clipS_eq u n 0,clipS_eq v n n]
      exact h1 _ _
theorem pick_range (l:List Nat) (a k:Nat) (h:a + k<=l.length):((List.range k).map fun i=>a + i).filterMap (fun i=>l[i]?)=(l.drop a).take k:=by
  induction k generalizing a with
  | zero=>simp
  | succ k ih =>
    rw [List.range_succ_eq_map,List.map_cons,List.filterMap_cons]
    have ha:a < l.length:=by lia
    simp only [Nat.add_zero]
    rw [List.getElem?_eq_getElem ha]
    dsimp only
    rw [List.drop_eq_getElem_cons ha,List.take_succ_cons]
    congr 1
    rw [List.map_map,<- ih (a + 1) (by lia)]
    congr 1
    refine List.map_congr_left fun i _=>?_
    show a + (i + 1)=a + 1 + i
    lia
theorem slice_eq (x:Str) (lo hi:Option Int):Txt.slice x lo hi=cutS x lo hi:=by
  unfold Txt.slice cutS
  have hn:x.length=x.cps.toList.length:=by show x.cps.size=_;simp
  have ha:=HT.sIx_le x.cps.toList.length 0 (Nat.zero_le _) lo
  have hb:=HT.sIx_le x.cps.toList.length x.cps.toList.length (Nat.le_refl _) hi
  rw [hn,indices_eq]
  generalize HT.sIx x.cps.toList.length 0 lo=a at ha ⊢
  generalize HT.sIx x.cps.toList.length x.cps.toList.length hi=b at hb ⊢
  have hp:=pick_range x.cps.toList a (b - a)
  split
  . rename_i h
    simp only [List.length_map,List.length_range,Bool.and_eq_true,beq_iff_eq] at h
    have h2:b - a=x.cps.toList.length:=h.2
    by_cases h0:x.cps.toList.length=0
    . have:x.cps=#[]:=by
        apply Array.eq_empty_of_size_eq_zero;simpa using h0
      cases x;simp_all
    . have ea:a=0:=by lia
      subst ea
      rw [List.drop_zero,List.take_of_length_le (by lia)]
  . congr 1
    by_cases hab:a<=b
    . rw [<- hp (by lia)]
      congr 1
      simp only [Array.getElem?_toList]
    . have:b - a=0:=by lia
      rw [this];simp
section
variable {X:Cx}
noncomputable def rSlS:V->Option Int->Option Int->Hp->VK->Prop:=fun x lo hi H Q=>∃ z,x=.str z/\z.length<=sizeLine/\Q (.str (cutS z lo hi)) H
theorem sl_str:SlR X rSlS:=by
  intro pins s σ H x v vl vu lo hi sl Q I rx hs pl pu h
  obtain ⟨z,rfl,hz,q⟩:=h
  obtain ⟨t,rfl⟩:=rx
  rw [<- slice_eq] at q
  refine ⟨"str",_,F.slot_str_getitem.lookup,typeIs_str _ _ _,?_⟩
  obtain ⟨o,ho,hc,hd⟩:=hs
  have key:∀ (l u:Option (Int × Tok)),vl=partValue l->vu=partValue u->lo=l.map (·.1)->hi=u.map (·.1)->wpAny (model X.prog X.w) X.A (getItem (.str z t) (.ref sl)) (EP X pins σ Q) X.xe s:=by
    intro l u e1 e2 e3 e4
    subst e1 e2 e3 e4
    refine wpAny_getItem_str_slice (l:=l) (u:=u) (st:=none) ⟨o,ho,hc,hd⟩ rfl (post_val_or_str ⟨Nat.le_trans (Txt.slice_le z _ _) hz,fun t' k=>?_⟩)
    exact ⟨.str _,H,I.tok k,⟨_,rfl⟩,q⟩
  cases pl with
  | none =>
    cases pu with
    | none=>exact key none none rfl rfl rfl rfl
    | int j u=>exact key none (some (j,u)) rfl rfl rfl rfl
  | int i t =>
    cases pu with
    | none=>exact key (some (i,t)) none rfl rfl rfl rfl
    | int j u=>exact key (some (i,t)) (some (j,u)) rfl rfl rfl rfl
end
end L2
namespace L2
open PySem PySem.Spec PyProof.Rows PySem.Builtin.Str
noncomputable def Sq (K:PySem.W.Frag) (H:Hp) (a:Addr) (xs:List V):Prop:=SqL K H a xs\/SqT K H a xs
noncomputable def occ (y x:Str):Bool:=!(occurrences y x 0 y.length 1).isEmpty
noncomputable def uAdd (K:PySem.W.Frag):R2:=fun x y H Q=>match x,y with
  | .int i,.int j=>Q (.int (i + j)) H
  | .str i,.str j=>i.length + j.length<=sizeLine/\Q (.str (i++j)) H
  | .ref a,.ref b=>rCat (.ref a) (.ref b) H Q\/rCatT K (.ref a) (.ref b) H Q
  | _,_=>False
noncomputable def uSub:R2:=fun x y H Q=>match x,y with
  | .int i,.int j=>Q (.int (i - j)) H
  | _,_=>False
noncomputable def uDiv:R2:=fun x y H Q=>match x,y with
  | .int i,.int j=>CDiv i j/\Q (.int (i / j)) H
  | _,_=>False
noncomputable def uMod:R2:=fun x y H Q=>match x,y with
  | .int i,.int j=>0 < j/\Q (.int (i % j)) H
  | _,_=>False
noncomputable def uPow:R2:=fun x y H Q=>match x,y with
  | .int i,.int j=>CPow i j/\Q (.int (i ^ j.toNat)) H
  | _,_=>False
noncomputable def uLt:R2:=fun x y H Q=>match x,y with
  | .int i,.int j=>Q (.bl (decide (i < j))) H
  | .str i,.str j=>Q (.bl (decide (i.cps.toList < j.cps.toList))) H
  | _,_=>False
noncomputable def uLe:R2:=fun x y H Q=>match x,y with
  | .int i,.int j=>Q (.bl (decide (i<=j))) H
  | _,_=>False
noncomputable def uGt:R2:=fun x y H Q=>match x,y with
  | .int i,.int j=>Q (.bl (decide (j < i))) H
  | _,_=>False
noncomputable def uGe:R2:=fun x y H Q=>match x,y with
  | .int i,.int j=>Q (.bl (decide (j<=i))) H
  | _,_=>False
noncomputable def uEq:R2:=fun x y H Q=>match x,y with
  | .int i,.int j=>Q (.bl (decide (i=j))) H
  | .str i,.str j=>Q (.bl (decide (i=j))) H
  | .bl i,.bl j=>Q (.bl (decide (i=j))) H
  | .non,.non=>Q (.bl true) H
  | .non,.str _=>Q (.bl false) H
  | .str _,.non=>Q (.bl false) H
  | _,_=>False
noncomputable def uNe:R2:=fun x y H Q=>match x,y with
  | .int i,.int j=>Q (.bl (!decide (i=j))) H
  | .str i,.str j=>Q (.bl (!decide (i=j))) H
  | .bl i,.bl j=>Q (.bl (!decide (i=j))) H
  | .non,.non=>Q (.bl false) H
  | .non,.str _=>Q (.bl true) H
  | .str _,.non=>Q (.bl true) H
  | _,_=>False
noncomputable def uIn (K:PySem.W.Frag):R2:=fun x y H Q=>match x,y with
  | .str i,.str j=>Q (.bl (occ j i)) H
  | x,.ref p=>∃ xs,Sq K H p xs/\flatV x=true/\xs.all flatV=true/\Q (.bl (inV x xs)) H
  | _,_=>False
noncomputable def uNin (K:PySem.W.Frag):R2:=fun x y H Q=>match x,y with
  | .str i,.str j=>Q (.bl (!occ j i)) H
  | x,.ref p=>∃ xs,Sq K H p xs/\flatV x=true/\xs.all flatV=true/\Q (.bl (!inV x xs)) H
  | _,_=>False
noncomputable def uIx (K:PySem.W.Frag):R2:=fun x y H Q=>match x,y with
  | .str z,.int i=>z.length<=sizeLine/\∃ c,atI z.cps.toList i=some c/\Q (.str ⟨#[c]⟩) H
  | .ref p,.int i=>∃ xs v,Sq K H p xs/\atI xs i=some v/\Q v H
  | _,_=>False
noncomputable def uLen (K:PySem.W.Frag):List V->Hp->VK->Prop:=fun xs H Q=>match xs with
  | [.str z]=>z.length<=sizeLine/\Q (.int z.length) H
  | [.ref p]=>∃ ys,Sq K H p ys/\Q (.int ys.length) H
  | _=>False
noncomputable def uMax:List V->Hp->VK->Prop:=fun xs H Q=>match xs with
  | [.int i,.int j]=>Q (.int (max i j)) H
  | _=>False
noncomputable def uMin:List V->Hp->VK->Prop:=fun xs H Q=>match xs with
  | [.int i,.int j]=>Q (.int (min i j)) H
  | _=>False
noncomputable def uInt:List V->Hp->VK->Prop:=fun xs H Q=>match xs with
  | [.int i]=>Q (.int i) H
  | [.bl k]=>Q (.int (if k then 1 else 0)) H
  | _=>False
section
variable {X:Cx}
theorem OpR.imp {f:Value->Value->Sem Value} {r r':R2} (h:OpR X f r) (hi:∀ x y H Q,r' x y H Q->r x y H Q):OpR X f r':=fun pins s σ H x y v u Q I rx ry q=>h pins s σ H x y v u Q I rx ry (hi _ _ _ _ q)
theorem CallR.imp {f:Value} {r r':List V->Hp->VK->Prop} (h:CallR X f r) (hi:∀ xs H Q,r' xs H Q->r xs H Q):CallR X f r':=fun pins s σ H xs us Q I rx q=>h pins s σ H xs us Q I rx (hi _ _ _ q)
theorem o_sub:OpR X (binaryOp .Sub) uSub:=op_sub.imp fun x y H Q q=>by
  unfold uSub at q
  split at q
  . exact ⟨_,_,rfl,rfl,q⟩
  . exact q.elim
theorem o_fdiv:OpR X (binaryOp .FloorDiv) uDiv:=op_fdiv.imp fun x y H Q q=>by
  unfold uDiv at q
  split at q
  . exact ⟨_,_,rfl,rfl,q.1,q.2⟩
  . exact q.elim
theorem o_mod:OpR X (binaryOp .Mod) uMod:=op_mod.imp fun x y H Q q=>by
  unfold uMod at q
  split at q
  . exact ⟨_,_,rfl,rfl,q.1,q.2⟩
  . exact q.elim
theorem o_pow:OpR X (binaryOp .Pow) uPow:=op_pow.imp fun x y H Q q=>by
  unfold uPow at q
  split at q
  . exact ⟨_,_,rfl,rfl,q.1,q.2⟩
  . exact q.elim
theorem o_lt:OpR X (compareOp .Lt) uLt:=(op_lt.or op_lt_str).imp fun x y H Q q=>by
  unfold uLt at q
  split at q
  . exact .inl ⟨_,_,rfl,rfl,q⟩
  . exact .inr ⟨_,_,rfl,rfl,q⟩
  . exact q.elim
theorem o_le:OpR X (compareOp .LtE) uLe:=op_le.imp fun x y H Q q=>by
  unfold uLe at q
  split at q
  . exact ⟨_,_,rfl,rfl,q⟩
  . exact q.elim
theorem o_gt:OpR X (compareOp .Gt) uGt:=op_gt.imp fun x y H Q q=>by
  unfold uGt at q
  split at q
  . exact ⟨_,_,rfl,rfl,q⟩
  . exact q.elim
theorem o_ge:OpR X (compareOp .GtE) uGe:=op_ge.imp fun x y H Q q=>by
  unfold uGe at q
  split at q
  . exact ⟨_,_,rfl,rfl,q⟩
  . exact q.elim
theorem o_eq:OpR X (compareOp .Eq) uEq:=op_eq.imp fun x y H Q q=>by
  unfold uEq at q
  split at q <;> first | exact q.elim | (refine ⟨rfl,?_⟩;simpa using q)
theorem o_ne:OpR X (compareOp .NotEq) uNe:=op_ne.imp fun x y H Q q=>by
  unfold uNe at q
  split at q <;> first | exact q.elim | (refine ⟨rfl,?_⟩;simpa using q)
theorem o_in:OpR X (compareOp .In) (uIn X.K):=(op_in_str.or op_in_seq).imp fun x y H Q q=>by
  unfold uIn at q
  split at q
  . exact .inl ⟨_,_,rfl,rfl,q⟩
  . obtain ⟨xs,h1,h2,h3,h4⟩:=q
    exact .inr ⟨_,xs,rfl,h1,h2,h3,h4⟩
  . exact q.elim
theorem o_nin:OpR X (compareOp .NotIn) (uNin X.K):=(op_notIn_str.or op_notIn_seq).imp fun x y H Q q=>by
  unfold uNin at q
  split at q
  . exact .inl ⟨_,_,rfl,rfl,q⟩
  . obtain ⟨xs,h1,h2,h3,h4⟩:=q
    exact .inr ⟨_,xs,rfl,h1,h2,h3,h4⟩
  . exact q.elim
theorem o_ix:IxR X (uIx X.K):=by
  intro value slice pins s σ H x y v u Q I rx ry q hs
  refine ix_seq value slice pins s σ H x y v u Q I rx ry ?_ hs
  unfold uIx at q
  split at q
  . obtain ⟨h1,c,h2,h3⟩:=q
    exact .inr (.inr ⟨_,_,c,rfl,rfl,h1,h2,h3⟩)
  . obtain ⟨xs,v,h1 | h1,h2,h3⟩:=q
    . exact .inl ⟨_,xs,_,v,rfl,rfl,h1,h2,h3⟩
    . exact .inr (.inl ⟨_,xs,_,v,rfl,rfl,h1,h2,h3⟩)
  . exact q.elim
theorem c_len:CallR X (.builtin "len") (uLen X.K):=(call_len_str.or call_len_seq).imp fun xs H Q q=>by
  unfold uLen at q
  split at q
  . exact .inl ⟨_,rfl,q.1,q.2⟩
  . obtain ⟨ys,h1,h2⟩:=q
    exact .inr ⟨_,ys,rfl,h1,h2⟩
  . exact q.elim
theorem c_max (hc:X.calm=true):CallR X (.builtin "max") uMax:=(call_max2 hc).imp fun xs H Q q=>by
  unfold uMax at q
  split at q
  . rename_i i j
    refine ⟨i,j,rfl,?_⟩
    have e:(if j > i then j else i)=max i j:=by split <;> lia
    rw [e];exact q
  . exact q.elim
theorem c_min (hc:X.calm=true):CallR X (.builtin "min") uMin:=(call_min2 hc).imp fun xs H Q q=>by
  unfold uMin at q
  split at q
  . rename_i i j
    refine ⟨i,j,rfl,?_⟩
    have e:(if j < i then j else i)=min i j:=by split <;> lia
    rw [e];exact q
  . exact q.elim
theorem c_int:CallR X (.type "int") uInt:=call_int1.imp fun xs H Q q=>by
  unfold uInt at q
  split at q
  . exact .inl ⟨_,rfl,q⟩
  . exact .inr ⟨_,rfl,q⟩
  . exact q.elim
theorem pe_gv {x:Str} {v:V} {pos:Pos} (hg:Gl X x) (h:∃ u,X.mg x=some u/\RelV v u) (hd:(x == ("__debug__":Str))=false:=by decide):PE X (.Name x pos) (tC v):=by
  obtain ⟨u,h1,h2⟩:=h
  exact pe_glob hg h1 h2 hd
theorem pe_ty {x:Str} {T:String} {pos:Pos} (hg:Gl X x) (hm:X.mg x=none) (hv:bootBuiltins x=some (.type T)) (hn:x≠"__name__":=by decide) (hd:(x == ("__debug__":Str))=false:=by decide):PE X (.Name x pos) (tC (.ty T)):=pe_bltn hg hm hv rfl hn hd
end
end L2
namespace L2
open PySem PySem.Spec PyProof.Rows
end L2
namespace L2
open PySem PySem.Spec PyProof.Rows
noncomputable def uRng1:List V->Hp->(It->Hp->Prop)->Prop:=fun vs H R=>match vs with
  | [.int j]=>-(2 ^ 62)<=j/\j < 2 ^ 62/\R (Itr 0 j.toNat) H
  | _=>False
noncomputable def jRng1 (ta:TA):TI:=fun σ H R=>ta σ H fun vs H1=>uRng1 vs H1 R
noncomputable def uList (K:PySem.W.Frag):V->Hp->(It->Hp->Prop)->Prop:=fun x H R=>match x with
  | .ref a=>(∃ xs,SqL K H a xs)/\R (Itl K a) H
  | _=>False
noncomputable def uTupI (K:PySem.W.Frag):V->Hp->(It->Hp->Prop)->Prop:=fun x H R=>match x with
  | .ref a=>(∃ xs,SqT K H a xs)/\R (Itt K a) H
  | _=>False
noncomputable def jOf (u:V->Hp->(It->Hp->Prop)->Prop) (te:TE):TI:=fun σ H R=>te σ H fun x H1=>u x H1 R
section
variable {X:Cx} {tg:Expr} {a b:Expr} {p pos:Pos} {ta:TA} {te:TE}
theorem pj_range1 (hg:Gl X "range") (hm:X.mg "range"=none) (ha:PA X [a] ta) (hs:starEach [a] X.env=[(false,eval a X.env)]:=by rfl):PI X tg (.Call (.Name "range" p) [a] [] pos) (jRng1 ta):=by
  intro pins s σ H R I h
  refine Call_ (ld_blt I hg hm boot_range (PyProof.Rows.callWith_type1 (thn (ha pos pins s σ H _ I h) fun us s1 ⟨vs,H1,I1,r1,q1⟩=>?_) hs rfl))
  unfold uRng1 at q1
  dsimp only at q1
  split at q1
  . obtain ⟨q1,q2,q⟩:=q1
    cases r1 with
    | cons r rr =>
      cases rr
      obtain ⟨t,rfl⟩:=r
      exact call_range_1 (range_it I1 (by lia) (by lia) q1 q2 (by simpa using q))
  . exact q1.elim
end
noncomputable def strsIn:List Expr->Option (List Str)
  | []=>some []
  | .Constant (.str x) _ _::r=>(strsIn r).map (x::·)
  | _=>none
noncomputable def tConst (vs:List V):TA:=fun _ H L=>L vs H
theorem pa_strs {X:Cx}:∀ {es:List Expr} {xs:List Str},strsIn es=some xs->PA X es (tConst (xs.map V.str))
  | [],xs,h=>by
    cases h
    exact fun pos pins s σ H Q I q=>pa_nil pos pins s σ H Q I q
  | e :: es, xs,h=>by
    cases e with
    | Constant c k p =>
      cases c with
      | str x =>
        cases h1:strsIn es with
        | none=>simp [strsIn,h1] at h
        | some ys =>
          have h2:x::ys=xs:=by simpa [strsIn,h1] using h
          subst h2
          have ih:=pa_strs (X:=X) h1
          exact fun pos pins s σ H Q I q=>(pa_cons (te:=tC (.str x)) pe_str ih) pos pins s σ H Q I q
      | _=>simp [strsIn] at h
    | _=>simp [strsIn] at h
theorem Same.upd_new {H:Hp} {l:Addr} {o:HO} (h:H l=none):Same H (upd H l o):=fun b u e=>by rw [upd_ne (ne_of_none e h)];exact e
theorem Same.sq {K:PySem.W.Frag} {H H':Hp} {a:Addr} {xs:List V} (e:Same H H') (h:SqT K H a xs):SqT K H' a xs:=by
  rcases h with (h | ⟨o,h⟩) | h
  . exact .inl (.inl (e _ _ h))
  . exact .inl (.inr ⟨o,e _ _ h⟩)
  . exact .inr h
theorem atI_lt {α:Type} {xs:List α} {i:Int} (h0:0<=i) (h:i < xs.length):∃ v,atI xs i=some v/\xs[i.toNat]? = some v:=by
  have hlt:i.toNat < xs.length:=by lia
  refine ⟨xs[i.toNat],?_,List.getElem?_eq_getElem hlt⟩
  have e:(i.toNat:Int)=i:=by lia
  have h:=atI_nat (List.getElem?_eq_getElem hlt)
  rw [e] at h
  exact h
theorem small_line {n:Nat} (h:n<=1000):n<=sizeLine:=Nat.le_of_lt (small1000 h)
theorem vals_of_abs:∀ {us:List Value} {xs:List V},us.map absV=xs.map some->Vals xs us
  | [],[],_=>.nil
  | [],_::_,h=>by cases h
  | _::_,[],h=>by cases h
  | u :: us,x::xs,h=>by
    rw [List.map_cons,List.map_cons] at h
    injection h with h1 h2
    refine .cons ?_ (vals_of_abs h2)
    cases u <;> cases h1 <;> first | rfl | exact ⟨_,rfl⟩
theorem sqT_const {K:PySem.W.Frag} {a:Addr} {oc:Value} {od:Option Addr} {its:Array Value} {n:Nat} {sl:Array (Option Value)} {xs:List V} (h:K.lookup a=some ⟨oc,od,.seq its n,sl⟩) (ht:(oc == .type "tuple")=true/\(od == none)=true)
    (hi:its.toList.map absV=xs.map some) (hz:xs.length<=1000:=by decide):∀ H,SqT K H a xs:=fun H=>by
  have r:=vals_of_abs hi
  have e:oc=.type "tuple":=by
    have:=ht.1
    exact eq_of_beq this
  refine .inr ⟨_,its,n,h,e,rfl,?_,r⟩
  have h9:=r.length
  have h8:its.toList.length=its.size:=by simp
  rw [<- h8,<- h9];exact small_line hz
end L2
namespace L2
open PySem PySem.Spec PyProof.Rows
section
variable {P:Program} {w:World} {K:PySem.W.Frag} {mg:Str->Option Value} {base:Heap}
theorem Fun.ok2 {x qual:Str} {st:Stmt} {f:Addr} {fd:FuncData} {N ps:List Str} {k:Nat} {sp:Sp} {sc:Scope} {body:List Stmt} (F:Fun K x qual st f fd) (hs:defScope st=sc) (hb:defBody st=body) (S:FnScope N ps (defScope st)) (len:∀ vs H Q E,sp vs H Q E->vs.length=ps.length)
    (hbody:FnScope N ps sc->∀ (cdv:Value) (A:Around) (outer:List Env) (s:Shared) (H:Hp) (vs:List V) (Q:VK) (E:XK),Room k (A.deeper (envOfC qual sc s.heap.objs.size f cdv))->sp vs H Q E ->
      ∃ t,PSs (cxOf CX0 P w K mg base N qual sc f cdv A outer s H E).nox body t/\t { nx:=fun _ H'=>Q .non H',rt:=Q } (L2.start N vs) H):FnOk P w K mg base CX0 (k + 1) f fd ps sp:=by
  subst hs hb
  exact F.ok S len (hbody S)
end
end L2
namespace L2
open PySem PySem.Spec PyProof.Rows
end L2
namespace L2
open PySem
theorem noFree_has {scope:Scope} {env:Env} {names:List (Str × NameKind)} {cl:List (Str × Addr)} (h:(relabel scope env).names=names) (h2:(names.all fun p=>p.2 != .cell && p.2 != .free)=true) :
    ∀ p∈(relabel scope env).names,p.2=.cell\/p.2=.free->(cl.lookup p.1).isSome=true:=by
  intro p hp hk
  rw [h] at hp
  have:=List.all_eq_true.mp h2 p hp
  rcases hk with e | e
  . rw [e] at this;exact absurd this (by decide)
  . rw [e] at this;exact absurd this (by decide)
theorem nd1 {x:Str}:[x].Nodup:=by simp
section
variable {X:Cx} (K:PySem.W.Frag) (h:X.K=K)
include h
theorem k_in:OpR X (compareOp .In) (uIn K):=h ▸ o_in
theorem k_ix:IxR X (uIx K):=h ▸ o_ix
end
end L2
namespace L2
open PySem PySem.Spec PyProof.Rows
mutual
inductive Rep (K:PySem.W.Frag) (H:Hp):PyData->V->Prop
  | non:Rep K H .none .non
  | bl (b:Bool):Rep K H (.bool b) (.bl b)
  | int (i:Int):Rep K H (.int i) (.int i)
  | str (x:Str):Rep K H (.str x) (.str x)
  | tup {a:Addr} {xs:List V} {ds:List PyData}:SqT K H a xs->Reps K H ds xs->Rep K H (.tuple ds) (.ref a)
  | lst {a:Addr} {xs:List V} {ds:List PyData}:SqL K H a xs->Reps K H ds xs->Rep K H (.list ds) (.ref a)
inductive Reps (K:PySem.W.Frag) (H:Hp):List PyData->List V->Prop
  | nil:Reps K H [] []
  | cons {d:PyData} {v:V} {ds:List PyData} {vs:List V}:Rep K H d v->Reps K H ds vs->Reps K H (d::ds) (v::vs)
end
section
variable {X:Cx} {pins:List (Addr × Obj)} {σ:St} {H:Hp} {s:Shared}
mutual
theorem Rep.reads (I:Inv X pins σ H s):∀ {d:PyData} {v:V} {u:Value},Rep X.K H d v->RelV v u->∃ as,Reads s.heap u d as
  | _,_,_,.non,r=>by cases r;exact ⟨_,.none⟩
  | _,_,_,.bl b,r=>by cases r;exact ⟨_,.bool b⟩
  | _,_,_,.int i,r=>by obtain ⟨t,rfl⟩:=r;exact ⟨_,.int i t⟩
  | _,_,_,.str x,r=>by obtain ⟨t,rfl⟩:=r;exact ⟨_,.str x t⟩
  | _, _,_,.tup h q,r=>by
    cases r
    obtain ⟨its,rv,⟨o,e,c,n,d⟩,hz⟩:=I.tuple h
    obtain ⟨as,ra⟩:=Reps.reads I q rv
    exact ⟨_,.tuple e c d (by simpa using ra)⟩
  | _, _,_,.lst h q,r=>by
    cases r
    obtain ⟨its,rv,⟨o,n,e,c,_,d⟩,hz⟩:=I.list h
    obtain ⟨as,ra⟩:=Reps.reads I q rv
    exact ⟨_,.list e c d (by simpa using ra)⟩
theorem Reps.reads (I:Inv X pins σ H s):∀ {ds:List PyData} {vs:List V} {us:List Value},Reps X.K H ds vs->Vals vs us->∃ as,ReadsAll s.heap us ds as
  | _,_,_,.nil,r=>by cases r;exact ⟨_,.nil⟩
  | _, _,_,.cons h q,r=>by
    cases r with
    | cons r0 r1 =>
      obtain ⟨as,ra⟩:=Rep.reads I h r0
      obtain ⟨bs,rb⟩:=Reps.reads I q r1
      exact ⟨_,.cons ra rb⟩
end
noncomputable def rEqD (K:PySem.W.Frag) (ne:Bool):R2:=fun x y H Q=>∃ d e,Rep K H d x/\Rep K H e y/\d.canLay0=true/\e.canLay0=true/\d.depth<=190/\Q (.bl (if ne then !PyData.eqv d e else PyData.eqv d e)) H
theorem op_eqD (hu:X.A.units + 200 < cLine):OpR X (compareOp .Eq) (rEqD X.K false):=by
  intro pins s σ H x y v u Q I rx ry h
  obtain ⟨d,e,h1,h2,c1,c2,dp,q⟩:=h
  obtain ⟨as,ra⟩:=Rep.reads I h1 rx
  obtain ⟨bs,rb⟩:=Rep.reads I h2 ry
  refine SeqAt.compareEq_reads ra rb c1 c2 ?_ ⟨.bl _,H,I,rfl,q⟩
  have:min d.depth e.depth<=d.depth:=Nat.min_le_left _ _
  lia
theorem op_neD (hu:X.A.units + 200 < cLine):OpR X (compareOp .NotEq) (rEqD X.K true):=by
  intro pins s σ H x y v u Q I rx ry h
  obtain ⟨d,e,h1,h2,c1,c2,dp,q⟩:=h
  obtain ⟨as,ra⟩:=Rep.reads I h1 rx
  obtain ⟨bs,rb⟩:=Rep.reads I h2 ry
  refine SeqAt.compareNe_reads ra rb c1 c2 ?_ ⟨.bl _,H,I,rfl,q⟩
  have:min d.depth e.depth<=d.depth:=Nat.min_le_left _ _
  lia
noncomputable def uEqD (K:PySem.W.Frag):R2:=fun x y H Q=>match x,y with
  | .ref a,y=>rEqD K false (.ref a) y H Q
  | x,.ref b=>rEqD K false x (.ref b) H Q
  | x,y=>uEq x y H Q
noncomputable def uNeD (K:PySem.W.Frag):R2:=fun x y H Q=>match x,y with
  | .ref a,y=>rEqD K true (.ref a) y H Q
  | x,.ref b=>rEqD K true x (.ref b) H Q
  | x,y=>uNe x y H Q
theorem o_eqD {k:Nat} (hr:Room k X.A):OpR X (compareOp .Eq) (uEqD X.K):=((op_eqD (by have:=hr.un;lia)).or o_eq).imp fun x y H Q q=>by
  unfold uEqD at q
  split at q
  . exact .inl q
  . exact .inl q
  . exact .inr q
theorem o_neD {k:Nat} (hr:Room k X.A):OpR X (compareOp .NotEq) (uNeD X.K):=((op_neD (by have:=hr.un;lia)).or o_ne).imp fun x y H Q q=>by
  unfold uNeD at q
  split at q
  . exact .inl q
  . exact .inl q
  . exact .inr q
end
noncomputable def uSum (K:PySem.W.Frag):List V->Hp->VK->Prop:=fun xs H Q=>match xs with
  | [.ref p]=>∃ ns:List Int,SqL K H p (ns.map V.int)/\Q (.int ns.sum) H
  | _=>False
theorem preSum_eq (ns:List Int):∀ n,n<=ns.length->preSum (fun i=>ns.getD i 0) n=(ns.take n).sum
  | 0,_=>by simp [preSum]
  | n + 1,h=>by
    rw [preSum,preSum_eq ns n (by lia),List.take_add_one,List.getElem?_eq_getElem (by lia),List.sum_append]
    simp [List.getD_eq_getElem?_getD,List.getElem?_eq_getElem (show n < ns.length by lia)]
theorem c_sum {X:Cx} (hc:X.calm=true):CallR X (.builtin "sum") (uSum X.K):=by
  intro pins s σ H xs us Q I r h
  unfold uSum at h
  split at h
  . rename_i p
    obtain ⟨ns,hl,q⟩:=h
    obtain ⟨u,rfl,ru⟩:=r.one
    cases ru
    obtain ⟨its,rv,pl,hz⟩:=I.list hl
    refine call_sum_walkAnyS (wpAny_pyIter_list pl.isList ?_)
    have hne:p≠s.heap.objs.size:=Nat.ne_of_lt (by obtain ⟨o,n,e,_⟩:=pl;exact Heap.lt_size e)
    have hlen:its.toArray.size=ns.length:=by have:=rv.length;simp at this;simp;lia
    refine ⟨s.heap.objs.size,_,_,_,_,_,_,fun i=>ns.getD i 0,rfl,(Walks.list (show X.A.in1.handled=none from I.ok.hd hc) s.heap.objs.size p hne its.toArray).toS,⟨⟨_,Heap.get?_push_size _ rfl,rfl,rfl⟩,pl.isList.at fun o e=>Heap.get?_push_of_some _ e⟩,?_,?_,fun s' t' hm=>?_⟩
    . intro b hb
      have hp:p < s.heap.objs.size:=by obtain ⟨o,n,e,_⟩:=pl;exact Heap.lt_size e
      rw [Heap.size_push]
      rcases List.mem_cons.mp hb with rfl | hb
      . exact Nat.lt_succ_self _
      . have:b=p:=by simpa using hb
        subst this
        exact Nat.lt_succ_of_lt hp
    . intro i v hv
      have hv':its[i]? = some v:=by simpa using hv
      cases e:(ns.map V.int)[i]? with
      | none =>
        have:=rv.none_of e
        rw [this] at hv';cases hv'
      | some y =>
        obtain ⟨u,hu,ru⟩:=rv.get e
        rw [hv'] at hu;cases hu
        rw [List.getElem?_map] at e
        cases eb:ns[i]? with
        | none=>rw [eb] at e;cases e
        | some b =>
          rw [eb] at e
          cases e
          obtain ⟨t,rfl⟩:=ru
          exact ⟨t,by dsimp only;rw [List.getD_eq_getElem?_getD,eb];rfl⟩
    . have e:preSum (fun i=>ns.getD i 0) its.toArray.size=ns.sum:=by
        rw [hlen,preSum_eq ns _ (Nat.le_refl _),List.take_length]
      rw [e]
      have hI:Inv X pins σ H { s with heap:=s'.heap,toks:=s'.toks }:=I.kept (t':=s'.toks) fun b o e=>hm.heap b o (by simp;exact Nat.ne_of_lt (Heap.lt_size e)) (Heap.get?_push_of_some _ e)
      have es:({ s with heap:=s'.heap,toks:=s'.toks }:Shared)=s':=by
        have h1:=hm.gens
        have h2:=hm.drawn
        have h3:=hm.os
        cases s'
        simp only at h1 h2 h3
        subst h1 h2 h3
        rfl
      rw [es] at hI
      exact ⟨.int _,H,hI,⟨_,rfl⟩,q⟩
  . exact h.elim
noncomputable def uMulB:R2:=fun x y H Q=>match x,y with
  | .int i,.int j=>IntMulOk i j/\Q (.int (i * j)) H
  | .ref a,.int k=>rRep (.ref a) (.int k) H Q
  | _,_=>False
theorem op_mulB {X:Cx}:OpR X (binaryOp .Mult) (fun x y H Q=>∃ i j,x=.int i/\y=.int j/\IntMulOk i j/\Q (.int (i * j)) H):=by
  intro pins s σ H x y v u Q I rx ry h
  obtain ⟨i,j,rfl,rfl,hm,q⟩:=h
  obtain ⟨t,rfl⟩:=rx
  obtain ⟨t',rfl⟩:=ry
  exact PyProof.Rows.mul_int ⟨.int _,H,I.tok _,⟨_,rfl⟩,q⟩ hm
theorem o_mulB {X:Cx}:OpR X (binaryOp .Mult) uMulB:=(op_mulB.or op_rep).imp fun x y H Q q=>by
  unfold uMulB at q
  split at q
  . exact .inl ⟨_,_,rfl,rfl,q.1,q.2⟩
  . exact .inr q
  . exact q.elim
theorem mul_small {i j:Int} (h:CMul i j):IntMulOk i j:=h.ok
theorem allm_cons {α:Type} {P:α->Prop} {a:α} {l:List α} (h:P a) (t:∀ p∈l,P p):∀ p∈a::l,P p:=fun p hp=>by
  rcases List.mem_cons.mp hp with rfl | hp
  . exact h
  . exact t p hp
theorem allm_nil {α:Type} {P:α->Prop}:∀ p∈([]:List α),P p:=fun _ z=>nomatch z
theorem free_has {scope:Scope} {env:Env} {names:List (Str × NameKind)} {cl:List (Str × Addr)} (h:(relabel scope env).names=names) (h2:(names.all fun p=>(p.2 != .cell && p.2 != .free) || (cl.lookup p.1).isSome)=true) :
    ∀ p∈(relabel scope env).names,p.2=.cell\/p.2=.free->(cl.lookup p.1).isSome=true:=by
  intro p hp hk
  rw [h] at hp
  have:=List.all_eq_true.mp h2 p hp
  rcases hk with e | e
  . rw [e] at this;simpa using this
  . rw [e] at this;simpa using this
section
variable {X:Cx}
noncomputable def rCatL (K:PySem.W.Frag):R2:=fun x y H Q=>∃ l b xs zs,x=.ref l/\y=.ref b/\SqL K H l xs/\SqL K H b zs/\xs.length + zs.length<=sizeLine/\∀ p,H p=none->Q (.ref p) (upd H p (.lst (xs++zs)))
theorem op_catL:OpR X (binaryOp .Add) (rCatL X.K):=by
  intro pins s σ H x y v u Q I rx ry h
  obtain ⟨l,b,xs,zs,rfl,rfl,hH,hB,hz,q⟩:=h
  cases rx
  cases ry
  obtain ⟨its,r,pl,z1⟩:=I.list hH
  obtain ⟨its2,r2,pl2,z2⟩:=I.list hB
  have hl:=r.length
  have hl2:=r2.length
  obtain ⟨⟨cls,dd,data,sl⟩,ho,hc,n,hd⟩:=id pl.isList
  obtain ⟨⟨cls2,dd2,data2,sl2⟩,ho2,hc2,n2,hd2⟩:=id pl2.isList
  simp only at hc hd hc2 hd2
  subst hc hd hc2 hd2
  have e:its.toArray++its2.toArray=(its++its2).toArray:=by simp
  refine concat_meets ⟨_,ho,rfl⟩ ⟨_,ho2,rfl⟩ noFill_list_add seq_list_add PySem.F.slot_list_add PySem.F.entry_list_add (PySem.F.args_list_add_2 _ _) (PyProof.Rows.list_addW l b its.toArray its2.toArray n n2 dd dd2 sl sl2 (by rw [List.size_toArray,List.size_toArray];lia)) ⟨ho,ho2,?_⟩
  rw [e]
  exact ⟨.ref _,_,I.lnew (t':=s.toks) (r.append r2) (by rw [List.length_append];lia),rfl,q _ I.fresh⟩
end
theorem comp_go {X:Cx} {elt tg iter:Expr} {ifs:List Expr} {scope:Scope} {cl:List (Str × Addr)} {ts:List Str} {frs':List (Str × Nat)} {pos pos0:Pos} {wi:TI} {g:TG} {tt:TT} {te:TE} (hc:X.calm=true) (S:CompScope X scope cl ts frs')
    (hi:PI X tg iter wi) (hg:∀ pins s H fp,PG (X.comp scope cl (ts++frs'.map (·.1)) pins s H fp) tg g) (ht:∀ pins s H fp,PIfs (X.comp scope cl (ts++frs'.map (·.1)) pins s H fp) ifs tt)
    (he:∀ pins s H fp,PE (X.comp scope cl (ts++frs'.map (·.1)) pins s H fp) elt te) (hs:∀ x,foldedSetIterable iter X.env x=pure x)
    {use:Option (Value->Sem Unit)} {Qv:Value->Shared->Prop} {pins:List (Addr × Obj)} {s:Shared} {σ:St} {H:Hp} {Q:VK} (I:Inv X pins σ H s) (h:tComp ts.length frs' wi g tt te σ H Q)
    (hfin:∀ (C D:Addr) (H5:Hp) (s6:Shared) (m6:Str->Option Value),Inv X pins σ H5 s6->s6.heap.Ns C m6->FpOk X pins H5 C->(∀ h',Heap.SameBut C s6.heap h'->Inv X pins σ H5 { s6 with heap:=h' })->Q (.ref D) H5 ->
      compPost (model X.prog X.w) X.A X.xe use Qv (.ref D) C (.ok .next) s6) :
    wpAny (model X.prog X.w) X.A (comprehension (.ListComp elt [⟨tg,iter,ifs,0⟩] scope pos) scope X.env pos0 (newList []) false (eval iter X.env) use) Qv X.xe s:=by
  refine wpAny_comprehension_free (use:=use) (cl:=cl) rfl hs S.clos S.kind S.names (thn (hi pins s σ H _ I h) fun v s1 h1=>thn h1 fun itv s2 h2=>?_)
  obtain ⟨it,fp,tn,J,H2,e,I2,T,st2,f2,q2⟩:=h2
  subst e
  have fr2:H2 s2.heap.objs.size=none:=I2.hok.fresh (Nat.le_refl _)
  obtain ⟨W,⟨m0,w0⟩,turn⟩:=q2 _ fr2
  refine wpAny_newObj_type ?_
  have hlt2:∀ b∈fp,b < s2.heap.objs.size:=fun b hb=>by
    obtain ⟨o,e,_⟩:=T.obj _ _ st2 b hb
    exact Heap.lt_size e
  have I3:Inv X pins σ (upd H2 s2.heap.objs.size (.lst [])) { s2 with heap:=s2.heap.push { cls:=.type "list",data:=.seq ([]:List Value).toArray } } :=
    I2.laid (t':=s2.toks) (fun b u e=>Heap.get?_push_of_some _ e) (Nat.le_refl _) ⟨Nat.zero_le _,[],0,.nil,Heap.get?_push_size _ rfl⟩
  have f3:∀ b∈fp,FpOk X pins (upd H2 s2.heap.objs.size (.lst [])) b:=fun b hb=>⟨by rw [upd_ne (Nat.ne_of_lt (hlt2 b hb))];exact (f2 b hb).1,(f2 b hb).2⟩
  have hk3:∀ b o,s2.heap.get? b=some o->(s2.heap.push { cls:=.type "list",data:=.seq ([]:List Value).toArray }).get? b=some o:=fun b o e=>Heap.get?_push_of_some _ e
  have hsz3:(s2.heap.push { cls:=.type "list",data:=.seq ([]:List Value).toArray }).objs.size=s2.heap.objs.size + 1:=Heap.size_push ..
  refine wpAny_newFunctionEnv S.nocell (by intro y hy;simp at hy) (fun h₁ hns₁ hsb₁=>?_) S.kind
  dsimp only at hns₁ hsb₁ ⊢
  generalize hs3:({ s2 with heap:=s2.heap.push { cls:=.type "list",data:=.seq ([]:List Value).toArray } }:Shared)=s3 at I3 hns₁ hsb₁ ⊢
  have es3:s3.heap=s2.heap.push { cls:=.type "list",data:=.seq ([]:List Value).toArray }:=by rw [<- hs3]
  have hk4:∀ b o,s3.heap.get? b=some o->h₁.get? b=some o:=fun b o e=>by
    have:=hsb₁.2 b (by rw [<- es3];exact Nat.ne_of_lt (Heap.lt_size e))
    rw [<- es3] at this
    exact this.trans (Heap.get?_push_of_some _ e)
  have hlt3:∀ b∈fp,b < s3.heap.objs.size:=fun b hb=>by
    rw [es3,hsz3]
    exact Nat.lt_succ_of_lt (hlt2 b hb)
  rw [<- es3] at hns₁
  have I4:=S.inv I3 f3 hlt3 (tk:=s2.toks + ([]:List (Str × Value)).length) hns₁ hk4
  have st4:tn 0 h₁:=T.keep _ _ _ st2 fun b hb o e=>hk4 b o (by rw [es3];exact hk3 b o e)
  have estart:({ s2 with heap:=h₁,toks:=s2.toks + ([]:List (Str × Value)).length }:Shared)={ s3 with heap:=h₁,toks:=s2.toks + ([]:List (Str × Value)).length }:=by rw [<- hs3]
  rw [estart]
  have stat:∀ {H':Hp},(∀ b∈fp,H' b=none)->∀ b∈fp,FpOk (X.comp scope cl (ts++frs'.map (·.1)) pins s3 (upd H2 s2.heap.objs.size (.lst [])) fp) [] H' b:=fun hn b hb=>by
    obtain ⟨h1,h2,h3,h4,h5,h6⟩:=f3 b hb
    refine ⟨hn b hb,Nat.ne_of_lt (hlt3 b hb),fun z=>?_,.inl hb,fun x c e=>h5 x c (S.subL e),fun p hp=>h6 p (by
      have:p∈(X.pn++pins)++[]:=hp
      rwa [List.append_nil] at this)⟩
    rcases List.mem_cons.mp (I3.stkSub _ z) with e' | e'
    . exact h2 e'
    . exact h3 e'
  have loop : codeAny (model X.prog X.w) X.A (.compLoop (.ListComp elt [⟨tg,iter,ifs,0⟩] scope pos) 0 (.ref it) (.ref s2.heap.objs.size) (compEnvC scope cl s3.heap.objs.size X.env))
      (compPost (model X.prog X.w) X.A X.xe use Qv (.ref s2.heap.objs.size) s3.heap.objs.size) { s3 with heap:=h₁,toks:=s2.toks + ([]:List (Str × Value)).length }:=by
    refine compLoop_any (fun n s'=>∃ i τ H',Inv (X.comp scope cl (ts++frs'.map (·.1)) pins s3 (upd H2 s2.heap.objs.size (.lst [])) fp) [] τ H' s'/\tn i s'.heap/\(∀ b∈fp,H' b=none)/\W i n τ H') ?_ m0
      ⟨0,_,_,I4,st4,fun b hb=>(f3 b hb).1,w0⟩
    rintro n s5 ⟨i,τ,H5,I5,st5,fr5,w5⟩
    rcases turn i n τ H5 w5 with ⟨stop,qn⟩ | ⟨go,step⟩
    . refine wpAny_mono (T.done (X.comp scope cl (ts++frs'.map (·.1)) pins s3 (upd H2 s2.heap.objs.size (.lst [])) fp) rfl rfl rfl hc i [] s5 τ H5 (fun _ _=>False) I5 (stat fr5) st5 stop) (fun r s6 ⟨hr,I6⟩=>?_) fun _ _ z=>z
      subst hr
      obtain ⟨m6,hn6,_⟩:=id I6.loc
      have hA:∀ h',Heap.SameBut s3.heap.objs.size s6.heap h'->Inv X pins σ H5 { s6 with heap:=h' }:=fun h' hs'=>CompScope.after I3 f3 I6 hs'
      have hC0:=I3.fpOk (b:=s3.heap.objs.size) (Nat.le_refl _) (I3.hok.fresh (Nat.le_refl _))
      exact hfin _ _ H5 s6 m6 (hA s6.heap ⟨rfl,fun _ _=>rfl⟩) hn6 ⟨I6.free,hC0.2⟩ hA qn
    . refine wpAny_mono (T.item (X.comp scope cl (ts++frs'.map (·.1)) pins s3 (upd H2 s2.heap.objs.size (.lst [])) fp) rfl rfl rfl hc i [] s5 τ H5 (fun _ _=>False) I5 (stat fr5) st5 go) (fun r s6 ⟨u,hr,h6⟩=>?_) fun _ _ z=>z
      subst hr
      refine thn h6 fun _ s7 h_q=>?_
      obtain ⟨x,H7,I7,r7,y7,st7,fr7⟩:=h_q
      have I7':=I7.pinned (stat fr7) (T.obj _ _ st7)
      refine thn (hg _ _ _ _ _ s7 τ H7 x u _ I7' r7 (step x H7 y7)) fun _ s8 h_q=>?_
      obtain ⟨τ8,H8,I8,q8⟩:=h_q
      refine thn (ht _ _ _ _ _ s8 τ8 H8 _ I8 q8) fun ok s9 h_q=>?_
      obtain ⟨H9,I9,q9⟩:=h_q
      have again:∀ {m':Nat} {H':Hp} {s':Shared},Inv (X.comp scope cl (ts++frs'.map (·.1)) pins s3 (upd H2 s2.heap.objs.size (.lst [])) fp) ([]++pinsAt fp s7.heap) τ8 H' s'->m' < n->W (i + 1) m' τ8 H' ->
          ∃ m,m < n/\∃ i τ H',Inv (X.comp scope cl (ts++frs'.map (·.1)) pins s3 (upd H2 s2.heap.objs.size (.lst [])) fp) [] τ H' s'/\tn i s'.heap/\(∀ b∈fp,H' b=none)/\W i m τ H':=fun {m' H' s'} I' hm w'=>by
        refine ⟨m',hm,i + 1,τ8,H',I'.unpinned,T.keep _ _ _ st7 fun b hb o e=>(I'.pin (b,o) (List.mem_append_right _ (List.mem_append_right _ (mem_pinsAt hb e)))).1,fun b hb=>?_,w'⟩
        obtain ⟨o,e,d⟩:=T.obj _ _ st7 b hb
        exact (I'.pin (b,o) (List.mem_append_right _ (List.mem_append_right _ (mem_pinsAt hb e)))).2.1
      cases ok with
      | false =>
        rw [if_neg Bool.false_ne_true]
        rw [if_neg Bool.false_ne_true] at q9
        obtain ⟨m',hm,w'⟩:=q9
        exact again I9 hm w'
      | true =>
        rw [if_pos rfl]
        rw [if_pos rfl] at q9
        refine thn (he _ _ _ _ _ s9 τ8 H9 _ I9 q9) fun yv s10 h_q=>?_
        obtain ⟨y,H10,I10,r10,ys,hl,hz,m',hm,w'⟩:=h_q
        refine thn (mt_append _ s10 τ8 H10 (.ref s2.heap.objs.size) [y] (.ref s2.heap.objs.size) [yv] (fun _ H'=>W (i + 1) m' τ8 H') I10 rfl (.cons r10 .nil) ⟨_,ys,y,rfl,rfl,hl,hz,w'⟩) fun _ s11 h_q=>?_
        obtain ⟨_,H11,I11,_,w11⟩:=h_q
        exact again I11 hm w11
  have es:(s2.heap.push { cls:=.type "list",data:=.seq ([]:List Value).toArray }).objs.size=s3.heap.objs.size:=by rw [es3]
  rw [es]
  exact codeAny_compStart_list loop (T.self _ 0 _ _ _ st4 loop)
theorem pe_comp {X:Cx} {elt tg iter:Expr} {ifs:List Expr} {scope:Scope} {cl:List (Str × Addr)} {ts:List Str} {frs':List (Str × Nat)} {pos:Pos} {wi:TI} {g:TG} {tt:TT} {te:TE} (hc:X.calm=true) (S:CompScope X scope cl ts frs')
    (hi:PI X tg iter wi) (hg:∀ pins s H fp,PG (X.comp scope cl (ts++frs'.map (·.1)) pins s H fp) tg g) (ht:∀ pins s H fp,PIfs (X.comp scope cl (ts++frs'.map (·.1)) pins s H fp) ifs tt)
    (he:∀ pins s H fp,PE (X.comp scope cl (ts++frs'.map (·.1)) pins s H fp) elt te) (hs:∀ x,foldedSetIterable iter X.env x=pure x:=by intro _;rfl) :
    PE X (.ListComp elt [⟨tg,iter,ifs,0⟩] scope pos) (tComp ts.length frs' wi g tt te):=by
  intro pins s σ H Q I h
  rw [eval_ListComp]
  exact comp_go hc S hi hg ht he hs (use:=none) (Qv:=EP X pins σ Q) I h fun C D H5 s6 m6 I6 hn fpc hA q=>⟨m6,hn,fun h' hs'=>⟨.ref D,H5,hA h' hs',rfl,q⟩⟩
theorem ps_setC {X:Cx} {elt tg iter:Expr} {ifs:List Expr} {scope:Scope} {cl:List (Str × Addr)} {ts:List Str} {frs':List (Str × Nat)} {pos spos py:Pos} {wi:TI} {g:TG} {tt:TT} {te:TE} {i:Nat} {y:Str}
    (hN:X.N.Nodup) (hi':X.N[i]? = some y) (hy:Loc X.env.scope y) (hsw:swapsWith (.ListComp elt [⟨tg,iter,ifs,0⟩] scope pos) (some (.Name y py)) spos.line X.env=pure true) (hc:X.calm=true) (S:CompScope X scope cl ts frs')
    (hi:PI X tg iter wi) (hg:∀ pins s H fp,PG (X.comp scope cl (ts++frs'.map (·.1)) pins s H fp) tg g) (ht:∀ pins s H fp,PIfs (X.comp scope cl (ts++frs'.map (·.1)) pins s H fp) ifs tt)
    (he:∀ pins s H fp,PE (X.comp scope cl (ts++frs'.map (·.1)) pins s H fp) elt te) (hs:∀ x,foldedSetIterable iter X.env x=pure x:=by intro _;rfl) (hf:X.fn y=true\/X.env.scope.names.lookup y=some .local:=by first | exact .inl rfl | exact .inr rfl | assumption) :
    PS X (.Assign [.Name y py] (.ListComp elt [⟨tg,iter,ifs,0⟩] scope pos) spos) (tAsg (tComp ts.length frs' wi g tt te) (gName i)):=by
  intro pins s σ H D I h
  rw [exec_Assign_Name_used _ _ _ _ hsw]
  refine wpAny_bind (wpAny_standAt (wpAny_bind ?_))
  show wpAny _ X.A (do let _ <- comprehension (.ListComp elt [⟨tg,iter,ifs,0⟩] scope pos) scope X.env _ (newList []) false (eval iter X.env) (some (assign (.Name y py) X.env))) _ _ s
  refine wpAny_bind (wpAny_mono (comp_go hc S hi hg ht he hs (Qv:=fun _ s'=>SP X pins D .next s') (use:=some (assign (.Name y py) X.env)) I h ?_) (fun _ s' hq=>wpAny_pure (wpAny_pure hq)) fun _ _ e=>e)
  intro C Da H5 s6 m6 I6 hn6 fpC hA qn
  show wpAny _ X.A (assign (.Name y py) X.env (.ref Da)) _ _ _
  refine wpAny_assign_Name (store_ok2 I6 hN hi' hy (v:=.ref Da) rfl (fun s7 I7 ⟨a,sb,ha⟩=>?_) hf)
  have hCa:C≠a:=by
    obtain ⟨_,h2,_,_,h5,_⟩:=fpC
    rcases ha with rfl | ha
    . exact h2
    . exact fun e=>h5 _ _ ha e.symm
  refine ⟨m6,hn6.sameBut sb hCa,fun h' hs'=>?_⟩
  obtain ⟨f0,f1,f2,f3,f4,f5⟩:=fpC
  exact ⟨_,H5,I7.turned (h':=h') (t':=s7.toks) (fun b o hb e=>(hs'.2 b hb).trans e) f0 f1 f3 f4 f5,qn⟩
noncomputable def uListOf (K:PySem.W.Frag):List V->Hp->VK->Prop:=fun xs H Q=>match xs with
  | [.ref p]=>∃ ys,Sq K H p ys/\∀ l,H l=none->Q (.ref l) (upd H l (.lst ys))
  | _=>False
theorem c_list {X:Cx}:CallR X (.type "list") (uListOf X.K):=call_list_of.imp fun xs H Q q=>by
  unfold uListOf at q
  split at q
  . obtain ⟨ys,h1,h2⟩:=q
    exact ⟨_,ys,rfl,h1,h2⟩
  . exact q.elim
noncomputable def uTupOf (K:PySem.W.Frag):List V->Hp->VK->Prop:=fun xs H Q=>match xs with
  | [.ref p]=>∃ ys,((SqL K H p ys/\∀ l,H l=none->Q (.ref l) (upd H l (.tup ys)))\/(SqT K H p ys/\Q (.ref p) H))
  | _=>False
theorem c_tuple {X:Cx}:CallR X (.type "tuple") (uTupOf X.K):=call_tuple_of.imp fun xs H Q q=>by
  unfold uTupOf at q
  split at q
  . obtain ⟨ys,h⟩:=q
    exact ⟨_,ys,rfl,h⟩
  . exact q.elim
end L2
namespace MM
noncomputable def sm (n:Nat) (f:Nat->Int):Int:=((List.range n).map f).sum
noncomputable abbrev at0 (l:List Int) (i:Nat):Int:=l.getD i 0
end MM
namespace MM
noncomputable def mc:Nat->Nat->Nat
  | _,0=>1
  | 0,_ + 1=>0
  | m + 1,j + 1=>mc m (j + 1) + mc (m + 1) j
noncomputable def ch:Nat->Nat->Nat
  | _,0=>1
  | 0,_ + 1=>0
  | n + 1,k + 1=>ch n k + ch n (k + 1)
noncomputable def hat (l:List Int):Int->Int:=fun z=>if 0<=z then at0 l z.toNat else 0
noncomputable def part (w:Nat->Int) (s:Nat) (bs:List Int) (m n:Nat):Int:=sm (m + 1) fun j=>if j * s<=n then w j * at0 bs (n - j * s) else 0
end MM
namespace L2
open PySem PySem.Spec PyProof.Rows
theorem iteP {c A B:Prop} [Decidable c] (hc:c) (h:A):if c then A else B:=by rw [if_pos hc];exact h
theorem iteN {c A B:Prop} [Decidable c] (hc:¬ c) (h:B):if c then A else B:=by rw [if_neg hc];exact h
end L2
namespace L2
open PySem PySem.Spec PyProof.Rows
section
variable {X:Cx} {pins:List (Addr × Obj)} {σ:St} {H:Hp} {s:Shared}
theorem Inv.turnedL {h':Heap} {ch:List Addr} {T:Addr} {o:HO} {t':Nat} (I:Inv X pins σ H s) (hch:∀ b∈ch,FpOk X pins H b) (k:∀ b u,b ∉ ch->s.heap.get? b=some u->h'.get? b=some u) (hT:s.heap.objs.size<=T)
    (new:ObjOk X.prog X.w (upd H T o) h' T o):Inv X pins σ (upd H T o) { s with heap:=h',toks:=t' }:=by
  have hn:H T=none:=I.hok.fresh hT
  have nT:∀ b u,s.heap.get? b=some u->b≠T:=fun b u e=>Nat.ne_of_lt (Nat.lt_of_lt_of_le (Heap.lt_size e) hT)
  have nch:∀ b u,H b=some u->b ∉ ch:=fun b u e z=>by rw [(hch b z).1] at e;cases e
  refine I.step (g':=s.gens) (d':=s.drawn) (ch:=ch) (fun b hb=>?_) (fun b u _ _ hc e _=>k b u hc e) (fun b u _ _ hc e _=>⟨u.slots,k b u hc e⟩) (fun b u _ e n=>by rw [upd_ne (nT b u e)];exact n)
    (fun b u hc e=>⟨u,k b u hc e⟩) (fun b xs e=>by rw [upd_ne (ne_of_none e hn)];exact e) (fun b u v e=>by rw [upd_ne (ne_of_none e hn)];exact e) (fun b ps e=>⟨#[],by rw [upd_ne (ne_of_none e hn),e];simp⟩) (fun m hm=>?_) (fun b u e=>?_) I.bare
  . obtain ⟨h0,h1,h2,h3,h4,h5⟩:=hch b hb
    exact ⟨h3,h1,h4,h5⟩
  . obtain ⟨ob,es,ep,ho,r⟩:=hm
    exact ⟨ob,es,ep,k _ ob (fun z=>(hch _ z).2.1 rfl) ho,r⟩
  . by_cases hb:b=T
    . subst hb;rw [upd_same] at e;cases e;exact new
    . rw [upd_ne hb] at e
      refine (I.hok b u e).stay (fun c v hc q=>k c v ?_ q) (fun c q=>by rw [upd_ne (ne_of_none q hn)];exact q) fun c xs q=>by rw [upd_ne (ne_of_none q hn)];exact q
      rcases hc with z | z
      . rw [z];exact nch b u e
      . exact nch c _ z
theorem Inv.turnedM {h':Heap} {ch:List Addr} {t':Nat} (I:Inv X pins σ H s) (hch:∀ b∈ch,FpOk X pins H b) (k:∀ b u,b ∉ ch->s.heap.get? b=some u->h'.get? b=some u):Inv X pins σ H { s with heap:=h',toks:=t' }:=by
  have nch:∀ b u,H b=some u->b ∉ ch:=fun b u e z=>by rw [(hch b z).1] at e;cases e
  refine I.step (g':=s.gens) (d':=s.drawn) (ch:=ch) (fun b hb=>?_) (fun b u _ _ hc e _=>k b u hc e) (fun b u _ _ hc e _=>⟨u.slots,k b u hc e⟩) (fun _ _ _ _ n=>n)
    (fun b u hc e=>⟨u,k b u hc e⟩) (fun _ _ e=>e) (fun _ _ _ e=>e) (fun b ps e=>⟨#[],by rw [e];simp⟩) (fun m hm=>?_) (fun b u e=>?_) I.bare
  . obtain ⟨h0,h1,h2,h3,h4,h5⟩:=hch b hb
    exact ⟨h3,h1,h4,h5⟩
  . obtain ⟨ob,es,ep,ho,r⟩:=hm
    exact ⟨ob,es,ep,k _ ob (fun z=>(hch _ z).2.1 rfl) ho,r⟩
  . refine (I.hok b u e).stay (fun c v hc q=>k c v ?_ q) (fun _ q=>q) fun _ _ q=>q
    rcases hc with z | z
    . rw [z];exact nch b u e
    . exact nch c _ z
end
noncomputable def Itz (K:PySem.W.Frag) (a b:Addr):It :=
  ⟨fun i H=>∃ xs ys x y,SqL K H a xs/\SqL K H b ys/\xs[i]? = some x/\ys[i]? = some y,
   fun i H v H'=>∃ T x y,v=.ref T/\H T=none/\H'=upd H T (.tup [x,y])/\(∀ xs,SqL K H a xs->xs[i]? = some x)/\(∀ ys,SqL K H b ys->ys[i]? = some y),
   fun i H=>∃ xs ys,SqL K H a xs/\SqL K H b ys/\(xs.length<=i\/ys.length<=i)⟩
noncomputable def Ite (K:PySem.W.Frag) (a:Addr):It :=
  ⟨fun i H=>∃ xs x,SqL K H a xs/\xs[i]? = some x,
   fun i H v H'=>∃ T x,v=.ref T/\H T=none/\H'=upd H T (.tup [.int i,x])/\(∀ xs,SqL K H a xs->xs[i]? = some x),
   fun i H=>∃ xs,SqL K H a xs/\xs.length<=i⟩
theorem turn_zip {P:Program} {w:World} {K:PySem.W.Frag} {elts:List Expr} {k0} {pos:Pos} {z TI TO i1 i2 l1 l2:Addr} (D:ZipApart z TI TO i1 i2 l1 l2):Turn P w K (.Tuple elts k0 pos) (Itz K l1 l2) [z,TI,TO,i1,i2] z
    (fun i h=>IsZip h z TI TO .none/\IsPair h TI (.ref i1) (.ref i2)/\(∃ a b,IsPair h TO a b)/\h.IsListIter i1 l1 i/\h.IsListIter i2 l2 i) where
  mem:=by simp
  obj := fun i h st b hb=>by
    obtain ⟨hz,hTI,⟨a,c,hTO⟩,h1,h2⟩:=st
    simp only [List.mem_cons,List.not_mem_nil,or_false] at hb
    rcases hb with rfl | rfl | rfl | rfl | rfl
    . exact ⟨_,hz,fun v q=>nomatch q⟩
    . exact ⟨_,hTI,fun v q=>nomatch q⟩
    . exact ⟨_,hTO,fun v q=>nomatch q⟩
    . obtain ⟨o,e,c,d⟩:=h1
      exact ⟨o,e,fun v q=>by rw [d] at q;cases q⟩
    . obtain ⟨o,e,c,d⟩:=h2
      exact ⟨o,e,fun v q=>by rw [d] at q;cases q⟩
  keep:=fun i h h' st k=>by
    obtain ⟨hz,hTI,⟨a,c,hTO⟩,h1,h2⟩:=st
    exact ⟨k z (by simp) _ hz,k TI (by simp) _ hTI,⟨a,c,k TO (by simp) _ hTO⟩,h1.at fun o e=>k i1 (by simp) o e,h2.at fun o e=>k i2 (by simp) o e⟩
  item := by
    intro X hP hw hK hc i pins s σ H E I hf st hg
    subst hP hw hK
    obtain ⟨hz,hTI,⟨a,c,hTO⟩,h1,h2⟩:=st
    obtain ⟨xs,ys,x,y,hx,hy,hxi,hyi⟩:=hg
    obtain ⟨its,rv,p,_⟩:=I.list hx
    obtain ⟨its2,rv2,p2,_⟩:=I.list hy
    obtain ⟨u,hu,ru⟩:=rv.get hxi
    obtain ⟨u2,hu2,ru2⟩:=rv2.get hyi
    refine wpAny_pyNext_zip_item D hz hTI hTO h1 h2 p.isList p2.isList (x:=u) (y:=u2) (by simpa using hu) (by simpa using hu2) fun h' a1 a2 a3 a4 a5 a6 hk=>?_
    refine ⟨_,rfl,wpAny_letOwnedTupleGo_zip a1 fun h'' hz' sb=>?_⟩
    have nz:s.heap.objs.size≠z:=Nat.ne_of_gt (Heap.lt_size hz)
    have hT':IsTup h'' s.heap.objs.size [u,u2].toArray:=⟨_,sb.extBut _ _ nz a5,rfl,_,rfl⟩
    have I':Inv X pins σ (upd H s.heap.objs.size (.tup [x,y])) { s with heap:=h'',toks:=s.toks }:=I.turnedL (ch:=[z,TI,TO,i1,i2]) hf (fun b o hb e=>by
      simp only [List.mem_cons,List.not_mem_nil,or_false,not_or] at hb
      exact sb.extBut _ _ hb.1 (hk b o hb.1 hb.2.2.1 hb.2.2.2.1 hb.2.2.2.2 e)) (Nat.le_refl _) ⟨by show 2<=sizeLine;decide,[u,u2],.cons ru (.cons ru2 .nil),hT'⟩
    have hn:H s.heap.objs.size=none:=I.hok.fresh (Nat.le_refl _)
    refine ⟨.ref s.heap.objs.size,_,I',rfl,⟨_,x,y,rfl,hn,rfl,fun zs hzs=>by rw [I.list_inj hzs hx];exact hxi,fun zs hzs=>by rw [I.list_inj hzs hy];exact hyi⟩,
      ⟨hz',sb.extBut _ _ D.TIz (hk _ _ D.TIz D.TITO D.TIi1 D.TIi2 hTI),⟨_,_,sb.extBut _ _ D.TOz a2⟩,a3.extBut sb.extBut D.i1z,a4.extBut sb.extBut D.i2z⟩,fun b hb=>?_⟩
    have hfb:=(hf b hb).1
    have : b≠s.heap.objs.size:=by
      obtain ⟨o,e⟩:∃ o,s.heap.get? b=some o:=by
        simp only [List.mem_cons,List.not_mem_nil,or_false] at hb
        rcases hb with rfl | rfl | rfl | rfl | rfl
        . exact ⟨_,hz⟩
        . exact ⟨_,hTI⟩
        . exact ⟨_,hTO⟩
        . obtain ⟨o,e,_⟩:=h1;exact ⟨o,e⟩
        . obtain ⟨o,e,_⟩:=h2;exact ⟨o,e⟩
      exact Nat.ne_of_lt (Heap.lt_size e)
    rw [upd_ne this];exact hfb
  done := by
    intro X hP hw hK hc i pins s σ H E I hf st hg
    subst hP hw hK
    obtain ⟨hz,hTI,⟨a,c,hTO⟩,h1,h2⟩:=st
    obtain ⟨xs,ys,hx,hy,hend⟩:=hg
    obtain ⟨its,rv,p,_⟩:=I.list hx
    obtain ⟨its2,rv2,p2,_⟩:=I.list hy
    have hl:=rv.length
    have hl2:=rv2.length
    refine wpAny_pyNext_zip_end (I.ok.hd hc) D hz hTI hTO h1 h2 p.isList p2.isList ?_ fun h' hk=>⟨rfl,I.turnedM (t':=s.toks) (ch:=[z,TI,TO,i1,i2]) hf (fun b o hb e=>by
      simp only [List.mem_cons,List.not_mem_nil,or_false,not_or] at hb
      exact hk b o hb.1 hb.2.2.1 hb.2.2.2.1 hb.2.2.2.2 e)⟩
    rcases hend with h | h
    . exact .inl (by simp;lia)
    . exact .inr (by simp;lia)
  self:=fun _ _ _ _ _ st h=>wpAny_pyIter_zip st.1 h
theorem turn_enum {P:Program} {w:World} {K:PySem.W.Frag} {elts:List Expr} {k0} {pos:Pos} {e it l:Addr} (hne:e≠it):Turn P w K (.Tuple elts k0 pos) (Ite K l) [e,it] e
    (fun i h=>(∃ old,IsEnum h e it i old)/\h.IsListIter it l i) where
  mem:=by simp
  obj := fun i h st b hb=>by
    obtain ⟨⟨old,he⟩,h1⟩:=st
    simp only [List.mem_cons,List.not_mem_nil,or_false] at hb
    rcases hb with rfl | rfl
    . exact ⟨_,he,fun v q=>nomatch q⟩
    . obtain ⟨o,e,c,d⟩:=h1
      exact ⟨o,e,fun v q=>by rw [d] at q;cases q⟩
  keep:=fun i h h' st k=>by
    obtain ⟨⟨old,he⟩,h1⟩:=st
    exact ⟨⟨old,k e (by simp) _ he⟩,h1.at fun o q=>k it (by simp) o q⟩
  item := by
    intro X hP hw hK hc i pins s σ H E I hf st hg
    subst hP hw hK
    obtain ⟨⟨old,he⟩,h1⟩:=st
    obtain ⟨xs,x,hx,hxi⟩:=hg
    obtain ⟨its,rv,p,_⟩:=I.list hx
    obtain ⟨u,hu,ru⟩:=rv.get hxi
    refine wpAny_pyNext_enum_item he h1 p.isList (x:=u) (by simpa using hu) hne fun h' a1 a2 a3 a4 hk=>?_
    refine ⟨_,rfl,wpAny_letOwnedTupleGo_enum a1 fun h'' he' sb=>?_⟩
    have nz:s.heap.objs.size≠e:=Nat.ne_of_gt (Heap.lt_size he)
    have hT':IsTup h'' s.heap.objs.size [Value.int i s.toks,u].toArray:=⟨_,sb.extBut _ _ nz a3,rfl,_,rfl⟩
    have I':Inv X pins σ (upd H s.heap.objs.size (.tup [.int i,x])) { s with heap:=h'',toks:=s.toks + 1 }:=I.turnedL (ch:=[e,it]) hf (fun b o hb q=>by
      simp only [List.mem_cons,List.not_mem_nil,or_false,not_or] at hb
      exact sb.extBut _ _ hb.1 (hk b o hb.1 hb.2 q)) (Nat.le_refl _) ⟨by show 2<=sizeLine;decide,[Value.int i s.toks,u],.cons ⟨_,rfl⟩ (.cons ru .nil),hT'⟩
    have hn:H s.heap.objs.size=none:=I.hok.fresh (Nat.le_refl _)
    refine ⟨.ref s.heap.objs.size,_,I',rfl,⟨_,x,rfl,hn,rfl,fun zs hzs=>by rw [I.list_inj hzs hx];exact hxi⟩,⟨⟨_,by push_cast;exact he'⟩,a2.extBut sb.extBut (Ne.symm hne)⟩,fun b hb=>?_⟩
    have hfb:=(hf b hb).1
    have : b≠s.heap.objs.size:=by
      obtain ⟨o,q⟩:∃ o,s.heap.get? b=some o:=by
        simp only [List.mem_cons,List.not_mem_nil,or_false] at hb
        rcases hb with rfl | rfl
        . exact ⟨_,he⟩
        . obtain ⟨o,q,_⟩:=h1;exact ⟨o,q⟩
      exact Nat.ne_of_lt (Heap.lt_size q)
    rw [upd_ne this];exact hfb
  done := by
    intro X hP hw hK hc i pins s σ H E I hf st hg
    subst hP hw hK
    obtain ⟨⟨old,he⟩,h1⟩:=st
    obtain ⟨xs,hx,hend⟩:=hg
    obtain ⟨its,rv,p,_⟩:=I.list hx
    have hl:=rv.length
    exact wpAny_pyNext_enum_end (I.ok.hd hc) he h1 p.isList (by simp;lia) fun h' hk=>⟨rfl,I.turnedM (t':=s.toks) (ch:=[e,it]) hf (fun b o hb q=>by
      simp only [List.mem_cons,List.not_mem_nil,or_false,not_or] at hb
      exact hk b o hb.2 q)⟩
  self:=fun _ _ _ _ _ st h=>by
    obtain ⟨⟨old,he⟩,h1⟩:=st
    exact wpAny_pyIter_enum he h
noncomputable def uZip (K:PySem.W.Frag):List V->Hp->(It->Hp->Prop)->Prop:=fun vs H R=>match vs with
  | [.ref a,.ref b]=>(∃ xs ys,SqL K H a xs/\SqL K H b ys)/\R (Itz K a b) H
  | _=>False
noncomputable def uEnum (K:PySem.W.Frag):List V->Hp->(It->Hp->Prop)->Prop:=fun vs H R=>match vs with
  | [.ref a]=>(∃ xs,SqL K H a xs)/\R (Ite K a) H
  | _=>False
noncomputable def jArgs (u:List V->Hp->(It->Hp->Prop)->Prop) (ta:TA):TI:=fun σ H R=>ta σ H fun vs H1=>u vs H1 R
theorem boot_enumerate:bootBuiltins "enumerate"=some (.type "enumerate"):=by decide +kernel
theorem g2 {K:PySem.W.Frag} {T:Addr} {x y:V} {k0 k1:Option V} {fr:St} {H:Hp} {Q:St->Hp->Prop} (h:SqT K H T [x,y]) (q:Q (some x::some y::fr) H):gTup K 2 (gCons (gName 0) (gCons (gName 1) gNil)) (.ref T) (k0::k1::fr) H Q :=
  ⟨T,_,rfl,h,rfl,_,_,rfl,_,_,rfl,rfl,q⟩
end L2
namespace L2
open PySem PySem.Spec PyProof.Rows
end L2
namespace L2
open PySem PySem.Spec PyProof.Rows
theorem argBest_min (ns:List Int):∀ k i,i<=k->MM.at0 ns (argBest (fun i j=>decide (MM.at0 ns i < MM.at0 ns j)) k)<=MM.at0 ns i
  | 0, i,h=>by
    have:i=0:=by lia
    subst this
    exact Int.le_refl _
  | k + 1, i,h=>by
    rw [argBest]
    have ih:=argBest_min ns k
    split
    . rename_i hb
      have hb:=of_decide_eq_true hb
      by_cases e:i=k + 1
      . rw [e];exact Int.le_refl _
      . have:=ih i (by lia)
        lia
    . rename_i hb
      have hb:¬ (MM.at0 ns (k + 1) < MM.at0 ns (argBest (fun i j=>decide (MM.at0 ns i < MM.at0 ns j)) k)):=fun z=>hb (decide_eq_true z)
      by_cases e:i=k + 1
      . rw [e];lia
      . exact ih i (by lia)
theorem argBest_max (ns:List Int):∀ k i,i<=k->MM.at0 ns i<=MM.at0 ns (argBest (fun i j=>decide (MM.at0 ns j < MM.at0 ns i)) k)
  | 0, i,h=>by
    have:i=0:=by lia
    subst this
    exact Int.le_refl _
  | k + 1, i,h=>by
    rw [argBest]
    have ih:=argBest_max ns k
    split
    . rename_i hb
      have hb:=of_decide_eq_true hb
      by_cases e:i=k + 1
      . rw [e];exact Int.le_refl _
      . have:=ih i (by lia)
        lia
    . rename_i hb
      have hb:¬ (MM.at0 ns (argBest (fun i j=>decide (MM.at0 ns j < MM.at0 ns i)) k) < MM.at0 ns (k + 1)):=fun z=>hb (decide_eq_true z)
      by_cases e:i=k + 1
      . rw [e];lia
      . exact ih i (by lia)
theorem at0_mem {ns:List Int} {i:Nat} (h:i < ns.length):MM.at0 ns i∈ns:=by
  unfold MM.at0
  rw [List.getD_eq_getElem?_getD,List.getElem?_eq_getElem h]
  exact List.getElem_mem h
theorem mem_at0 {ns:List Int} {x:Int} (h:x∈ns):∃ i,i < ns.length/\MM.at0 ns i=x:=by
  obtain ⟨i,hi,e⟩:=List.mem_iff_getElem.mp h
  refine ⟨i,hi,?_⟩
  unfold MM.at0
  rw [List.getD_eq_getElem?_getD,List.getElem?_eq_getElem hi]
  exact e
theorem vals_at0 {ns:List Int} {its:List Value} (rv:Vals (ns.map V.int) its) {i:Nat} {v:Value} (h:its.toArray[i]? = some v):i < ns.length/\∃ t,v=.int (MM.at0 ns i) t:=by
  have hv':its[i]? = some v:=by simpa using h
  have hlen:=rv.length
  have hi:i < ns.length:=by
    have:=(List.getElem?_eq_some_iff.mp hv').1
    rw [List.length_map] at hlen
    lia
  refine ⟨hi,?_⟩
  have e:(ns.map V.int)[i]? = some (.int (MM.at0 ns i)):=by
    rw [List.getElem?_map,List.getElem?_eq_getElem hi]
    unfold MM.at0
    rw [List.getD_eq_getElem?_getD,List.getElem?_eq_getElem hi]
    rfl
  obtain ⟨u,hu,ru⟩:=rv.get e
  rw [hv'] at hu
  cases hu
  exact ru
section
variable {X:Cx}
noncomputable def uMinA (K:PySem.W.Frag):List V->Hp->VK->Prop:=fun xs H Q=>match xs with
  | [.int i,.int j]=>Q (.int (min i j)) H
  | [.ref p]=>∃ ns:List Int,SqL K H p (ns.map V.int)/\1<=ns.length/\∀ m,m∈ns->(∀ x∈ns,m<=x)->Q (.int m) H
  | _=>False
noncomputable def uMaxA (K:PySem.W.Frag):List V->Hp->VK->Prop:=fun xs H Q=>match xs with
  | [.int i,.int j]=>Q (.int (max i j)) H
  | [.ref p]=>∃ ns:List Int,SqL K H p (ns.map V.int)/\1<=ns.length/\∀ m,m∈ns->(∀ x∈ns,x<=m)->Q (.int m) H
  | _=>False
theorem c_minL (hc:X.calm=true):CallR X (.builtin "min") (fun xs H Q=>∃ (p:Addr) (ns:List Int),xs=[.ref p]/\SqL X.K H p (ns.map V.int)/\1<=ns.length/\∀ m,m∈ns->(∀ x∈ns,m<=x)->Q (.int m) H):=by
  intro pins s σ H xs us Q I r h
  obtain ⟨p,ns,rfl,hl,h1,q⟩:=h
  obtain ⟨u,rfl,ru⟩:=r.one
  cases ru
  obtain ⟨its,rv,pl,hz⟩:=I.list hl
  have hlen:its.toArray.size=ns.length:=by have:=rv.length;simp at this;simp;lia
  have hp:p < s.heap.objs.size:=by obtain ⟨o,n,e,_⟩:=pl;exact Heap.lt_size e
  refine call_min_walk (wpAny_pyIter_list pl.isList ?_)
  refine ⟨s.heap.objs.size,_,_,_,_,_,fun i j=>decide (MM.at0 ns i < MM.at0 ns j),rfl,Walks.list (show X.A.in1.handled=none from I.ok.hd hc) s.heap.objs.size p (Nat.ne_of_lt hp) its.toArray,⟨⟨_,Heap.get?_push_size _ rfl,rfl,rfl⟩,pl.isList.at fun o e=>Heap.get?_push_of_some _ e⟩,?_,by rw [hlen];exact h1,?_,?_⟩
  . intro b hb
    rw [Heap.size_push]
    rcases List.mem_cons.mp hb with rfl | hb
    . exact Nat.lt_succ_self _
    . have:b=p:=by simpa using hb
      subst this
      exact Nat.lt_succ_of_lt hp
  . intro i j vi vj s' Q' E' hi hj hq
    obtain ⟨_,t,rfl⟩:=vals_at0 rv hi
    obtain ⟨_,t',rfl⟩:=vals_at0 rv hj
    exact HT.rcLt_int _ _ _ _ _ _ _ _ _ _ hq
  . intro v h' tk hv hk
    obtain ⟨hi,t,rfl⟩:=vals_at0 rv hv
    rw [hlen] at hi ⊢
    refine ⟨.int _,H,I.kept (t':=tk) fun b o e=>hk b o (by simp;exact Nat.ne_of_lt (Heap.lt_size e)) (Heap.get?_push_of_some _ e),⟨_,rfl⟩,q _ (at0_mem hi) fun x hx=>?_⟩
    obtain ⟨j,hj,rfl⟩:=mem_at0 hx
    exact argBest_min ns (ns.length - 1) j (by lia)
theorem c_maxL (hc:X.calm=true):CallR X (.builtin "max") (fun xs H Q=>∃ (p:Addr) (ns:List Int),xs=[.ref p]/\SqL X.K H p (ns.map V.int)/\1<=ns.length/\∀ m,m∈ns->(∀ x∈ns,x<=m)->Q (.int m) H):=by
  intro pins s σ H xs us Q I r h
  obtain ⟨p,ns,rfl,hl,h1,q⟩:=h
  obtain ⟨u,rfl,ru⟩:=r.one
  cases ru
  obtain ⟨its,rv,pl,hz⟩:=I.list hl
  have hlen:its.toArray.size=ns.length:=by have:=rv.length;simp at this;simp;lia
  have hp:p < s.heap.objs.size:=by obtain ⟨o,n,e,_⟩:=pl;exact Heap.lt_size e
  refine call_max_walk (wpAny_pyIter_list pl.isList ?_)
  refine ⟨s.heap.objs.size,_,_,_,_,_,fun i j=>decide (MM.at0 ns j < MM.at0 ns i),rfl,Walks.list (show X.A.in1.handled=none from I.ok.hd hc) s.heap.objs.size p (Nat.ne_of_lt hp) its.toArray,⟨⟨_,Heap.get?_push_size _ rfl,rfl,rfl⟩,pl.isList.at fun o e=>Heap.get?_push_of_some _ e⟩,?_,by rw [hlen];exact h1,?_,?_⟩
  . intro b hb
    rw [Heap.size_push]
    rcases List.mem_cons.mp hb with rfl | hb
    . exact Nat.lt_succ_self _
    . have:b=p:=by simpa using hb
      subst this
      exact Nat.lt_succ_of_lt hp
  . intro i j vi vj s' Q' E' hi hj hq
    obtain ⟨_,t,rfl⟩:=vals_at0 rv hi
    obtain ⟨_,t',rfl⟩:=vals_at0 rv hj
    have hq':Q' (.bool (decide (MM.at0 ns i > MM.at0 ns j))) s':=hq
    exact (PyProof.Rows.gt_int hq':wpAny _ _ (compareOp .Gt _ _) _ _ _)
  . intro v h' tk hv hk
    obtain ⟨hi,t,rfl⟩:=vals_at0 rv hv
    rw [hlen] at hi ⊢
    refine ⟨.int _,H,I.kept (t':=tk) fun b o e=>hk b o (by simp;exact Nat.ne_of_lt (Heap.lt_size e)) (Heap.get?_push_of_some _ e),⟨_,rfl⟩,q _ (at0_mem hi) fun x hx=>?_⟩
    obtain ⟨j,hj,rfl⟩:=mem_at0 hx
    exact argBest_max ns (ns.length - 1) j (by lia)
theorem c_minA (hc:X.calm=true):CallR X (.builtin "min") (uMinA X.K):=((c_min hc).or (c_minL hc)).imp fun xs H Q q=>by
  unfold uMinA at q
  split at q
  . exact .inl q
  . obtain ⟨ns,h1,h2,h3⟩:=q
    exact .inr ⟨_,ns,rfl,h1,h2,h3⟩
  . exact q.elim
theorem c_maxA (hc:X.calm=true):CallR X (.builtin "max") (uMaxA X.K):=((c_max hc).or (c_maxL hc)).imp fun xs H Q q=>by
  unfold uMaxA at q
  split at q
  . exact .inl q
  . obtain ⟨ns,h1,h2,h3⟩:=q
    exact .inr ⟨_,ns,rfl,h1,h2,h3⟩
  . exact q.elim
end
end L2
namespace L2
open PySem PySem.Spec PyProof.Rows
section
variable {prog:Program} {w:World} {A:Around} {E:Value->Shared->Prop} {s:Shared}
theorem cat_tup0 {t b:Addr} {ws:List Value} {Q:Value->Shared->Prop} (ht:IsTup s.heap t #[]) (hb:IsTup s.heap b ws.toArray) (h:Q (.ref b) s):wpAny (model prog w) A (binaryOp .Add (.ref t) (.ref b)) Q E s:=by
  obtain ⟨⟨c1,d1,x1,l1⟩,g1,k1,n1,z1⟩:=id ht
  obtain ⟨⟨c2,d2,x2,l2⟩,g2,k2,n2,z2⟩:=id hb
  simp only at k1 z1 k2 z2
  subst k1 z1 k2 z2
  exact concat_meets ⟨_,g1,rfl⟩ ⟨_,g2,rfl⟩ PySem.noFill_tuple_add PySem.seq_tuple_add PySem.F.slot_tuple_add PySem.F.entry_tuple_add (PySem.F.args_tuple_add_2 _ _) (tuple_addW0 t b #[] ws.toArray n1 n2 d1 d2 l1 l2 rfl) ⟨g1,g2,h⟩
end
section
variable {X:Cx}
noncomputable def rCatU (K:PySem.W.Frag):R2:=fun x y H Q=>∃ a b xs ys,x=.ref a/\y=.ref b/\SqT K H a xs/\SqT K H b ys/\xs.length + ys.length<=sizeLine/\∀ p H',Same H H'->SqT K H' p (xs++ys)->Q (.ref p) H'
theorem op_catU:OpR X (binaryOp .Add) (rCatU X.K):=by
  intro pins s σ H x y v u Q I rx ry h
  obtain ⟨a,b,xs,ys,rfl,rfl,ha,hb,hz,q⟩:=h
  by_cases hx:xs=[]
  . subst hx
    cases rx
    cases ry
    obtain ⟨its,r1,p1,_⟩:=I.tuple ha
    obtain ⟨its2,r2,p2,_⟩:=I.tuple hb
    cases r1
    exact cat_tup0 p1 p2 ⟨.ref b,H,I,rfl,q b H (Same.refl _) hb⟩
  . refine op_catT pins s σ H (.ref a) (.ref b) v u Q I rx ry ⟨a,b,xs,ys,rfl,rfl,ha,hb,hx,hz,fun e=>?_,fun _ p hp=>?_⟩
    . subst e
      exact q a H (Same.refl _) (by rw [List.append_nil];exact ha)
    . exact q p _ (Same.upd_new hp) (SqT.of upd_same)
noncomputable def rSlU (K:PySem.W.Frag):V->Option Int->Option Int->Hp->VK->Prop:=fun x lo hi H Q=>∃ a xs,x=.ref a/\SqT K H a xs/\∀ p H',Same H H'->SqT K H' p (cutV xs lo hi)->Q (.ref p) H'
end
section
variable {prog:Program} {w:World} {A:Around} {E:Value->Shared->Prop} {s:Shared}
theorem cut_whole {t sl:Addr} {items:Array Value} {vl vu:Value} {lo hi:Option Int} {Q:Value->Shared->Prop} (ht:IsTup s.heap t items) (hs:s.heap.IsSliceOf sl vl vu .none) (pl:IsPart vl lo) (pu:IsPart vu hi)
    (h1:HT.sIx items.size 0 lo=0) (h2:HT.sIx items.size items.size hi=items.size) (h:Q (.ref t) s):wpAny (model prog w) A (getItem (.ref t) (.ref sl)) Q E s:=by
  obtain ⟨ob,g1,g2,g3⟩:=id hs
  have hT:s.TypeIs (.ref sl) "slice":=⟨ob,g1,g2⟩
  unfold getItem
  try with_reducible refine wpAny_holding ?_
  first | refine wpAny_bind (wpAny_pure ?_) | skip
  refine wpAny_bind (wpAny_sequenceKey ht.typeIs (by decide) ?_)
  have key:wpAny (model prog w) A.in1 (Builtin.«tuple.__getitem__» ⟨[.ref t,.ref sl],[]⟩) (fun fin s'=>∃ v,fin=.done (.ret v)/\Q v s') E s:=by
    show wpAny _ _ (Builtin.Tuple.tupleItemsOf (.ref t) >>= _) _ _ s
    refine wpAny_bind (PyProof.Rows.tupleItemsOf_ ht (wpAny_bind (wpAny_typeOf hT ?_)))
    rw [if_pos (by decide)]
    refine wpAny_bind (HT.sliceApplied_gen hs pl pu ?_)
    rw [h1,h2]
    show wpAny _ _ (if ((((0:Nat):Int) == 0 && (1:Int) == 1 && (items.size - 0) == items.size))=true then _ else _) _ _ s
    rw [if_pos (by simp)]
    refine wpAny_bind (wpAny_bind (wpAny_typeOf ht.typeIs (wpAny_pure ?_)))
    rw [if_pos (by decide)]
    exact wpAny_bind (wpAny_rule (wpAny_pure ⟨_,rfl,h⟩))
  exact wpAny_bind (wpAny_callSpecial?_slot (name:=Str.ofString "__getitem__") ht.typeIs PyProof.Rows.slot_tuple_getitem (wpAny_call_entry PyProof.Rows.slot_tuple_getitem ht.typeIs PyProof.Rows.entry_tuple_getitem (wpAny_mono key (fun fin s' ⟨v,e,q⟩=>⟨v,e,wpAny_pure q⟩) fun _ _ z=>z) (PyProof.Rows.args_tuple_getitem _ _)))
end
section
variable {X:Cx}
theorem cutV_whole {xs:List V} {lo hi:Option Int} (h1:HT.sIx xs.length 0 lo=0) (h2:HT.sIx xs.length xs.length hi=xs.length):cutV xs lo hi=xs:=by
  unfold cutV
  rw [h1,h2,List.drop_zero,Nat.sub_zero,List.take_length]
theorem sl_tupU:SlR X (rSlU X.K):=by
  intro pins s σ H x v vl vu lo hi sl Q I rx hs pl pu h
  obtain ⟨a,xs,rfl,hx,q⟩:=h
  by_cases hw:HT.sIx xs.length 0 lo=0/\HT.sIx xs.length xs.length hi=xs.length
  . cases rx
    obtain ⟨its,r,ht,hz⟩:=I.tuple hx
    have hlen:its.toArray.size=xs.length:=by rw [List.size_toArray];exact r.length.symm
    refine ⟨"tuple",_,PyProof.Rows.slot_tuple_getitem.lookup,ht.typeIs,cut_whole ht hs pl pu (by rw [hlen];exact hw.1) (by rw [hlen];exact hw.2) ⟨.ref a,H,I,rfl,q a H (Same.refl _) ?_⟩⟩
    rw [cutV_whole hw.1 hw.2]
    exact hx
  . exact sl_tup pins s σ H (.ref a) v vl vu lo hi sl Q I rx hs pl pu ⟨a,xs,rfl,hx,hw,fun p hp=>q p _ (Same.upd_new hp) (SqT.of upd_same)⟩
noncomputable def uAddW (K:PySem.W.Frag):R2:=fun x y H Q=>match x,y with
  | .int i,.int j=>Q (.int (i + j)) H
  | .str i,.str j=>i.length + j.length<=sizeLine/\Q (.str (i++j)) H
  | .ref a,.ref b=>(∃ xs zs,SqL K H a xs/\SqL K H b zs/\xs.length + zs.length<=sizeLine/\∀ p,H p=none->Q (.ref p) (upd H p (.lst (xs++zs)))) \/
      (∃ xs zs,SqT K H a xs/\SqT K H b zs/\xs.length + zs.length<=sizeLine/\∀ p H',Same H H'->SqT K H' p (xs++zs)->Q (.ref p) H')
  | _,_=>False
theorem o_addW:OpR X (binaryOp .Add) (uAddW X.K):=((op_add.or op_add_str).or (op_catL.or op_catU)).imp fun x y H Q q=>by
  unfold uAddW at q
  split at q
  . exact .inl (.inl ⟨_,_,rfl,rfl,q⟩)
  . exact .inl (.inr ⟨_,_,rfl,rfl,q.1,q.2⟩)
  . rcases q with ⟨xs,zs,h1,h2,h3,h4⟩ | ⟨xs,zs,h1,h2,h3,h4⟩
    . exact .inr (.inl ⟨_,_,xs,zs,rfl,rfl,h1,h2,h3,h4⟩)
    . exact .inr (.inr ⟨_,_,xs,zs,rfl,rfl,h1,h2,h3,h4⟩)
  . exact q.elim
noncomputable def uSlW (K:PySem.W.Frag):V->Option Int->Option Int->Hp->VK->Prop:=fun x lo hi H Q=>match x with
  | .str z=>z.length<=sizeLine/\Q (.str (cutS z lo hi)) H
  | .ref a=>(∃ xs,SqL K H a xs/\∀ p,H p=none->Q (.ref p) (upd H p (.lst (cutV xs lo hi))))\/(∃ xs,SqT K H a xs/\∀ p H',Same H H'->SqT K H' p (cutV xs lo hi)->Q (.ref p) H')
  | _=>False
theorem o_slW:SlR X (uSlW X.K):=by
  intro pins s σ H x v vl vu lo hi sl Q I rx hs pl pu q
  unfold uSlW at q
  split at q
  . exact sl_str pins s σ H _ v vl vu lo hi sl Q I rx hs pl pu ⟨_,rfl,q.1,q.2⟩
  . rcases q with ⟨xs,h1,h2⟩ | ⟨xs,h1,h2⟩
    . exact sl_list pins s σ H _ v vl vu lo hi sl Q I rx hs pl pu ⟨_,xs,rfl,h1,h2⟩
    . exact sl_tupU pins s σ H _ v vl vu lo hi sl Q I rx hs pl pu ⟨_,xs,rfl,h1,h2⟩
  . exact q.elim
end
section
open PySem.AutoSeq1 (wpAny_loadPart')
variable {prog:Program} {w:World} {A:Around} {E:Value->Shared->Prop} {s:Shared}
theorem enum_new_tup (t:Addr) (items:Array Value) (n:Nat) (dd:Option Addr) (sl:Array (Option Value)) :
    Meets (Builtin.«enumerate.__new__» ⟨[.type "enumerate",.ref t],[]⟩) (fun _ R s=>s.heap.get? t=some { cls:=.type "tuple",dict:=dd,data:=.seq items n,slots:=sl } /\
      R (.ok (.ret (.ref (s.heap.push { cls:=.type "tuple_iterator",data:=.fields #[.ref t,.int 0 0] }).objs.size)))
        { s with heap:=(s.heap.push { cls:=.type "tuple_iterator",data:=.fields #[.ref t,.int 0 0] }).push { cls:=.type "enumerate",data:=.fields #[.none,.bool false,.ref s.heap.objs.size,rawInt 0,.none,.none] } }) :=
  .of_wp fun prog w A R s hq0=>by
    obtain ⟨g1,g2⟩:=hq0
    obtain ⟨hp,ge,dr,tk,os⟩:=s
    have es:=sub_enumerate
    have hL:Heap.IsTuple (Shared.heap ⟨hp,ge,dr,tk,os⟩) t items:=⟨_,g1,rfl,n,rfl⟩
    wp_walk using wpAny_loadPart' g1
    refine wpAny_stack_any fun st=>wpAny_pure ?_
    split
    . rename_i cc _ _ _ _ _
      cases (cc == Value.type "enumerate") <;> (wp_walk using wpAny_loadPart' g1,wpAny_pyIter_tuple hL;exact ⟨_,rfl,g2⟩)
    . wp_walk using wpAny_loadPart' g1,wpAny_pyIter_tuple hL
      exact ⟨_,rfl,g2⟩
end
section
variable {prog:Program} {w:World} {A:Around} {E:Value->Shared->Prop} {s:Shared}
theorem call_enum_tup {t:Addr} {items:Array Value} {Q:Value->Shared->Prop} (ht:s.heap.IsTuple t items)
    (h:∀ h',IsEnum h' (s.heap.objs.size + 1) s.heap.objs.size 0 .none->h'.IsTupleIter s.heap.objs.size t 0->(∀ b o,s.heap.get? b=some o->h'.get? b=some o)->Q (.ref (s.heap.objs.size + 1)) { s with heap:=h' }) :
    wpAny (model prog w) A (call (.type "enumerate") [.ref t]) Q E s:=by
  obtain ⟨⟨c,dd,dt,sl⟩,g1,k1,n,k2⟩:=ht
  simp only at k1 k2
  subst k1 k2
  have e1:(s.heap.push { cls:=.type "tuple_iterator",data:=.fields #[.ref t,.int 0 0] }).objs.size=s.heap.objs.size + 1:=Heap.size_push ..
  have e2:IsEnum ((s.heap.push { cls:=.type "tuple_iterator",data:=.fields #[.ref t,.int 0 0] }).push { cls:=.type "enumerate",data:=.fields #[.none,.bool false,.ref s.heap.objs.size,rawInt 0,.none,.none] }) (s.heap.objs.size + 1) s.heap.objs.size 0 .none:=by
    rw [<- e1]
    exact Heap.get?_push_size _ rfl
  refine callType_new F.called_enumerate (by decide) (F.typeCall_enumerate_1 _) (F.newCall_enumerate_1 _) (fun ob=>F.args_object_init_2 ob _) F.entry_enumerate_new (enum_new_tup t items n dd sl) ⟨g1,?_⟩
  show _/\_
  rw [e1]
  exact ⟨⟨_,e2,rfl⟩,h _ e2 ⟨_,Heap.get?_push_of_some _ (Heap.get?_push_size _ rfl),rfl,rfl⟩ fun b o z=>Heap.get?_push_of_some _ (Heap.get?_push_of_some _ z)⟩
theorem next_tup_item {it t:Addr} {i:Nat} {items:Array Value} {x:Value} {Q:Value->Shared->Prop} (st:s.heap.IsTupleIter it t i) (ht:s.heap.IsTuple t items) (hx:items[i]? = some x)
    (hQ:∀ h',h'.IsTupleIter it t (i + 1)->Heap.SameBut it s.heap h'->Q x { s with heap:=h' }):wpAny (model prog w) A (Builtin.SmallTypes.nextOf (.ref it)) Q E s:=by
  obtain ⟨ob,g1,g2,g3⟩:=id st
  obtain ⟨ol,k1,k2,n,k3⟩:=ht
  have no:¬ ((Value.ref t == Value.none)=true):=Bool.false_ne_true
  unfold Builtin.SmallTypes.nextOf
  refine wpAny_bind (wpAny_callSpecial?_slot (name:=Str.ofString "__next__") st.typeIs F.slot_tuple_iterator_next (wpAny_call_entry F.slot_tuple_iterator_next st.typeIs F.entry_tuple_iterator_next ?_ (F.args_tuple_iterator_next_1 _)))
  refine (show wpAny _ _ (field (.ref it) 0 >>= _) _ _ s from wpAny_bind (wpAny_field g1 g3 (x:=.ref t) rfl ?_))
  refine (show wpAny _ _ (if (Value.ref t == Value.none)=true then _ else _) _ _ s from ?_)
  rw [if_neg no]
  refine (show wpAny _ _ (field (.ref it) 1 >>= _) _ _ s from wpAny_bind (wpAny_field g1 g3 (x:=.int i 0) rfl ?_))
  refine (show wpAny _ _ (seqItems? (.ref t) >>= _) _ _ s from wpAny_bind (wpAny_seqItems k1 k3 ?_))
  simp only [hx,Int.toNat_natCast]
  refine wpAny_bind (wpAny_setField g1 g3 (by simp) (wpAny_pure ⟨x,rfl,wpAny_pure (hQ _ ⟨_,Heap.get?_update_self _ g1 (Obj.isFreed_of_fields (Obj.data_mapFields g3 _)),(Obj.cls_mapFields ..).trans g2,?_⟩ (Heap.SameBut.update ..))⟩))
  rw [Obj.data_mapFields g3]
  simp [rawInt]
theorem enum_item {e it:Addr} {i:Nat} {x old:Value} {Q:Option Value->Shared->Prop} {T1:Heap->Prop} (he:IsEnum s.heap e it i old) (hne:e≠it)
    (hk:∀ h h',T1 h->(∀ o,h.get? it=some o->h'.get? it=some o)->T1 h')
    (hn:∀ (A':Around) (E':Value->Shared->Prop) (Q':Value->Shared->Prop),(∀ h',T1 h'->Heap.SameBut it s.heap h'->Q' x { s with heap:=h' })->wpAny (model prog w) A' (Builtin.SmallTypes.nextOf (.ref it)) Q' E' s)
    (hQ : ∀ h',IsEnumOut h' e it ((i:Int) + 1) x s.heap.objs.size->T1 h'->h'.get? s.heap.objs.size=some { cls:=.type "tuple",data:=.seq #[.int i s.toks,x] } ->
      (∀ b o,b≠e->b≠it->s.heap.get? b=some o->h'.get? b=some o)->Q (some (.ref s.heap.objs.size)) { s with heap:=h',toks:=s.toks + 1 }) :
    wpAny (model prog w) A (pyNext (.ref e)) Q E s:=by
  have hT:s.TypeIs (.ref e) "enumerate":=⟨_,he,rfl⟩
  have lt:e < s.heap.objs.size:=Heap.lt_size he
  have core:wpAny (model prog w) A.in1 (Builtin.«enumerate.__next__» ⟨[.ref e],[]⟩) (fun fin s'=>∃ v,fin=.done (.ret v)/\wpAny (model prog w) A (pure (some v)) Q E s') (fun _ _=>False) s:=by
    obtain ⟨hp,ge,dr,tk,os⟩:=s
    refine (show wpAny _ _ (field (.ref e) 2 >>= _) _ _ _ from wpAny_bind (wpAny_field he rfl (x:=.ref it) rfl (wpAny_bind (hn _ _ _ fun h1 t1 b1=>?_))))
    have b1:Heap.SameBut it hp h1:=b1
    have g1:IsEnum h1 e it i old:=(b1.2 e hne).trans he
    refine (show wpAny _ _ (field (.ref e) 3 >>= _) _ _ ⟨h1,ge,dr,tk,os⟩ from wpAny_bind (wpAny_field g1 rfl (x:=rawInt i) rfl ?_))
    refine (show wpAny _ _ (field (.ref e) 4 >>= _) _ _ ⟨h1,ge,dr,tk,os⟩ from wpAny_bind (wpAny_field g1 rfl (x:=.none) rfl ?_))
    refine (show wpAny _ _ (mkInt i >>= _) _ _ ⟨h1,ge,dr,tk,os⟩ from wpAny_bind (wpAny_mkInt ?_))
    refine (show wpAny _ _ (setField (.ref e) 3 (rawInt ((i:Int) + 1)) >>= _) _ _ ⟨h1,ge,dr,tk + 1,os⟩ from wpAny_bind (wpAny_setField_rec g1 (by simp) fun h2 g2 b2=>?_))
    have b2:Heap.SameBut e h1 h2:=b2
    have g2:IsEnum h2 e it ((i:Int) + 1) old:=g2
    refine (show wpAny _ _ (setField (.ref e) 4 .none >>= _) _ _ ⟨h2,ge,dr,tk + 1,os⟩ from wpAny_bind (wpAny_setField_rec g2 (by simp) fun h3 g3 b3=>?_))
    have b3:Heap.SameBut e h2 h3:=b3
    have g3:IsEnum h3 e it ((i:Int) + 1) old:=g3
    have z3:h3.objs.size=hp.objs.size:=by rw [b3.1,b2.1,b1.1]
    refine (show wpAny _ _ (newTuple [.int i tk,x] >>= _) _ _ ⟨h3,ge,dr,tk + 1,os⟩ from wpAny_bind (wpAny_newTuple ?_))
    have g4:IsEnum (h3.push { cls:=.type "tuple",data:=.seq #[.int i tk,x] }) e it ((i:Int) + 1) old:=Heap.get?_push_of_some _ g3
    have u4:(h3.push { cls:=.type "tuple",data:=.seq #[.int i tk,x] }).get? hp.objs.size=some { cls:=.type "tuple",data:=.seq #[.int i tk,x] }:=by
      rw [<- z3]
      exact Heap.get?_push_size _ rfl
    have v4:∀ b o,b≠e->b≠it->hp.get? b=some o->(h3.push { cls:=.type "tuple",data:=.seq #[.int i tk,x] }).get? b=some o:=fun b o q1 q2 q3=>Heap.get?_push_of_some _ (b3.extBut b o q1 (b2.extBut b o q1 (b1.extBut b o q2 q3)))
    have w4:T1 (h3.push { cls:=.type "tuple",data:=.seq #[.int i tk,x] }):=hk h1 _ t1 fun o q=>Heap.get?_push_of_some _ (b3.extBut it o (Ne.symm hne) (b2.extBut it o (Ne.symm hne) q))
    generalize h3.push { cls:=.type "tuple",data:=.seq #[.int i tk,x] }=h4 at g4 u4 v4 w4 ⊢
    rw [z3]
    refine (show wpAny _ _ (Builtin.SmallTypes.ownedTupleIsFree (.ref e) >>= _) _ _ ⟨h4,ge,dr,tk + 1,os⟩ from wpAny_bind ?_)
    unfold Builtin.SmallTypes.ownedTupleIsFree
    refine wpAny_bind (wpAny_field g4 rfl (x:=.none) rfl (wpAny_pure ?_))
    simp only [if_true]
    refine wpAny_bind (wpAny_rule (wpAny_bind (wpAny_field g4 rfl (x:=old) rfl (wpAny_bind (wpAny_setField_rec g4 (by simp) fun h5 g5 b5=>?_)))))
    have b5:Heap.SameBut e h4 h5:=b5
    have g5:IsEnum h5 e it ((i:Int) + 1) x:=g5
    refine (show wpAny _ _ (Builtin.SmallTypes.ownedTupleHandOut (.ref e) (.ref hp.objs.size) >>= _) _ _ ⟨h5,ge,dr,tk + 1,os⟩ from wpAny_bind ?_)
    unfold Builtin.SmallTypes.ownedTupleHandOut
    refine wpAny_bind (wpAny_setField_rec g5 (by simp) fun h6 g6 b6=>?_)
    have b6:Heap.SameBut e h5 h6:=b6
    have g6:IsEnumOut h6 e it ((i:Int) + 1) x hp.objs.size:=g6
    refine wpAny_setField_rec g6 (by simp) fun h7 g7 b7=>?_
    have b7:Heap.SameBut e h6 h7:=b7
    have g7:IsEnumOut h7 e it ((i:Int) + 1) x hp.objs.size:=g7
    have on:∀ b o,b≠e->h4.get? b=some o->h7.get? b=some o:=fun b o q1 q2=>b7.extBut b o q1 (b6.extBut b o q1 (b5.extBut b o q1 q2))
    exact wpAny_bind (wpAny_letGo (wpAny_pure ⟨_,rfl,wpAny_pure (hQ h7 g7 (hk h4 h7 w4 fun o q=>on it o (Ne.symm hne) q) (on _ _ (Nat.ne_of_gt lt) u4) fun b o q1 q2 q3=>on b o q1 (v4 b o q1 q2 q3))⟩))
  unfold pyNext
  exact wpAny_bind (wpAny_attempt (wpAny_callSpecial?_slot (name:=Str.ofString "__next__") hT F.slot_enumerate_next (wpAny_call_entry F.slot_enumerate_next hT F.entry_enumerate_next (wpAny_mono core (fun fin s' ⟨v,q1,q2⟩=>⟨v,q1,q2⟩) fun _ _ z=>z.elim) (F.args_enumerate_next_1 _))))
end
section
variable {prog:Program} {w:World} {A:Around} {E:Value->Shared->Prop} {s:Shared}
theorem next_tup_end {it t:Addr} {i:Nat} {items:Array Value} {Q:Value->Shared->Prop} (hh:A.handled=none) (st:s.heap.IsTupleIter it t i) (ht:s.heap.IsTuple t items) (hx:items[i]? = none)
    (hE:∀ h' e,Heap.ExtBut it s.heap h'->(∃ o,h'.get? e=some o/\o.cls=.type "StopIteration")->E (.ref e) { s with heap:=h' }):wpAny (model prog w) A (Builtin.SmallTypes.nextOf (.ref it)) Q E s:=by
  obtain ⟨ob,g1,g2,g3⟩:=id st
  obtain ⟨ol,k1,k2,n,k3⟩:=ht
  have no:¬ ((Value.ref t == Value.none)=true):=Bool.false_ne_true
  unfold Builtin.SmallTypes.nextOf
  refine wpAny_bind (wpAny_callSpecial?_slot (name:=Str.ofString "__next__") st.typeIs F.slot_tuple_iterator_next (wpAny_call_entry F.slot_tuple_iterator_next st.typeIs F.entry_tuple_iterator_next ?_ (F.args_tuple_iterator_next_1 _)))
  refine (show wpAny _ _ (field (.ref it) 0 >>= _) _ _ s from wpAny_bind (wpAny_field g1 g3 (x:=.ref t) rfl ?_))
  refine (show wpAny _ _ (if (Value.ref t == Value.none)=true then _ else _) _ _ s from ?_)
  rw [if_neg no]
  refine (show wpAny _ _ (field (.ref it) 1 >>= _) _ _ s from wpAny_bind (wpAny_field g1 g3 (x:=.int i 0) rfl ?_))
  refine (show wpAny _ _ (seqItems? (.ref t) >>= _) _ _ s from wpAny_bind (wpAny_seqItems k1 k3 ?_))
  simp only [hx,Int.toNat_natCast]
  refine wpAny_bind (wpAny_rule (wpAny_bind (wpAny_setField g1 g3 (by simp) (show wpAny _ _ (newExc (.type "StopIteration") [] >>= _) _ _ _ from wpAny_bind ?_))))
  simp only [newTuple,newExc]
  refine wpAny_bind (wpAny_newObj_type (wpAny_bind (m:=firstArgMember _ _) (wpAny_of_eq (a:=Value.none) (by first | rfl | (simp only [firstArgMember];rfl)) (wpAny_newObj_type ?_ (by size_fits)))) (by size_fits))
  simp only [raiseNew]
  refine wpAny_bind (wpAny_handled ?_)
  first | rw [hh] | rw [show A.in1.handled=none from hh]
  exact wpAny_bind (wpAny_pure (wpAny_throw (hE _ _ (((Heap.SameBut.update ..).extBut.push _).push _) ⟨_,Heap.get?_push_size _ rfl,rfl⟩)))
theorem enum_end {e it:Addr} {i:Int} {old:Value} {Q:Option Value->Shared->Prop} (he:IsEnum s.heap e it i old)
    (hn:∀ (E':Value->Shared->Prop) (Q':Value->Shared->Prop),(∀ h' x,Heap.ExtBut it s.heap h'->(∃ o,h'.get? x=some o/\o.cls=.type "StopIteration")->E' (.ref x) { s with heap:=h' })->wpAny (model prog w) A.in1 (Builtin.SmallTypes.nextOf (.ref it)) Q' E' s)
    (hQ:∀ h',Heap.ExtBut it s.heap h'->Q none { s with heap:=h' }):wpAny (model prog w) A (pyNext (.ref e)) Q E s:=by
  have hT:s.TypeIs (.ref e) "enumerate":=⟨_,he,rfl⟩
  unfold pyNext
  refine wpAny_bind (wpAny_attempt (wpAny_callSpecial?_slot (name:=Str.ofString "__next__") hT F.slot_enumerate_next (wpAny_call_entry F.slot_enumerate_next hT F.entry_enumerate_next ?_ (F.args_enumerate_next_1 _))))
  refine (show wpAny _ _ (field (.ref e) 2 >>= _) _ _ _ from wpAny_bind (wpAny_field he rfl (x:=.ref it) rfl (wpAny_bind (hn _ _ fun h' x q1 q2=>?_))))
  obtain ⟨o,ho,hc⟩:=q2
  exact wpAny_bind (wpAny_isInstance (T:="StopIteration") (b:=true) ⟨o,ho,hc⟩ isSubtype_stop (wpAny_pure (hQ _ q1)))
end
noncomputable def Iteu (K:PySem.W.Frag) (a:Addr):It :=
  ⟨fun i H=>∃ xs x,SqT K H a xs/\xs[i]? = some x,
   fun i H v H'=>∃ T x,v=.ref T/\H T=none/\H'=upd H T (.tup [.int i,x])/\(∀ xs,SqT K H a xs->xs[i]? = some x),
   fun i H=>∃ xs,SqT K H a xs/\xs.length<=i⟩
theorem turn_enumT {P:Program} {w:World} {K:PySem.W.Frag} {elts:List Expr} {k0} {pos:Pos} {e it l:Addr} (hne:e≠it):Turn P w K (.Tuple elts k0 pos) (Iteu K l) [e,it] e
    (fun i h=>(∃ old,IsEnum h e it i old)/\h.IsTupleIter it l i) where
  mem:=by simp
  obj := fun i h st b hb=>by
    obtain ⟨⟨old,he⟩,h1⟩:=st
    simp only [List.mem_cons,List.not_mem_nil,or_false] at hb
    rcases hb with rfl | rfl
    . exact ⟨_,he,fun v q=>nomatch q⟩
    . obtain ⟨o,e,c,d⟩:=h1
      exact ⟨o,e,fun v q=>by rw [d] at q;cases q⟩
  keep:=fun i h h' st k=>by
    obtain ⟨⟨old,he⟩,h1⟩:=st
    exact ⟨⟨old,k e (by simp) _ he⟩,h1.at fun o q=>k it (by simp) o q⟩
  item := by
    intro X hP hw hK hc i pins s σ H E I hf st hg
    subst hP hw hK
    obtain ⟨⟨old,he⟩,h1⟩:=st
    obtain ⟨xs,x,hx,hxi⟩:=hg
    obtain ⟨its,rv,p,_⟩:=I.tuple hx
    obtain ⟨u,hu,ru⟩:=rv.get hxi
    refine enum_item (x:=u) (T1:=fun h=>h.IsTupleIter it l (i + 1)) he hne (fun h h' a b=>a.at b) (fun A' E' Q' q=>next_tup_item h1 p (by simpa using hu) q) fun h' a1 a2 a3 hk=>?_
    refine ⟨_,rfl,wpAny_letOwnedTupleGo_enum a1 fun h'' he' sb=>?_⟩
    have nz:s.heap.objs.size≠e:=Nat.ne_of_gt (Heap.lt_size he)
    have hT':IsTup h'' s.heap.objs.size [Value.int i s.toks,u].toArray:=⟨_,sb.extBut _ _ nz a3,rfl,_,rfl⟩
    have I':Inv X pins σ (upd H s.heap.objs.size (.tup [.int i,x])) { s with heap:=h'',toks:=s.toks + 1 }:=I.turnedL (ch:=[e,it]) hf (fun b o hb q=>by
      simp only [List.mem_cons,List.not_mem_nil,or_false,not_or] at hb
      exact sb.extBut _ _ hb.1 (hk b o hb.1 hb.2 q)) (Nat.le_refl _) ⟨by show 2<=sizeLine;decide,[Value.int i s.toks,u],.cons ⟨_,rfl⟩ (.cons ru .nil),hT'⟩
    have hn:H s.heap.objs.size=none:=I.hok.fresh (Nat.le_refl _)
    refine ⟨.ref s.heap.objs.size,_,I',rfl,⟨_,x,rfl,hn,rfl,fun zs hzs=>by rw [I.tuple_inj hzs hx];exact hxi⟩,⟨⟨_,by push_cast;exact he'⟩,a2.at fun o q=>sb.extBut it o (Ne.symm hne) q⟩,fun b hb=>?_⟩
    have hfb:=(hf b hb).1
    have : b≠s.heap.objs.size:=by
      obtain ⟨o,q⟩:∃ o,s.heap.get? b=some o:=by
        simp only [List.mem_cons,List.not_mem_nil,or_false] at hb
        rcases hb with rfl | rfl
        . exact ⟨_,he⟩
        . obtain ⟨o,q,_⟩:=h1;exact ⟨o,q⟩
      exact Nat.ne_of_lt (Heap.lt_size q)
    rw [upd_ne this];exact hfb
  done := by
    intro X hP hw hK hc i pins s σ H E I hf st hg
    subst hP hw hK
    obtain ⟨⟨old,he⟩,h1⟩:=st
    obtain ⟨xs,hx,hend⟩:=hg
    obtain ⟨its,rv,p,_⟩:=I.tuple hx
    have hl:=rv.length
    exact enum_end he (fun E' Q' q=>next_tup_end (show X.A.in1.handled=none from I.ok.hd hc) h1 p (by simp;lia) q) fun h' hk=>⟨rfl,I.turnedM (t':=s.toks) (ch:=[e,it]) hf (fun b o hb q=>by
      simp only [List.mem_cons,List.not_mem_nil,or_false,not_or] at hb
      exact hk b o hb.2 q)⟩
  self:=fun _ _ _ _ _ st h=>by
    obtain ⟨⟨old,he⟩,h1⟩:=st
    exact wpAny_pyIter_enum he h
noncomputable def uEnumT (K:PySem.W.Frag):List V->Hp->(It->Hp->Prop)->Prop:=fun vs H R=>match vs with
  | [.ref a]=>(∃ xs,SqT K H a xs)/\R (Iteu K a) H
  | _=>False
end L2
namespace L2
open PySem PySem.Spec PyProof.Rows
theorem noLen_rev:typeLookup (.type "list_reverseiterator") "__len__"=pure none:=by rw [typeLookup_type,builtinLookup_eq_fast];kernel_rfl
theorem hint_rev:typeLookup (.type "list_reverseiterator") "__length_hint__"=pure (some (.builtin "list_reverseiterator.__length_hint__")):=by rw [typeLookup_type,builtinLookup_eq_fast];kernel_rfl
theorem items_rev {items acc:Array Value} (h:ItemsOf (fun i v=>items[items.size - 1 - i]? = some v) acc items.size):acc.toList=items.toList.reverse:=by
  obtain ⟨h1,h2⟩:=h
  apply List.ext_getElem?
  intro j
  by_cases hj:j < items.size
  . have e:=h2 j (acc[j]'(by lia)) (Array.getElem?_eq_getElem (by lia))
    rw [List.getElem?_reverse (by simpa using hj),Array.getElem?_toList,Array.getElem?_toList,Array.length_toList,e]
    exact Array.getElem?_eq_getElem (by lia)
  . rw [List.getElem?_eq_none (by rw [Array.length_toList];lia),List.getElem?_eq_none (by rw [List.length_reverse,Array.length_toList];lia)]
section
variable {prog:Program} {w:World} {A:Around} {E:Value->Shared->Prop} {s:Shared}
theorem collect_rev {I l:Addr} {items:Array Value} {Q:List Value->Shared->Prop} (hh:A.handled=none) (hne:l≠I) (st:s.heap.IsRevIter I l ((items.size:Int) - 1)) (hl:s.heap.IsList l items) (hn:items.size<=sizeLine)
    (hQ:∀ s',Moved [I] (fun a b=>b=a) s s'->Q items.toList.reverse s'):wpAny (model prog w) A (collect (.ref I)) Q E s:=by
  have W:=(Walks.listRev (prog:=prog) (w:=w) (A:=A.in1) hh I l hne items).toS
  have hlt:∀ b∈[I,l],b < s.heap.objs.size:=fun b hb=>by
    simp only [List.mem_cons,List.not_mem_nil,or_false] at hb
    rcases hb with rfl | rfl
    . obtain ⟨o,e,_⟩:=st;exact Heap.lt_size e
    . obtain ⟨o,e,_⟩:=hl;exact Heap.lt_size e
  have nf:s.heap.objs.size ∉ [I,l]:=fun z=>Nat.lt_irrefl _ (hlt _ z)
  have nI:s.heap.objs.size≠I:=fun z=>nf (by rw [z];simp)
  have st0:(0<=items.size/\s.heap.IsRevIter I l ((items.size:Int) - 1 - ((0:Nat):Int))/\s.heap.IsList l items):=⟨Nat.zero_le _,by rw [show ((0:Nat):Int)=0 from rfl,Int.sub_zero];exact st,hl⟩
  unfold collect
  refine wpAny_bind (wpAny_runValue (codeAny_builtin F.entry_proto_collect ?_))
  rw [Around.under_plainId F.plain_proto_collect _]
  refine (show wpAny _ A.in1 (newList [] >>= fun z=>again (.builtin "list.__iadd__" ⟨[z,.ref I],[]⟩)) _ _ s from wpAny_bind (wpAny_newObj_type (wpAny_pure ⟨plainId_quiet F.plain_list_iadd _,codeAny_builtin F.entry_list_iadd ?_⟩)))
  rw [Around.under_plainId F.plain_list_iadd _]
  have st1:=W.frame 0 s (s.heap.push { cls:=.type "list",data:=.seq ([]:List Value).toArray }) s.toks st0 (Nat.le_refl _) fun b _ o e=>Heap.get?_push_of_some _ e
  have new1:(s.heap.push { cls:=.type "list",data:=.seq ([]:List Value).toArray }).get? s.heap.objs.size=some { cls:=.type "list",data:=.seq ([]:List Value).toArray }:=Heap.get?_push_size _ rfl
  have apart:Builtin.List.listSameRef (.ref s.heap.objs.size) (.ref I)=false:=by simp [Builtin.List.listSameRef,nI]
  have ty:({ s with heap:=s.heap.push { cls:=.type "list",data:=.seq ([]:List Value).toArray } }:Shared).TypeIs (.ref I) "list_reverseiterator":=st1.2.1.typeIs
  show wpAny _ A.in1 (Builtin.List.listExtendWith (.ref s.heap.objs.size) (.ref I) (.ref s.heap.objs.size)) _ _ _
  unfold Builtin.List.listExtendWith
  refine wpAny_bind (wpAny_typeOf ty ?_)
  rw [if_neg (by rw [apart];decide)]
  refine wpAny_bind (W.self 0 _ _ _ st1 (wpAny_bind (wpAny_holding ?_)))
  unfold Builtin.List.listLengthHint
  refine wpAny_bind (wpAny_specialOf ty noLen_rev ?_)
  refine (show wpAny _ A.in1 (specialOf (Value.ref I) (Str.ofString "__length_hint__") >>= _) _ _ _ from wpAny_bind (wpAny_specialOf ty hint_rev ?_))
  generalize hid:("list_reverseiterator.__length_hint__":String)=id0
  (fail_if_success (clear hid id0));wp_delta
  rw [show splitId id0=some ("list_reverseiterator","__length_hint__") from by subst hid;decide +kernel]
  subst hid
  refine wpAny_bind (wpAny_isInstance (b:=true) ty (by rw [isSubtype_type];kernel_rfl) (wpAny_pure ?_))
  rw [if_neg (by decide)]
  refine wpAny_pure ⟨plainId_quiet F.plain_extend_loop _,codeAny_extend_loopS W hn _ nf _ items.size 0 _ _ _ rfl (Nat.zero_le _) st1 new1 (ItemsOf.nil _) fun s' acc c' mv here got=>?_⟩
  refine (show wpAny _ A (load s.heap.objs.size >>= _) _ _ s' from wpAny_bind (wpAny_load here (wpAny_pure ?_)))
  have e:=items_rev got
  show Q acc.toList s'
  rw [e]
  exact hQ s' (Moved.drop_new (o:={ cls:=.type "list",data:=.seq ([]:List Value).toArray }) (tk:=s.toks) mv (Nat.le_refl _))
end
section
open PySem.AutoSeq1 (wpAny_loadPart')
theorem tup_new_rev (I l:Addr) (items:Array Value) (hne:l≠I) (hn:items.size<=sizeLine) :
    Meets (Builtin.«tuple.__new__» ⟨[.type "tuple",.ref I],[]⟩) (fun A R s=>A.handled=none/\s.heap.IsRevIter I l ((items.size:Int) - 1)/\s.heap.IsList l items /\
      ∀ s':Shared,Moved [I] (fun a b=>b=a) s s'->R (.ok (.ret (.ref s'.heap.objs.size))) { s' with heap:=s'.heap.push { cls:=.type "tuple",data:=.seq items.reverse } }) :=
  .of_wp fun prog w A R s hq0=>by
    obtain ⟨hh,g1,g2,g3⟩:=hq0
    obtain ⟨hp,ge,dr,tk,os⟩:=s
    have e1:=sub_tuple_self
    have e2:=init_tuple_lookup
    have e3:=madeHere_tuple
    have ty:Shared.TypeIs ⟨hp,ge,dr,tk,os⟩ (.ref I) "list_reverseiterator":=g1.typeIs
    wp_walk using wpAny_typeOf ty,collect_rev (A:=A.in1) (show A.in1.handled=none from hh) hne g1 g2 hn
    intro s' mv
    refine (show wpAny _ _ (Builtin.Tuple.tupleExact items.toList.reverse.toArray >>= fun v=>ret v) _ _ _ from ?_)
    unfold Builtin.Tuple.tupleExact
    have e4:items.toList.reverse.toArray=items.reverse:=by apply Array.toList_inj.mp;rw [Array.toList_reverse]
    rw [e4]
    exact wpAny_bind (wpAny_newObj_type (wpAny_pure ⟨_,rfl,g3 s' mv⟩) (by show items.reverse.size<=sizeLine;simpa using hn))
end
section
variable {prog:Program} {w:World} {A:Around} {E:Value->Shared->Prop} {s:Shared}
theorem call_tup_rev {I l:Addr} {items:Array Value} {Q:Value->Shared->Prop} (hh:A.handled=none) (hne:l≠I) (st:s.heap.IsRevIter I l ((items.size:Int) - 1)) (hl:s.heap.IsList l items) (hn:items.size<=sizeLine)
    (hQ:∀ s':Shared,Moved [I] (fun a b=>b=a) s s'->Q (.ref s'.heap.objs.size) { s' with heap:=s'.heap.push { cls:=.type "tuple",data:=.seq items.reverse } }):wpAny (model prog w) A (call (.type "tuple") [.ref I]) Q E s :=
  callType_new F.called_tuple (by decide) (F.typeCall_tuple_1 _) (F.newCall_tuple_1 _) (fun ob=>F.args_object_init_2 ob _) F.entry_tuple_new (tup_new_rev I l items hne hn) ⟨hh,st,hl,fun s' mv=>⟨⟨_,Heap.get?_push_size _ rfl,rfl⟩,hQ s' mv⟩⟩
end
theorem boot_reversed:bootBuiltins "reversed"=some (.type "reversed"):=by decide +kernel
theorem boot_tuple:bootBuiltins "tuple"=some (.type "tuple"):=by decide +kernel
noncomputable def tTupRev (K:PySem.W.Frag) (te:TE):TE:=fun σ H Q=>te σ H fun x H1=>∃ a xs,x=.ref a/\SqL K H1 a xs/\∀ p,H1 p=none->Q (.ref p) (upd H1 p (.tup xs.reverse))
theorem shared_moved {s s':Shared} {wr:List Addr} (m:Moved wr (fun a b=>b=a) s s'):s'={ s with heap:=s'.heap,toks:=s'.toks }:=by
  have h1:=m.gens
  have h2:=m.drawn
  have h3:=m.os
  cases s'
  simp only at h1 h2 h3
  subst h1 h2 h3
  rfl
section
variable {X:Cx} {e:Expr} {te:TE} {p1 p2 pos1 pos2:Pos}
theorem rev_made (hc:X.calm=true) (hg2:Gl X "reversed") (hm2:X.mg "reversed"=none) (he:PE X e te) (hs2:starEach [e] X.env=[(false,eval e X.env)]) {pins:List (Addr × Obj)} {s:Shared} {σ:St} {H:Hp} {R:Addr->List V->Hp->Prop} {Q:Value->Shared->Prop} (I:Inv X pins σ H s)
    (h:te σ H fun x H1=>∃ a xs,x=.ref a/\SqL X.K H1 a xs/\R a xs H1)
    (k:∀ a xs H1 s1 its,Inv X pins σ H1 s1->SqL X.K H1 a xs->Vals xs its->s1.heap.IsList a its.toArray->xs.length<=sizeLine->R a xs H1->Q (.ref s1.heap.objs.size) { s1 with heap:=s1.heap.push (revObj a ((its.toArray.size:Int) - 1)) }) :
    wpAny (model X.prog X.w) X.A (eval (.Call (.Name "reversed" p2) [e] [] pos2) X.env) Q X.xe s:=by
  refine wpAny_Call_Name_kw (ld_blt I hg2 hm2 boot_reversed ?_ (by decide) (by decide))
  refine PyProof.Rows.callWith_type1 (T:="reversed") ?_ hs2 rfl
  rw [hs2]
  refine (show wpAny _ _ (spliced ((false,eval e X.env)::[])) _ _ s from Calls.spliced_cons (thn (he pins s σ H _ I h) fun v s1 ⟨x,H1,I1,r1,a,xs,e1,hx,q⟩=>Calls.spliced_nil ?_))
  subst e1
  cases r1
  obtain ⟨its,rv,pl,hz⟩:=I1.list hx
  exact call_reversed_list pl.isList (k a xs H1 s1 its I1 hx rv pl.isList hz q)
theorem pe_tupRev (hc:X.calm=true) (hg1:Gl X "tuple") (hm1:X.mg "tuple"=none) (hg2:Gl X "reversed") (hm2:X.mg "reversed"=none) (he:PE X e te) (hs2:starEach [e] X.env=[(false,eval e X.env)]:=by rfl)
    (hs1:starEach [.Call (.Name "reversed" p2) [e] [] pos2] X.env=[(false,eval (.Call (.Name "reversed" p2) [e] [] pos2) X.env)]:=by rfl):PE X (.Call (.Name "tuple" p1) [.Call (.Name "reversed" p2) [e] [] pos2] [] pos1) (tTupRev X.K te):=by
  intro pins s σ H Q I h
  refine wpAny_Call_Name_kw (ld_blt I hg1 hm1 boot_tuple ?_ (by decide) (by decide))
  refine PyProof.Rows.callWith_type1 (T:="tuple") ?_ hs1 rfl
  rw [hs1]
  refine (show wpAny _ _ (spliced ((false,eval (.Call (.Name "reversed" p2) [e] [] pos2) X.env)::[])) _ _ s from Calls.spliced_cons (rev_made hc hg2 hm2 he hs2 I h fun a xs H1 s1 its I1 hx rv pl hz q=>Calls.spliced_nil ?_))
  have la:a < s1.heap.objs.size:=by obtain ⟨o,e,_⟩:=pl;exact Heap.lt_size e
  have hlen:=rv.length
  refine call_tup_rev (I:=s1.heap.objs.size) (l:=a) (items:=its.toArray) (I1.ok.hd hc) (Nat.ne_of_lt la) ⟨_,Heap.get?_push_size _ rfl,rfl,rfl⟩ (pl.at fun o z=>Heap.get?_push_of_some _ z) (by rw [List.size_toArray,<- hlen];exact hz) fun s' mv=>?_
  have e':=shared_moved mv
  have kp:∀ b o,s1.heap.get? b=some o->s'.heap.get? b=some o:=fun b o z=>mv.heap b o (by simp;exact Nat.ne_of_lt (Heap.lt_size z)) (Heap.get?_push_of_some _ z)
  have I2:Inv X pins σ H1 { s1 with heap:=s'.heap,toks:=s'.toks }:=I1.kept (t':=s'.toks) kp
  have I3:Inv X pins σ (upd H1 s'.heap.objs.size (.tup xs.reverse)) { s1 with heap:=s'.heap.push { cls:=.type "tuple",data:=.seq its.toArray.reverse },toks:=s'.toks } :=
    I2.laid (t':=s'.toks) (fun b o z=>Heap.get?_push_of_some _ z) (Nat.le_refl _) ⟨by rw [List.length_reverse];exact hz,its.reverse,Vals.reverse rv,by
      have e9:its.toArray.reverse=its.reverse.toArray:=by apply Array.toList_inj.mp;simp
      rw [e9]
      exact IsTup.new _ _⟩
  rw [e']
  exact ⟨.ref s'.heap.objs.size,_,I3,rfl,q _ (I2.hok.fresh (Nat.le_refl _))⟩
end
end L2
namespace L2
open PySem PySem.Spec PyProof.Rows
inductive Wr where
  | nothing
  | bead (c:Str)
  | side (b:Bool) (f:Wr)
  | pair (f g:Wr)
  | many (k:Nat) (ps:List Wr)
noncomputable def mname:Nat->Str
  | 0=>"row"
  | 1=>"bag"
  | 2=>"choice"
  | _=>"ring"
noncomputable def sname:Bool->Str
  | true=>"right"
  | false=>"left"
noncomputable def Wr.name:Wr->Str
  | .nothing=>"nothing"
  | .bead _=>"bead"
  | .side b _=>sname b
  | .pair _ _=>"pair"
  | .many k _=>mname k
noncomputable def Wr.parts:Wr->List Wr
  | .nothing=>[]
  | .bead _=>[]
  | .side _ f=>[f]
  | .pair f g=>[f,g]
  | .many _ ps=>ps
mutual
noncomputable def Wr.tups:Wr->Nat
  | .nothing=>1
  | .bead _=>1
  | .side _ f=>1 + f.tups
  | .pair f g=>1 + (f.tups + (g.tups + 0))
  | .many _ ps=>1 + tupsL ps
noncomputable def tupsL:List Wr->Nat
  | []=>0
  | w::ws=>w.tups + tupsL ws
end
mutual
noncomputable def Wr.dep:Wr->Nat
  | .nothing=>1
  | .bead _=>1
  | .side _ f=>1 + f.dep
  | .pair f g=>1 + max f.dep g.dep
  | .many _ ps=>1 + depL ps
noncomputable def depL:List Wr->Nat
  | []=>0
  | w::ws=>max w.dep (depL ws)
end
mutual
noncomputable def Wr.ok:Wr->Bool
  | .nothing=>true
  | .bead c=>PyData.strOk c
  | .side _ f=>f.ok
  | .pair f g=>f.ok && g.ok
  | .many _ ps=>okL ps
noncomputable def okL:List Wr->Bool
  | []=>true
  | w::ws=>w.ok && okL ws
end
theorem Wr.tups_pos:∀ w:Wr,1<=w.tups
  | .nothing=>by simp [Wr.tups]
  | .bead _=>by simp [Wr.tups]
  | .side _ f=>by simp [Wr.tups]
  | .pair f g=>by simp [Wr.tups]
  | .many _ ps=>by simp [Wr.tups]
theorem Wr.dep_pos:∀ w:Wr,1<=w.dep
  | .nothing=>by simp [Wr.dep]
  | .bead _=>by simp [Wr.dep]
  | .side _ f=>by simp [Wr.dep]
  | .pair f g=>by simp [Wr.dep]
  | .many _ ps=>by simp [Wr.dep]
mutual
theorem Wr.dep_le:∀ w:Wr,w.dep<=w.tups
  | .nothing=>Nat.le_refl _
  | .bead _=>Nat.le_refl _
  | .side _ f=>by have:=f.dep_le;simp only [Wr.dep,Wr.tups];lia
  | .pair f g=>by have:=f.dep_le;have:=g.dep_le;simp only [Wr.dep,Wr.tups];lia
  | .many _ ps=>by have:=depL_le ps;simp only [Wr.dep,Wr.tups];lia
theorem depL_le:∀ ws:List Wr,depL ws<=tupsL ws
  | []=>Nat.le_refl _
  | w::ws=>by have:=w.dep_le;have:=depL_le ws;simp only [depL,tupsL];lia
end
theorem depL_mem:∀ {ws:List Wr} {w:Wr},w∈ws->w.dep<=depL ws
  | v :: ws,w,h=>by
    simp only [depL]
    rcases List.mem_cons.mp h with rfl | h
    . lia
    . have:=depL_mem h;lia
theorem tupsL_mem:∀ {ws:List Wr} {w:Wr},w∈ws->w.tups<=tupsL ws
  | v :: ws,w,h=>by
    simp only [tupsL]
    rcases List.mem_cons.mp h with rfl | h
    . lia
    . have:=tupsL_mem h;lia
theorem tupsL_app:∀ (ws us:List Wr),tupsL (ws++us)=tupsL ws + tupsL us
  | [],us=>by simp [tupsL]
  | w::ws,us=>by simp only [List.cons_append,tupsL,tupsL_app ws us];lia
theorem Wr.parts_dep (w:Wr):depL w.parts + 1<=w.dep:=by
  cases w with
  | nothing=>simp [Wr.parts,depL,Wr.dep]
  | bead c=>simp [Wr.parts,depL,Wr.dep]
  | side b f=>simp [Wr.parts,depL,Wr.dep];lia
  | pair f g=>simp [Wr.parts,depL,Wr.dep];lia
  | many k ps=>simp [Wr.parts,Wr.dep];lia
theorem Wr.parts_tups (w:Wr):tupsL w.parts + 1<=w.tups:=by
  cases w with
  | nothing=>simp [Wr.parts,tupsL,Wr.tups]
  | bead c=>simp [Wr.parts,tupsL,Wr.tups]
  | side b f=>simp [Wr.parts,tupsL,Wr.tups];lia
  | pair f g=>simp [Wr.parts,tupsL,Wr.tups];lia
  | many k ps=>simp [Wr.parts,Wr.tups];lia
noncomputable def SameT (K:PySem.W.Frag) (H H':Hp):Prop:=∀ a xs,SqT K H a xs->SqT K H' a xs
theorem SameT.trans {K:PySem.W.Frag} {H H1 H2:Hp} (h:SameT K H H1) (k:SameT K H1 H2):SameT K H H2:=fun a xs q=>k a xs (h a xs q)
theorem Same.tups {K:PySem.W.Frag} {H H':Hp} (e:Same H H'):SameT K H H':=fun _ _ h=>e.sq h
theorem SameT.lst {K:PySem.W.Frag} {H:Hp} {l:Addr} {ys zs:List V} (h:H l=some (.lst ys)):SameT K H (upd H l (.lst zs)):=fun a xs q=>by
  rcases q with (q | ⟨o,q⟩) | q
  . refine .inl (.inl ?_)
    rw [upd_ne (ne_of q h (by intro z;cases z))];exact q
  . refine .inl (.inr ⟨o,?_⟩)
    rw [upd_ne (ne_of q h (by intro z;cases z))];exact q
  . exact .inr q
mutual
noncomputable def Wr.toD:Wr->PyData
  | .nothing=>.tuple [.str "nothing"]
  | .bead c=>.tuple [.str "bead",.str c]
  | .side b f=>.tuple [.str (sname b),f.toD]
  | .pair f g=>.tuple [.str "pair",f.toD,g.toD]
  | .many k ps=>.tuple [.str (mname k),.tuple (toDL ps)]
noncomputable def toDL:List Wr->List PyData
  | []=>[]
  | w::ws=>w.toD::toDL ws
end
theorem ok_sname (b:Bool):PyData.strOk (sname b)=true:=by cases b <;> decide +kernel
theorem ok_mname:∀ k,PyData.strOk (mname k)=true
  | 0=>by decide +kernel
  | 1=>by decide +kernel
  | 2=>by decide +kernel
  | k + 3=>by show PyData.strOk "ring"=true;decide +kernel
mutual
theorem Wr.can:∀ w:Wr,w.ok=true->w.toD.canLay0=true
  | .nothing,_=>by simp only [Wr.toD,PyData.canLay0,PyData.canLayAll0];decide +kernel
  | .bead c,h=>by simp only [Wr.toD,PyData.canLay0,PyData.canLayAll0,Bool.and_true];simp only [Wr.ok] at h;rw [h];decide +kernel
  | .side b f,h=>by
    simp only [Wr.ok] at h
    simp only [Wr.toD,PyData.canLay0,PyData.canLayAll0,Bool.and_true,ok_sname,f.can h]
  | .pair f g,h=>by
    simp only [Wr.ok,Bool.and_eq_true] at h
    simp only [Wr.toD,PyData.canLay0,PyData.canLayAll0,Bool.and_true,f.can h.1,g.can h.2]
    decide +kernel
  | .many k ps,h=>by
    simp only [Wr.ok] at h
    simp only [Wr.toD,PyData.canLay0,PyData.canLayAll0,Bool.and_true,ok_mname,canL ps h]
theorem canL:∀ ws:List Wr,okL ws=true->PyData.canLayAll0 (toDL ws)=true
  | [],_=>by simp only [toDL,PyData.canLayAll0]
  | w :: ws,h=>by
    simp only [okL,Bool.and_eq_true] at h
    simp only [toDL,PyData.canLayAll0,w.can h.1,canL ws h.2,Bool.and_true]
end
mutual
theorem Wr.deep:∀ w:Wr,w.toD.depth<=2 * w.dep
  | .nothing=>by simp [Wr.toD,PyData.depth,PyData.depthAll,Wr.dep]
  | .bead c=>by simp [Wr.toD,PyData.depth,PyData.depthAll,Wr.dep]
  | .side b f=>by have:=f.deep;simp only [Wr.toD,PyData.depth,PyData.depthAll,Wr.dep];lia
  | .pair f g=>by have:=f.deep;have:=g.deep;simp only [Wr.toD,PyData.depth,PyData.depthAll,Wr.dep];lia
  | .many k ps=>by have:=deepL ps;simp only [Wr.toD,PyData.depth,PyData.depthAll,Wr.dep];lia
theorem deepL:∀ ws:List Wr,PyData.depthAll (toDL ws)<=2 * depL ws
  | []=>by simp [toDL,PyData.depthAll,depL]
  | w::ws=>by have:=w.deep;have:=deepL ws;simp only [toDL,PyData.depthAll,depL];lia
end
noncomputable def tn (ps:List Wr) (i:Nat):Int:=((ps.map Wr.tups).getD i 0:Nat)
theorem in_many (w:Wr):inV (.str w.name) [V.str "row",V.str "bag",V.str "choice",V.str "ring"]=match w with | .many _ _=>true | _=>false:=by
  cases w with
  | nothing=>decide +kernel
  | bead c=>show inV (.str "bead") _=false;decide +kernel
  | side b f =>
    cases b
    . show inV (.str "left") _=false;decide +kernel
    . show inV (.str "right") _=false;decide +kernel
  | pair f g=>show inV (.str "pair") _=false;decide +kernel
  | many k ps =>
    match k with
    | 0=>show inV (.str "row") _=true;decide +kernel
    | 1=>show inV (.str "bag") _=true;decide +kernel
    | 2=>show inV (.str "choice") _=true;decide +kernel
    | k + 3=>show inV (.str "ring") _=true;decide +kernel
theorem nb_side (b:Bool):¬ (decide (sname b=Str.ofString "bead")=true):=by
  cases b
  . show ¬ (decide ((Str.ofString "left")=(Str.ofString "bead"))=true);decide +kernel
  . show ¬ (decide ((Str.ofString "right")=(Str.ofString "bead"))=true);decide +kernel
theorem nb_many:∀ k,¬ (decide (mname k=Str.ofString "bead")=true)
  | 0=>by show ¬ (decide ((Str.ofString "row")=(Str.ofString "bead"))=true);decide +kernel
  | 1=>by show ¬ (decide ((Str.ofString "bag")=(Str.ofString "bead"))=true);decide +kernel
  | 2=>by show ¬ (decide ((Str.ofString "choice")=(Str.ofString "bead"))=true);decide +kernel
  | k + 3=>by show ¬ (decide ((Str.ofString "ring")=(Str.ofString "bead"))=true);decide +kernel
theorem nb_pair:¬ (decide (Str.ofString "pair"=Str.ofString "bead")=true):=by decide +kernel
theorem nb_nothing:¬ (decide (Str.ofString "nothing"=Str.ofString "bead")=true):=by decide +kernel
theorem k_bm0 {X:Cx} {o:Expr} {to:TE} {name:Str} {apos cpos:Pos} {T id:String} {r:V->List V->Hp->VK->Prop} (K:PySem.W.Frag) (hK:X.K=K) (pa:PlainAttrs T) (slot:Slot T name id) (hty:typeOf (.builtin id)=pure (.type "method_descriptor")) (hm:MtR X id r) (ho:PE X o to)
    (hbase:attributeBase o name X.env (eval o X.env)=eval o X.env:=by rfl) (hline:(apos.endLine == cpos.line)=true:=by rfl):PE X (.Call (.Attribute o name apos) [] [] cpos) (tBM0 K T r to):=hK ▸ pe_bm0 pa slot hty hm ho hbase hline
theorem len_tups:∀ us:List Wr,us.length<=tupsL us
  | []=>Nat.le_refl _
  | u::us=>by have:=u.tups_pos;have:=len_tups us;simp only [List.length_cons,tupsL];lia
end L2
namespace L2
open PySem PySem.Spec PyProof.Rows
noncomputable def Itv (K:PySem.W.Frag) (a:Addr) (n:Nat):It :=
  ⟨fun i H=>i < n/\∃ xs x,SqL K H a xs/\xs[n - 1 - i]? = some x,fun i H x H'=>H'=H/\∀ xs,SqL K H a xs->xs[n - 1 - i]? = some x,fun i _=>i=n⟩
theorem turn_rev {P:Program} {w:World} {K:PySem.W.Frag} {tg:Expr} (a it:Addr) (n:Nat):Turn P w K tg (Itv K a n) [it] it (fun i h=>h.IsRevIter it a ((n:Int) - 1 - (i:Int))):=by
  refine ⟨by simp,fun i h st b hb=>?_,fun i h h' st k=>st.at fun o e=>k it (by simp) o e,?_,?_,fun _ _ _ _ _ st h=>wpAny_pyIter_revIter st h⟩
  . obtain rfl:b=it:=by simpa using hb
    obtain ⟨o,e1,_,d⟩:=st
    exact ⟨o,e1,fun v z=>by rw [d] at z;cases z⟩
  . intro X e1 e2 e3 hc i pins s σ H E I hf st ⟨hi,xs,x,hq,hx⟩
    subst e1 e2 e3
    obtain ⟨its,rv,pl,hz⟩:=I.list hq
    obtain ⟨u,hu,ru⟩:=rv.get hx
    obtain ⟨f0,f1,_,f3,f4,f5⟩:=hf it (by simp)
    have st2:s.heap.IsRevIter it a ((n - 1 - i:Nat):Int):=by
      have:((n - 1 - i:Nat):Int)=(n:Int) - 1 - (i:Int):=by lia
      rw [this];exact st
    refine wpAny_pyNext_rev_item st2 pl.isList (x:=u) (by simpa using hu) fun h' st' sb=>?_
    have J1:Inv X pins σ H { s with heap:=h' }:=I.turned (t':=s.toks) (fun b o hb z=>(sb.2 b hb).trans z) f0 f1 f3 f4 f5
    have st3:h'.IsRevIter it a ((n:Int) - 1 - ((i + 1:Nat):Int)):=by
      have:(n:Int) - 1 - ((i + 1:Nat):Int)=((n - 1 - i:Nat):Int) - 1:=by lia
      rw [this];exact st'
    obtain ⟨o,z1,z2,z3⟩:=id st'
    refine ⟨u,rfl,go_of (s:={ s with heap:=h' }) z1 z2 z3 (by decide) ⟨x,H,J1,ru,⟨rfl,fun ys hy=>?_⟩,st3,fun b hb=>(hf b hb).1⟩⟩
    rw [I.list_inj hy hq];exact hx
  . intro X e1 e2 e3 hc i pins s σ H E I hf st hi
    subst e1 e2 e3
    have hi:i=n:=hi
    subst hi
    obtain ⟨f0,f1,_,f3,f4,f5⟩:=hf it (by simp)
    have st2:s.heap.IsRevIter it a (-1):=by
      have:(-1:Int)=(i:Int) - 1 - (i:Int):=by lia
      rw [this];exact st
    exact wpAny_pyNext_rev_end (I.ok.hd hc) st2 fun h' eb=>⟨rfl,I.turned (t':=s.toks) (fun b o hb z=>eb b o hb z) f0 f1 f3 f4 f5⟩
section
variable {X:Cx} {tg e:Expr} {te:TE} {p2 pos2:Pos}
noncomputable def jRev (K:PySem.W.Frag) (te:TE):TI:=fun σ H R=>te σ H fun x H1=>∃ a xs,x=.ref a/\SqL K H1 a xs/\R (Itv K a xs.length) H1
theorem pj_rev (hc:X.calm=true) (hg:Gl X "reversed") (hm:X.mg "reversed"=none) (he:PE X e te) (hs:starEach [e] X.env=[(false,eval e X.env)]:=by rfl):PI X tg (.Call (.Name "reversed" p2) [e] [] pos2) (jRev X.K te):=by
  intro pins s σ H R I h
  refine rev_made hc hg hm he hs I h fun a xs H1 s1 its I1 hx rv pl hz q=>?_
  have hlen:its.toArray.size=xs.length:=by rw [List.size_toArray];exact rv.length.symm
  have hit:(s1.heap.push (revObj a ((its.toArray.size:Int) - 1))).IsRevIter s1.heap.objs.size a ((its.toArray.size:Int) - 1):=⟨_,Heap.get?_push_size _ rfl,rfl,rfl⟩
  refine wpAny_pyIter_revIter (s:={ s1 with heap:=s1.heap.push (revObj a ((its.toArray.size:Int) - 1)) }) hit ⟨_,[s1.heap.objs.size],_,_,H1,rfl,I1.kept (t':=s1.toks) fun b o z=>Heap.get?_push_of_some _ z,turn_rev a s1.heap.objs.size xs.length,?_,fun b hb=>?_,q⟩
  . show Heap.IsRevIter _ _ _ _
    rw [<- hlen,show ((its.toArray.size:Nat):Int) - 1 - ((0:Nat):Int)=(its.toArray.size:Int) - 1 from by lia]
    exact hit
  . obtain rfl:b=s1.heap.objs.size:=by simpa using hb
    exact I1.fpOk (Nat.le_refl _) I1.fresh
end
end L2
namespace L2
open PySem PySem.Spec PyProof.Rows
end L2
namespace L2
open PySem PySem.Spec PyProof.Rows
end L2
namespace L2
open PySem PySem.Spec PyProof.Rows PySem.MeetsSeq
open PySem.AutoSeq1 (wpAny_loadPart')
end L2
namespace L2
open PySem PySem.Spec PyProof.Rows
mutual
noncomputable def Wr.post:Wr->List Wr
  | .nothing=>[.nothing]
  | .bead c=>[.bead c]
  | .side b f=>f.post++[.side b f]
  | .pair f g=>f.post++(g.post++[.pair f g])
  | .many k ps=>postL ps++[.many k ps]
noncomputable def postL:List Wr->List Wr
  | []=>[]
  | w::ws=>w.post++postL ws
end
theorem Wr.nb (w:Wr) (h:∀ c,w≠.bead c):¬ (decide (w.name=Str.ofString "bead")=true):=by
  cases w with
  | bead c=>exact absurd rfl (h c)
  | nothing=>exact nb_nothing
  | side b f=>exact nb_side b
  | pair f g=>exact nb_pair
  | many k ps=>exact nb_many k
mutual
noncomputable def Wr.size:Wr->Nat
  | .nothing=>0
  | .bead _=>1
  | .side _ f=>f.size
  | .pair f g=>f.size + (g.size + 0)
  | .many _ ps=>sizeL ps
noncomputable def sizeL:List Wr->Nat
  | []=>0
  | w::ws=>w.size + sizeL ws
end
noncomputable def Wr.kidx:Wr->Nat
  | .nothing=>0
  | .bead _=>1
  | .side b _=>if b then 3 else 2
  | .pair _ _=>4
  | .many k _=>match k with | 0=>5 | 1=>6 | 2=>7 | _=>8
theorem ty_const {K:PySem.W.Frag} {a:Addr} {oc:Value} {od:Option Addr} {is:Array Value} {sn:Nat} {sl:Array (Option Value)} (o:K.lookup a=some ⟨oc,od,.seq is sn,sl⟩) (t:(oc == .type "tuple")=true/\(od == none)=true):∀ H,tyV K "tuple" (.ref a) H :=
  fun H=>.inr (.inl ⟨rfl,_,o,eq_of_beq t.1,eq_of_beq t.2⟩)
end L2
namespace L2
open PySem PySem.Spec PyProof.Rows
inductive U where
  | non | bl (b:Bool) | int (i:Int) | str (x:Str) | ty (n:String) | tup (xs:List U) | rol (xs:List U) | ref (a:Addr)
noncomputable def SqR (K:PySem.W.Frag) (H:Hp) (a:Addr) (xs:List V):Prop:=(∃ o,H a=some (.frz o (.lst xs))) \/
    ∃ (o:Obj) (its:Array Value) (n:Nat),K.lookup a=some o/\o.cls=.type "list"/\o.dict=none/\o.data=.seq its n/\its.size<=sizeLine/\Vals xs its.toList
theorem SqR.sq {K:PySem.W.Frag} {H:Hp} {a:Addr} {xs:List V} (h:SqR K H a xs):SqL K H a xs:=by
  rcases h with h | h
  . exact .inl (.inr h)
  . exact .inr h
structure Kp (K:PySem.W.Frag) (H H':Hp):Prop where
  t : SameT K H H'
  r : ∀ a xs,SqR K H a xs->SqR K H' a xs
  f : ∀ a o u,H a=some (.frz o u)->H' a=some (.frz o u)
theorem Kp.refl {K:PySem.W.Frag} (H:Hp):Kp K H H:=⟨fun _ _ h=>h,fun _ _ h=>h,fun _ _ _ h=>h⟩
theorem Kp.trans {K:PySem.W.Frag} {H H1 H2:Hp} (h:Kp K H H1) (k:Kp K H1 H2):Kp K H H2:=⟨h.t.trans k.t,fun a xs q=>k.r a xs (h.r a xs q),fun a o u q=>k.f a o u (h.f a o u q)⟩
theorem Same.kp {K:PySem.W.Frag} {H H':Hp} (e:Same H H'):Kp K H H':=⟨e.tups,fun a xs q=>by
  rcases q with ⟨o,q⟩ | q
  . exact .inl ⟨o,e _ _ q⟩
  . exact .inr q,fun a o u q=>e _ _ q⟩
theorem Kp.lst {K:PySem.W.Frag} {H:Hp} {l:Addr} {ys zs:List V} (h:H l=some (.lst ys)):Kp K H (upd H l (.lst zs)):=⟨SameT.lst h,fun a xs q=>by
  rcases q with ⟨o,q⟩ | q
  . exact .inl ⟨o,by rw [upd_ne (ne_of q h (by intro z;cases z))];exact q⟩
  . exact .inr q,fun a o u q=>by rw [upd_ne (ne_of q h (by intro z;cases z))];exact q⟩
mutual
inductive RU (K:PySem.W.Frag) (H:Hp):U->V->Prop
  | non:RU K H .non .non
  | bl (b:Bool):RU K H (.bl b) (.bl b)
  | int (i:Int):RU K H (.int i) (.int i)
  | str (x:Str):RU K H (.str x) (.str x)
  | ty (n:String):RU K H (.ty n) (.ty n)
  | ref (a:Addr):RU K H (.ref a) (.ref a)
  | tup {a:Addr} {vs:List V} {us:List U}:SqT K H a vs->RUs K H us vs->RU K H (.tup us) (.ref a)
  | rol {a:Addr} {vs:List V} {us:List U}:SqR K H a vs->RUs K H us vs->RU K H (.rol us) (.ref a)
inductive RUs (K:PySem.W.Frag) (H:Hp):List U->List V->Prop
  | nil:RUs K H [] []
  | cons {u:U} {v:V} {us:List U} {vs:List V}:RU K H u v->RUs K H us vs->RUs K H (u::us) (v::vs)
end
section
variable {K:PySem.W.Frag} {H H':Hp}
mutual
theorem RU.same (e:Kp K H H'):∀ {u:U} {v:V},RU K H u v->RU K H' u v
  | _,_,.non=>.non
  | _,_,.bl b=>.bl b
  | _,_,.int i=>.int i
  | _,_,.str x=>.str x
  | _,_,.ty n=>.ty n
  | _,_,.ref a=>.ref a
  | _,_,.tup h r=>.tup (e.t _ _ h) (RUs.same e r)
  | _,_,.rol h r=>.rol (e.r _ _ h) (RUs.same e r)
theorem RUs.same (e:Kp K H H'):∀ {us:List U} {vs:List V},RUs K H us vs->RUs K H' us vs
  | _,_,.nil=>.nil
  | _,_,.cons h r=>.cons (RU.same e h) (RUs.same e r)
end
theorem RUs.length:∀ {us:List U} {vs:List V},RUs K H us vs->us.length=vs.length
  | _,_,.nil=>rfl
  | _,_,.cons _ r=>by rw [List.length_cons,List.length_cons,r.length]
theorem RUs.app:∀ {us ws:List U} {vs xs:List V},RUs K H us vs->RUs K H ws xs->RUs K H (us++ws) (vs++xs)
  | _,_,_,_,.nil,s=>s
  | _,_,_,_,.cons h r,s=>.cons h (RUs.app r s)
theorem RUs.one {u:U} {v:V} (h:RU K H u v):RUs K H [u] [v]:=.cons h .nil
theorem RUs.get':∀ {us:List U} {vs:List V} {i:Nat} {u:U},RUs K H us vs->us[i]? = some u->∃ v,vs[i]? = some v/\RU K H u v
  | _,_,_,_,.nil,e=>by simp at e
  | _,_,0,_,.cons h _,e=>by simp at e;subst e;exact ⟨_,rfl,h⟩
  | _,_,i + 1,_,.cons _ r,e=>by simp at e;simpa using RUs.get' r e
theorem RUs.take:∀ {us:List U} {vs:List V} (n:Nat),RUs K H us vs->RUs K H (us.take n) (vs.take n)
  | _,_,0,_=>.nil
  | _,_,_ + 1,.nil=>.nil
  | _,_,n + 1,.cons r t=>.cons r (RUs.take n t)
theorem RUs.drop:∀ {us:List U} {vs:List V} (n:Nat),RUs K H us vs->RUs K H (us.drop n) (vs.drop n)
  | _,_,0,r=>r
  | _,_,_ + 1,.nil=>.nil
  | _,_,n + 1,.cons _ t=>RUs.drop n t
theorem RUs.rev {us:List U} {vs:List V} (h:RUs K H us vs):RUs K H us.reverse vs.reverse:=by
  induction us generalizing vs with
  | nil=>cases h;exact .nil
  | cons w ws ih =>
    cases h with
    | cons h r=>rw [List.reverse_cons,List.reverse_cons];exact (ih r).app (.one h)
theorem RUs.dropLast {us:List U} {vs:List V} (h:RUs K H us vs):RUs K H us.dropLast vs.dropLast:=by
  rw [List.dropLast_eq_take,List.dropLast_eq_take,h.length];exact h.take _
theorem RUs.set {u:U} {v:V} (h:RU K H u v):∀ {us:List U} {vs:List V} (i:Nat),RUs K H us vs->RUs K H (us.set i u) (vs.set i v)
  | _,_,_,.nil=>.nil
  | _,_,0,.cons _ t=>.cons h t
  | _,_,i + 1,.cons q t=>.cons q (RUs.set h i t)
theorem RUs.ints:∀ {ns:List Int} {vs:List V},RUs K H (ns.map U.int) vs->vs=ns.map V.int
  | [],_,.nil=>rfl
  | n::ns,_,.cons h r=>by cases h;rw [List.map_cons,RUs.ints r]
theorem RUs.of_strs:∀ {ns:List Str},RUs K H (ns.map U.str) (ns.map V.str)
  | []=>.nil
  | n::ns=>.cons (.str n) RUs.of_strs
theorem RUs.of_ints:∀ {ns:List Int},RUs K H (ns.map U.int) (ns.map V.int)
  | []=>.nil
  | n::ns=>.cons (.int n) RUs.of_ints
end
inductive AO where
  | lst (us:List U) | ins (C dx:Addr) (fs:List (Str × U)) | oth (φ:PySem.W.Frag->Hp->Addr->Prop)
noncomputable abbrev AHp:=Addr->Option AO
noncomputable def updA (A:AHp) (a:Addr) (o:AO):AHp:=fun b=>if b=a then some o else A b
theorem updA_same {A:AHp} {a:Addr} {o:AO}:updA A a o a=some o:=by unfold updA;rw [if_pos rfl]
theorem updA_ne {A:AHp} {a b:Addr} {o:AO} (h:b≠a):updA A a o b=A b:=by unfold updA;rw [if_neg h]
theorem updA_updA {A:AHp} {a:Addr} {o u:AO}:updA (updA A a o) a u=updA A a u:=by funext b;unfold updA;split <;> rfl
noncomputable def RFs (K:PySem.W.Frag) (H:Hp) (fs:List (Str × U)) (gs:List (Str × V)):Prop:=fs.map (·.1)=gs.map (·.1)/\RUs K H (fs.map (·.2)) (gs.map (·.2))
noncomputable def RO (K:PySem.W.Frag) (H:Hp) (a:Addr):AO->Prop
  | .lst us=>∃ vs,H a=some (.lst vs)/\RUs K H us vs
  | .ins C dx fs=>∃ gs,H a=some (.ins C dx gs)/\RFs K H fs gs
  | .oth φ=>(∃ o,H a=some o)/\φ K H a/\∀ H1 H2,φ K H1 a->Kp K H1 H2->H2 a=H1 a->φ K H2 a
noncomputable def HR (K:PySem.W.Frag) (H:Hp) (A:AHp):Prop:=∀ a o,A a=some o->RO K H a o
section
variable {K:PySem.W.Frag} {H H':Hp} {A:AHp} {a:Addr}
theorem RO.keep {b:Addr} {o:AO} (t:Kp K H H') (e:H' b=H b) (h:RO K H b o):RO K H' b o:=by
  cases o with
  | lst us=>obtain ⟨vs,h1,h2⟩:=h;exact ⟨vs,by rw [e];exact h1,h2.same t⟩
  | ins C dx fs=>obtain ⟨gs,h1,h2,h3⟩:=h;exact ⟨gs,by rw [e];exact h1,h2,h3.same t⟩
  | oth φ=>obtain ⟨h0,h1,h2⟩:=h;exact ⟨by rw [e];exact h0,h2 _ _ h1 t e,h2⟩
theorem HR.grow (t:Same H H') (h:HR K H A):HR K H' A:=fun a o e=>by
  have q:=h a o e
  cases o with
  | lst us=>obtain ⟨vs,h1,h2⟩:=q;exact ⟨vs,t _ _ h1,h2.same t.kp⟩
  | ins C dx fs=>obtain ⟨gs,h1,h2,h3⟩:=q;exact ⟨gs,t _ _ h1,h2,h3.same t.kp⟩
  | oth φ=>obtain ⟨⟨o,h0⟩,h1,h2⟩:=q;exact ⟨⟨o,t _ _ h0⟩,h2 _ _ h1 t.kp (by rw [h0];exact t _ _ h0),h2⟩
theorem HR.none (h:HR K H A) (e:H a=none):A a=none:=by
  cases q:A a with
  | none=>rfl
  | some o =>
    have:=h a o q
    cases o with
    | lst us=>obtain ⟨vs,h1,_⟩:=this;rw [e] at h1;cases h1
    | ins C dx fs=>obtain ⟨vs,h1,_⟩:=this;rw [e] at h1;cases h1
    | oth φ=>obtain ⟨⟨_,h1⟩,_⟩:=this;rw [e] at h1;cases h1
theorem HR.newL {us:List U} {vs:List V} (h:HR K H A) (e:H a=Option.none) (r:RUs K H us vs):HR K (upd H a (.lst vs)) (updA A a (.lst us)):=fun b o q=>by
  have s:=Same.upd_new (o:=.lst vs) e
  by_cases hb:b=a
  . subst hb
    rw [updA_same] at q
    cases q
    exact ⟨vs,upd_same,r.same s.kp⟩
  . rw [updA_ne hb] at q
    exact (h b o q).keep s.kp (upd_ne hb)
theorem HR.setL {us:List U} {vs xs:List V} (h:HR K H A) (e:H a=some (.lst xs)) (r:RUs K H us vs):HR K (upd H a (.lst vs)) (updA A a (.lst us)):=fun b o q=>by
  have s:Kp K H (upd H a (.lst vs)):=Kp.lst e
  by_cases hb:b=a
  . subst hb
    rw [updA_same] at q
    cases q
    exact ⟨vs,upd_same,r.same s⟩
  . rw [updA_ne hb] at q
    exact (h b o q).keep s (upd_ne hb)
theorem HR.list {us:List U} (h:HR K H A) (e:A a=some (.lst us)):∃ vs,H a=some (.lst vs)/\RUs K H us vs:=h a _ e
end
noncomputable abbrev ASt:=List (Option U)
inductive RSt (K:PySem.W.Frag) (H:Hp):ASt->St->Prop
  | nil:RSt K H [] []
  | skip {x:Option V} {ρ:ASt} {σ:St}:RSt K H ρ σ->RSt K H (none::ρ) (x::σ)
  | cons {u:U} {v:V} {ρ:ASt} {σ:St}:RU K H u v->RSt K H ρ σ->RSt K H (some u::ρ) (some v::σ)
section
variable {K:PySem.W.Frag} {H H':Hp}
theorem RSt.same (e:Kp K H H'):∀ {ρ:ASt} {σ:St},RSt K H ρ σ->RSt K H' ρ σ
  | _,_,.nil=>.nil
  | _,_,.skip r=>.skip (RSt.same e r)
  | _,_,.cons h r=>.cons (h.same e) (RSt.same e r)
noncomputable def aGetN:Nat->ASt->(U->Prop)->Prop
  | 0, ρ,k=>match ρ with
    | some u::_=>k u
    | _=>False
  | i + 1,ρ,k=>match ρ with
    | _::ρ=>aGetN i ρ k
    | []=>False
noncomputable def aGet (ρ:ASt) (i:Nat) (k:U->Prop):Prop:=aGetN i ρ k
theorem RSt.get:∀ {ρ:ASt} {σ:St} {i:Nat} {k:U->Prop},RSt K H ρ σ->aGet ρ i k->∃ u v,σ[i]? = some (some v)/\RU K H u v/\k u
  | _,_,0,_,.nil,h=>h.elim
  | _,_,_ + 1,_,.nil,h=>h.elim
  | _,_,0,_,.skip _,h=>h.elim
  | _,_,i + 1,_,.skip r,h=>by simpa using RSt.get r h
  | _,_,0,_,.cons q _,h=>⟨_,_,rfl,q,h⟩
  | _,_,i + 1,_,.cons _ r,h=>by simpa using RSt.get r h
theorem RSt.set {u:U} {v:V} (q:RU K H u v):∀ {ρ:ASt} {σ:St} (i:Nat),RSt K H ρ σ->RSt K H (ρ.set i (some u)) (σ.set i (some v))
  | _,_,_,.nil=>.nil
  | _,_,0,.skip r=>.cons q r
  | _,_,i + 1,.skip r=>.skip (RSt.set q i r)
  | _,_,0,.cons _ r=>.cons q r
  | _,_,i + 1,.cons h r=>.cons h (RSt.set q i r)
end
noncomputable abbrev AVK:=U->AHp->Prop
noncomputable abbrev AE:=ASt->AHp->AVK->Prop
noncomputable abbrev AT:=ASt->AHp->(Bool->AHp->Prop)->Prop
noncomputable abbrev AA:=ASt->AHp->(List U->AHp->Prop)->Prop
noncomputable abbrev AP1:=ASt->AHp->(Option Int->AHp->Prop)->Prop
structure AEnds where
  nx:ASt->AHp->Prop
  rt:AVK
  bk:ASt->AHp->Prop:=fun _ _=>False
  ct:ASt->AHp->Prop:=fun _ _=>False
noncomputable abbrev AS:=AEnds->ASt->AHp->Prop
noncomputable abbrev Aft (K:PySem.W.Frag) (H:Hp) (Q':AVK) (Q:VK):Prop:=∀ u A' v H',Kp K H H'->HR K H' A'->RU K H' u v->Q' u A'->Q v H'
noncomputable def AbE (K:PySem.W.Frag) (te:TE) (ae:AE):Prop:=∀ ρ A σ H Q' Q,RSt K H ρ σ->HR K H A->ae ρ A Q'->Aft K H Q' Q->te σ H Q
noncomputable def AbT (K:PySem.W.Frag) (te:TT) (ae:AT):Prop:=∀ ρ A σ H (Q':Bool->AHp->Prop) (Q:Bool->Hp->Prop),RSt K H ρ σ->HR K H A->ae ρ A Q'->(∀ b A' H',Kp K H H'->HR K H' A'->Q' b A'->Q b H')->te σ H Q
noncomputable def AbA (K:PySem.W.Frag) (te:TA) (ae:AA):Prop:=∀ ρ A σ H (Q':List U->AHp->Prop) (Q:List V->Hp->Prop),RSt K H ρ σ->HR K H A->ae ρ A Q'->(∀ us A' vs H',Kp K H H'->HR K H' A'->RUs K H' us vs->Q' us A'->Q vs H')->te σ H Q
noncomputable def AbP (K:PySem.W.Frag) (te:TO) (ae:AP1):Prop:=∀ ρ A σ H (Q':Option Int->AHp->Prop) (Q:Option Int->Hp->Prop),RSt K H ρ σ->HR K H A->ae ρ A Q'->(∀ b A' H',Kp K H H'->HR K H' A'->Q' b A'->Q b H')->te σ H Q
structure AftS (K:PySem.W.Frag) (H:Hp) (D':AEnds) (D:Ends):Prop where
  nx:∀ ρ A σ H',Kp K H H'->HR K H' A->RSt K H' ρ σ->D'.nx ρ A->D.nx σ H'
  rt:Aft K H D'.rt D.rt
  bk:∀ ρ A σ H',Kp K H H'->HR K H' A->RSt K H' ρ σ->D'.bk ρ A->D.bk σ H'
  ct:∀ ρ A σ H',Kp K H H'->HR K H' A->RSt K H' ρ σ->D'.ct ρ A->D.ct σ H'
theorem AftS.same {K:PySem.W.Frag} {H H1:Hp} {D':AEnds} {D:Ends} (h:AftS K H D' D) (k:Kp K H H1):AftS K H1 D' D :=
  ⟨fun ρ A σ H' q=>h.nx ρ A σ H' (k.trans q),fun u A v H' q=>h.rt u A v H' (k.trans q),fun ρ A σ H' q=>h.bk ρ A σ H' (k.trans q),fun ρ A σ H' q=>h.ct ρ A σ H' (k.trans q)⟩
noncomputable def AbS (K:PySem.W.Frag) (ts:TS) (as:AS):Prop:=∀ ρ A σ H D' D,RSt K H ρ σ->HR K H A->as D' ρ A->AftS K H D' D->ts D σ H
end L2
namespace L2
open PySem PySem.Spec PyProof.Rows
section
variable {K:PySem.W.Frag}
noncomputable def aVar (i:Nat):AE:=fun ρ A Q=>aGet ρ i fun u=>Q u A
theorem ab_var {i:Nat}:AbE K (tVar i) (aVar i):=fun ρ A σ H Q' Q hr hh h k=>by
  obtain ⟨u,v,e,r,q⟩:=hr.get h
  exact ⟨v,e,k u A v H (.refl H) hh r q⟩
noncomputable def aC (u:U):AE:=fun _ A Q=>Q u A
theorem ab_c {u:U} {v:V} (h:∀ H,RU K H u v):AbE K (tC v) (aC u):=fun ρ A σ H Q' Q hr hh q k=>k u A v H (.refl H) hh (h H) q
theorem ab_int {i:Int}:AbE K (tC (.int i)) (aC (.int i)):=ab_c fun _=>.int i
theorem ab_str {i:Str}:AbE K (tC (.str i)) (aC (.str i)):=ab_c fun _=>.str i
theorem ab_bl {i:Bool}:AbE K (tC (.bl i)) (aC (.bl i)):=ab_c fun _=>.bl i
theorem ab_non:AbE K (tC .non) (aC .non):=ab_c fun _=>.non
theorem ab_ty {n:String}:AbE K (tC (.ty n)) (aC (.ty n)):=ab_c fun _=>.ty n
theorem ab_ref {a:Addr}:AbE K (tC (.ref a)) (aC (.ref a)):=ab_c fun _=>.ref a
noncomputable abbrev AR2:=U->U->AHp->AVK->Prop
noncomputable def AbR (K:PySem.W.Frag) (r:R2) (ar:AR2):Prop:=∀ x y u w A H Q' Q,RU K H u x->RU K H w y->HR K H A->ar u w A Q'->Aft K H Q' Q->r x y H Q
noncomputable def aOp (ar:AR2) (a b:AE):AE:=fun ρ A Q=>a ρ A fun x A1=>b ρ A1 fun y A2=>ar x y A2 Q
theorem ab_op {r:R2} {ar:AR2} {ta tb:TE} {aa ab:AE} (hr:AbR K r ar) (ha:AbE K ta aa) (hb:AbE K tb ab):AbE K (tOp r ta tb) (aOp ar aa ab):=fun ρ A σ H Q' Q hs hh h k =>
  ha ρ A σ H _ _ hs hh h fun x A1 v H1 k1 h1 r1 q1=>hb ρ A1 σ H1 _ _ (hs.same k1) h1 q1 fun y A2 v2 H2 k2 h2 r2 q2=>hr _ _ _ _ _ _ _ _ (r1.same k2) r2 h2 q2 fun z A3 v3 H3 k3 h3 r3 q3=>k _ _ _ _ (k1.trans (k2.trans k3)) h3 r3 q3
noncomputable def AbU (K:PySem.W.Frag) (r:V->Hp->VK->Prop) (ar:U->AHp->AVK->Prop):Prop:=∀ x u A H Q' Q,RU K H u x->HR K H A->ar u A Q'->Aft K H Q' Q->r x H Q
noncomputable def aUn (ar:U->AHp->AVK->Prop) (a:AE):AE:=fun ρ A Q=>a ρ A fun x A1=>ar x A1 Q
theorem ab_un {r:V->Hp->VK->Prop} {ar:U->AHp->AVK->Prop} {ta:TE} {aa:AE} (hr:AbU K r ar) (ha:AbE K ta aa):AbE K (tUn r ta) (aUn ar aa):=fun ρ A σ H Q' Q hs hh h k =>
  ha ρ A σ H _ _ hs hh h fun x A1 v H1 k1 h1 r1 q1=>hr _ _ _ _ _ _ r1 h1 q1 fun z A3 v3 H3 k3 h3 r3 q3=>k _ _ _ _ (k1.trans k3) h3 r3 q3
noncomputable def aB (a:AE):AT:=fun ρ A Q=>a ρ A fun x A1=>∃ c,x=.bl c/\Q c A1
theorem ab_tb {ta:TE} {aa:AE} (ha:AbE K ta aa):AbT K (tB ta) (aB aa):=fun ρ A σ H Q' Q hs hh h k =>
  ha ρ A σ H _ _ hs hh h fun x A1 v H1 k1 h1 r1 hq0=>by obtain ⟨c,e,q1⟩:=hq0;subst e;cases r1;exact ⟨c,rfl,k c A1 H1 k1 h1 q1⟩
theorem ab_test {ta:TE} {aa:AE} (ha:AbE K ta aa):AbT K (tTest ta) (aB aa):=ab_tb ha
noncomputable def aAnd (t u:AT):AT:=fun ρ A Q=>t ρ A fun c A1=>if c=true then u ρ A1 Q else Q false A1
noncomputable def aOr (t u:AT):AT:=fun ρ A Q=>t ρ A fun c A1=>if c=true then Q true A1 else u ρ A1 Q
noncomputable def aNot (t:AT):AT:=fun ρ A Q=>t ρ A fun c A1=>Q (!c) A1
theorem ab_and {t u:TT} {a b:AT} (ha:AbT K t a) (hb:AbT K u b):AbT K (tAnd t u) (aAnd a b):=fun ρ A σ H Q' Q hs hh h k =>
  ha ρ A σ H _ _ hs hh h fun c A1 H1 k1 h1 q1=>by
    cases c
    . exact iteN (by decide) (k _ _ _ k1 h1 (by simpa using q1))
    . exact iteP rfl (hb ρ A1 σ H1 _ _ (hs.same k1) h1 (by simpa using q1) fun c A2 H2 k2 h2 q2=>k _ _ _ (k1.trans k2) h2 q2)
theorem ab_or {t u:TT} {a b:AT} (ha:AbT K t a) (hb:AbT K u b):AbT K (tOr t u) (aOr a b):=fun ρ A σ H Q' Q hs hh h k =>
  ha ρ A σ H _ _ hs hh h fun c A1 H1 k1 h1 q1=>by
    cases c
    . exact iteN (by decide) (hb ρ A1 σ H1 _ _ (hs.same k1) h1 (by simpa using q1) fun c A2 H2 k2 h2 q2=>k _ _ _ (k1.trans k2) h2 q2)
    . exact iteP rfl (k _ _ _ k1 h1 (by simpa using q1))
theorem ab_not {t:TT} {a:AT} (ha:AbT K t a):AbT K (tNot t) (aNot a):=fun ρ A σ H Q' Q hs hh h k=>ha ρ A σ H _ _ hs hh h fun c A1 H1 k1 h1 q1=>k _ _ _ k1 h1 q1
noncomputable def aAndV (a b:AE):AE:=fun ρ A Q=>a ρ A fun x A1=>∃ c,x=.bl c/\if c=true then b ρ A1 Q else Q (.bl false) A1
theorem ab_andv {t u:TE} {a b:AE} (ha:AbE K t a) (hb:AbE K u b):AbE K (tAndV t u) (aAndV a b):=fun ρ A σ H Q' Q hs hh h k =>
  ha ρ A σ H _ _ hs hh h fun x A1 v H1 k1 h1 r1 hq0=>by
    obtain ⟨c,e,q1⟩:=hq0
    subst e;cases r1
    refine ⟨c,rfl,?_⟩
    cases c
    . exact iteN (by decide) (k _ _ _ _ k1 h1 (.bl _) (by simpa using q1))
    . exact iteP rfl (hb ρ A1 σ H1 _ _ (hs.same k1) h1 (by simpa using q1) fun z A2 v2 H2 k2 h2 r2 q2=>k _ _ _ _ (k1.trans k2) h2 r2 q2)
noncomputable def aIf (t:AT) (a b:AE):AE:=fun ρ A Q=>t ρ A fun c A1=>if c=true then a ρ A1 Q else b ρ A1 Q
theorem ab_if {t:TT} {ta tb:TE} {c:AT} {a b:AE} (hc:AbT K t c) (ha:AbE K ta a) (hb:AbE K tb b):AbE K (tIf t ta tb) (aIf c a b):=fun ρ A σ H Q' Q hs hh h k =>
  hc ρ A σ H _ _ hs hh h fun c A1 H1 k1 h1 q1=>by
    cases c
    . exact iteN (by decide) (hb ρ A1 σ H1 _ _ (hs.same k1) h1 (by simpa using q1) fun z A2 v2 H2 k2 h2 r2 q2=>k _ _ _ _ (k1.trans k2) h2 r2 q2)
    . exact iteP rfl (ha ρ A1 σ H1 _ _ (hs.same k1) h1 (by simpa using q1) fun z A2 v2 H2 k2 h2 r2 q2=>k _ _ _ _ (k1.trans k2) h2 r2 q2)
noncomputable def aChain (r r':AR2) (a b c:AE):AE:=fun ρ A Q=>a ρ A fun x A1=>b ρ A1 fun y A2=>r x y A2 fun z A3=>∃ k,z=.bl k/\(if k=true then c ρ A3 fun w A4=>r' y w A4 Q else Q (.bl false) A3)
theorem ab_chain {r r':R2} {s s':AR2} {ta tb tc:TE} {a b c:AE} (h1:AbR K r s) (h2:AbR K r' s') (ha:AbE K ta a) (hb:AbE K tb b) (hc:AbE K tc c):AbE K (tChain r r' ta tb tc) (aChain s s' a b c):=fun ρ A σ H Q' Q hs hh h k =>
  ha ρ A σ H _ _ hs hh h fun x A1 v H1 k1 g1 r1 q1=>hb ρ A1 σ H1 _ _ (hs.same k1) g1 q1 fun y A2 v2 H2 k2 g2 r2 q2=>h1 _ _ _ _ _ _ _ _ (r1.same k2) r2 g2 q2 fun z A3 v3 H3 k3 g3 r3 hq0=>by
    obtain ⟨b,e,q3⟩:=hq0
    subst e;cases r3
    refine ⟨b,rfl,?_⟩
    cases b
    . exact iteN (by decide) (k _ _ _ _ (k1.trans (k2.trans k3)) g3 (.bl _) (by simpa using q3))
    . exact iteP rfl (hc ρ A3 σ H3 _ _ (hs.same (k1.trans (k2.trans k3))) g3 (by simpa using q3) fun w A4 v4 H4 k4 g4 r4 q4=>h2 _ _ _ _ _ _ _ _ (r2.same (k3.trans k4)) r4 g4 q4 fun z A5 v5 H5 k5 g5 r5 q5=>k _ _ _ _ (k1.trans (k2.trans (k3.trans (k4.trans k5)))) g5 r5 q5)
noncomputable def aTrue:AT:=fun _ A Q=>Q true A
theorem ab_true:AbT K tTrue aTrue:=fun ρ A σ H Q' Q hs hh h k=>k _ _ _ (.refl H) hh h
noncomputable def aNil:AA:=fun _ A Q=>Q [] A
theorem ab_nil:AbA K tNil aNil:=fun ρ A σ H Q' Q hs hh h k=>k _ _ _ _ (.refl H) hh .nil h
noncomputable def aCons (a:AE) (l:AA):AA:=fun ρ A Q=>a ρ A fun x A1=>l ρ A1 fun xs A2=>Q (x::xs) A2
theorem ab_cons {ta:TE} {tl:TA} {a:AE} {l:AA} (ha:AbE K ta a) (hl:AbA K tl l):AbA K (tCons ta tl) (aCons a l):=fun ρ A σ H Q' Q hs hh h k =>
  ha ρ A σ H _ _ hs hh h fun x A1 v H1 k1 g1 r1 q1=>hl ρ A1 σ H1 _ _ (hs.same k1) g1 q1 fun xs A2 vs H2 k2 g2 r2 q2=>k _ _ _ _ (k1.trans k2) g2 (.cons (r1.same k2) r2) q2
noncomputable def aConst (us:List U):AA:=fun _ A L=>L us A
theorem ab_strs {xs:List Str}:AbA K (tConst (xs.map V.str)) (aConst (xs.map U.str)):=fun ρ A σ H Q' Q hs hh h k=>k _ _ _ _ (.refl H) hh RUs.of_strs h
noncomputable def aTup (l:AA):AE:=fun ρ A Q=>l ρ A fun xs A1=>xs.length<=sizeLine/\Q (.tup xs) A1
theorem ab_tup {tl:TA} {l:AA} (hl:AbA K tl l):AbE K (tTup tl) (aTup l):=fun ρ A σ H Q' Q hs hh h k =>
  hl ρ A σ H _ _ hs hh h fun xs A1 vs H1 k1 g1 r1 ⟨hz,q1⟩=>⟨by rw [<- r1.length];exact hz,fun p hp=>by
    have s:=Same.upd_new (o:=.tup vs) hp
    exact k _ _ _ _ (k1.trans s.kp) (g1.grow s) (.tup (SqT.of upd_same) (r1.same s.kp)) q1⟩
noncomputable def aLst (l:AA):AE:=fun ρ A Q=>l ρ A fun xs A1=>xs.length<=sizeLine/\∀ p,A1 p=none->Q (.ref p) (updA A1 p (.lst xs))
theorem ab_lst {tl:TA} {l:AA} (hl:AbA K tl l):AbE K (tLst tl) (aLst l):=fun ρ A σ H Q' Q hs hh h k =>
  hl ρ A σ H _ _ hs hh h fun xs A1 vs H1 k1 g1 r1 ⟨hz,q1⟩=>⟨by rw [<- r1.length];exact hz,fun p hp=>k _ _ _ _ (k1.trans (Same.upd_new hp).kp) (g1.newL hp r1) (.ref p) (q1 p (g1.none hp))⟩
noncomputable def AbL (K:PySem.W.Frag) (r:List V->Hp->VK->Prop) (ar:List U->AHp->AVK->Prop):Prop:=∀ xs us A H Q' Q,RUs K H us xs->HR K H A->ar us A Q'->Aft K H Q' Q->r xs H Q
noncomputable def aCB (ar:List U->AHp->AVK->Prop) (l:AA):AE:=fun ρ A Q=>l ρ A fun us A1=>ar us A1 Q
theorem ab_cb {r:List V->Hp->VK->Prop} {ar:List U->AHp->AVK->Prop} {tl:TA} {l:AA} (hr:AbL K r ar) (hl:AbA K tl l):AbE K (tCB r tl) (aCB ar l):=fun ρ A σ H Q' Q hs hh h k =>
  hl ρ A σ H _ _ hs hh h fun xs A1 vs H1 k1 g1 r1 q1=>hr _ _ _ _ _ _ r1 g1 q1 fun z A3 v3 H3 k3 h3 r3 q3=>k _ _ _ _ (k1.trans k3) h3 r3 q3
noncomputable abbrev ASp:=List U->AHp->AVK->Prop
noncomputable def spOf (K:PySem.W.Frag) (asp:ASp):Sp:=fun vs H Q _=>∃ us A Q',RUs K H us vs/\HR K H A/\asp us A Q'/\Aft K H Q' Q
noncomputable def aCall (asp:ASp) (l:AA):AE:=fun ρ A Q=>l ρ A fun us A1=>asp us A1 Q
theorem ab_call {asp:ASp} {E:XK} {tl:TA} {l:AA} (hl:AbA K tl l):AbE K (tCall (spOf K asp) [] E tl) (aCall asp l):=fun ρ A σ H Q' Q hs hh h k =>
  hl ρ A σ H _ _ hs hh h fun us A1 vs H1 k1 g1 r1 q1=>⟨us,A1,Q',by rw [List.append_nil];exact r1,g1,q1,fun z A3 v3 H3 k3 h3 r3 q3=>k _ _ _ _ (k1.trans k3) h3 r3 q3⟩
noncomputable def aNoPart:AP1:=fun _ A Q=>Q none A
theorem ab_nopart:AbP K tNoPart aNoPart:=fun ρ A σ H Q' Q hs hh h k=>k _ _ _ (.refl H) hh h
noncomputable def aPart (a:AE):AP1:=fun ρ A Q=>a ρ A fun x A1=>∃ i,x=.int i/\Q (some i) A1
theorem ab_part {t:TE} {a:AE} (ha:AbE K t a):AbP K (tPart t) (aPart a):=fun ρ A σ H Q' Q hs hh h k =>
  ha ρ A σ H _ _ hs hh h fun x A1 v H1 k1 h1 r1 hq0=>by obtain ⟨i,e,q1⟩:=hq0;subst e;cases r1;exact ⟨i,rfl,k _ _ _ k1 h1 q1⟩
noncomputable def AbSl (K:PySem.W.Frag) (r:V->Option Int->Option Int->Hp->VK->Prop) (ar:U->Option Int->Option Int->AHp->AVK->Prop):Prop:=∀ x u lo hi A H Q' Q,RU K H u x->HR K H A->ar u lo hi A Q'->Aft K H Q' Q->r x lo hi H Q
noncomputable def aSl (ar:U->Option Int->Option Int->AHp->AVK->Prop) (a:AE) (l h:AP1):AE:=fun ρ A Q=>a ρ A fun x A1=>l ρ A1 fun i A2=>h ρ A2 fun j A3=>ar x i j A3 Q
theorem ab_sl {r:V->Option Int->Option Int->Hp->VK->Prop} {ar:U->Option Int->Option Int->AHp->AVK->Prop} {t:TE} {tl th:TO} {a:AE} {l h:AP1} (hr:AbSl K r ar) (ha:AbE K t a) (hl:AbP K tl l) (hh:AbP K th h):AbE K (tSl r t tl th) (aSl ar a l h):=fun ρ A σ H Q' Q hs g w k =>
  ha ρ A σ H _ _ hs g w fun x A1 v H1 k1 g1 r1 q1=>hl ρ A1 σ H1 _ _ (hs.same k1) g1 q1 fun i A2 H2 k2 g2 q2=>hh ρ A2 σ H2 _ _ (hs.same (k1.trans k2)) g2 q2 fun j A3 H3 k3 g3 q3 =>
    hr _ _ _ _ _ _ _ _ (r1.same (k2.trans k3)) g3 q3 fun z A4 v4 H4 k4 g4 r4 q4=>k _ _ _ _ (k1.trans (k2.trans (k3.trans k4))) g4 r4 q4
noncomputable def AbY (K:PySem.W.Frag) (T:String) (y:U->AHp->Prop):Prop:=∀ x u A H,RU K H u x->HR K H A->y u A->tyV K T x H
noncomputable def aBM0 (y:U->AHp->Prop) (ar:U->List U->AHp->AVK->Prop) (a:AE):AE:=fun ρ A Q=>a ρ A fun x A1=>y x A1/\ar x [] A1 Q
noncomputable def aBM (y:U->AHp->Prop) (ar:U->List U->AHp->AVK->Prop) (a:AE) (l:AA):AE:=fun ρ A Q=>a ρ A fun x A1=>y x A1/\l ρ A1 fun us A2=>ar x us A2 Q
noncomputable def AbMt (K:PySem.W.Frag) (r:V->List V->Hp->VK->Prop) (ar:U->List U->AHp->AVK->Prop):Prop:=∀ x u xs us A H Q' Q,RU K H u x->RUs K H us xs->HR K H A->ar u us A Q'->Aft K H Q' Q->r x xs H Q
theorem ab_bm0 {T:String} {r:V->List V->Hp->VK->Prop} {y:U->AHp->Prop} {ar:U->List U->AHp->AVK->Prop} {t:TE} {a:AE} (hy:AbY K T y) (hr:AbMt K r ar) (ha:AbE K t a):AbE K (tBM0 K T r t) (aBM0 y ar a):=fun ρ A σ H Q' Q hs g w k =>
  ha ρ A σ H _ _ hs g w fun x A1 v H1 k1 g1 r1 ⟨q0,q1⟩=>⟨hy _ _ _ _ r1 g1 q0,hr _ _ _ _ _ _ _ _ r1 .nil g1 q1 fun z A4 v4 H4 k4 g4 r4 q4=>k _ _ _ _ (k1.trans k4) g4 r4 q4⟩
theorem ab_bm {T:String} {r:V->List V->Hp->VK->Prop} {y:U->AHp->Prop} {ar:U->List U->AHp->AVK->Prop} {t:TE} {a:AE} {tl:TA} {l:AA} (hy:AbY K T y) (hr:AbMt K r ar) (ha:AbE K t a) (hl:AbA K tl l):AbE K (tBM K T r t tl) (aBM y ar a l):=fun ρ A σ H Q' Q hs g w k =>
  ha ρ A σ H _ _ hs g w fun x A1 v H1 k1 g1 r1 ⟨q0,q1⟩=>⟨hy _ _ _ _ r1 g1 q0,hl ρ A1 σ H1 _ _ (hs.same k1) g1 q1 fun us A2 vs H2 k2 g2 r2 q2=>hr _ _ _ _ _ _ _ _ (r1.same k2) r2 g2 q2 fun z A4 v4 H4 k4 g4 r4 q4=>k _ _ _ _ (k1.trans (k2.trans k4)) g4 r4 q4⟩
noncomputable def aNext:AS:=fun D ρ A=>D.nx ρ A
theorem ab_next:AbS K tNext aNext:=fun ρ A σ H D' D hs g w k=>k.nx _ _ _ _ (.refl H) g hs w
noncomputable def aSeq (t u:AS):AS:=fun D ρ A=>t { D with nx:=u D } ρ A
theorem ab_seq {t u:TS} {a b:AS} (ha:AbS K t a) (hb:AbS K u b):AbS K (tSeq t u) (aSeq a b):=fun ρ A σ H D' D hs g w k =>
  ha ρ A σ H _ _ hs g w ⟨fun ρ1 A1 σ1 H1 k1 g1 r1 q1=>hb ρ1 A1 σ1 H1 _ _ r1 g1 q1 (k.same k1),k.rt,k.bk,k.ct⟩
noncomputable def aDrop (a:AE):AS:=fun D ρ A=>a ρ A fun _ A1=>D.nx ρ A1
theorem ab_drop {t:TE} {a:AE} (ha:AbE K t a):AbS K (tDrop t) (aDrop a):=fun ρ A σ H D' D hs g w k=>ha ρ A σ H _ _ hs g w fun x A1 v H1 k1 g1 r1 q1=>k.nx _ _ _ _ k1 g1 (hs.same k1) q1
noncomputable def aRet (a:AE):AS:=fun D ρ A=>a ρ A D.rt
theorem ab_ret {t:TE} {a:AE} (ha:AbE K t a):AbS K (tRet t) (aRet a):=fun ρ A σ H D' D hs g w k=>ha ρ A σ H _ _ hs g w k.rt
noncomputable def aIfS (c:AT) (t u:AS):AS:=fun D ρ A=>c ρ A fun b A1=>if b=true then t D ρ A1 else u D ρ A1
theorem ab_ifs {c:TT} {t u:TS} {ac:AT} {a b:AS} (hc:AbT K c ac) (ha:AbS K t a) (hb:AbS K u b):AbS K (tIfS c t u) (aIfS ac a b):=fun ρ A σ H D' D hs g w k =>
  hc ρ A σ H _ _ hs g w fun c A1 H1 k1 g1 q1=>by
    cases c
    . exact iteN (by decide) (hb ρ A1 σ H1 _ _ (hs.same k1) g1 (by simpa using q1) (k.same k1))
    . exact iteP rfl (ha ρ A1 σ H1 _ _ (hs.same k1) g1 (by simpa using q1) (k.same k1))
noncomputable abbrev AG:=U->ASt->AHp->(ASt->AHp->Prop)->Prop
noncomputable abbrev AGs:=List U->ASt->AHp->(ASt->AHp->Prop)->Prop
noncomputable abbrev AftG (K:PySem.W.Frag) (H:Hp) (Q':ASt->AHp->Prop) (Q:St->Hp->Prop):Prop:=∀ ρ A σ H',Kp K H H'->HR K H' A->RSt K H' ρ σ->Q' ρ A->Q σ H'
noncomputable def AbG (K:PySem.W.Frag) (t:TG) (a:AG):Prop:=∀ u v ρ A σ H Q' Q,RU K H u v->RSt K H ρ σ->HR K H A->a u ρ A Q'->AftG K H Q' Q->t v σ H Q
noncomputable def AbGs (K:PySem.W.Frag) (t:TGs) (a:AGs):Prop:=∀ u v ρ A σ H Q' Q,RUs K H u v->RSt K H ρ σ->HR K H A->a u ρ A Q'->AftG K H Q' Q->t v σ H Q
noncomputable def bName (i:Nat):AG:=fun u ρ A Q=>Q (ρ.set i (some u)) A
theorem ab_name {i:Nat}:AbG K (gName i) (bName i):=fun u v ρ A σ H Q' Q r hs g w k=>k _ _ _ _ (.refl H) g (hs.set r i) w
noncomputable def bNil:AGs:=fun us ρ A Q=>us=[]/\Q ρ A
theorem ab_gnil:AbGs K gNil bNil:=fun u v ρ A σ H Q' Q r hs g hq0 k=>by obtain ⟨e,w⟩:=hq0;subst e;cases r;exact ⟨rfl,k _ _ _ _ (.refl H) g hs w⟩
noncomputable def bCons (t:AG) (u:AGs):AGs:=fun us ρ A Q=>∃ v r,us=v::r/\t v ρ A fun ρ' A'=>u r ρ' A' Q
theorem ab_gcons {t:TG} {u:TGs} {a:AG} {b:AGs} (ha:AbG K t a) (hb:AbGs K u b):AbGs K (gCons t u) (bCons a b):=fun us vs ρ A σ H Q' Q r hs g hq0 k=>by
  obtain ⟨x,xs,e,w⟩:=hq0
  subst e
  cases r with
  | cons r rr=>exact ⟨_,_,rfl,ha _ _ _ _ _ _ _ _ r hs g w fun ρ1 A1 σ1 H1 k1 g1 s1 q1=>hb _ _ _ _ _ _ _ _ (rr.same k1) s1 g1 q1 fun ρ2 A2 σ2 H2 k2 g2 s2 q2=>k _ _ _ _ (k1.trans k2) g2 s2 q2⟩
noncomputable def bTup (n:Nat) (t:AGs):AG:=fun u ρ A Q=>∃ us,u=.tup us/\us.length=n/\t us ρ A Q
theorem ab_gtup {n:Nat} {t:TGs} {a:AGs} (ha:AbGs K t a):AbG K (gTup K n t) (bTup n a):=fun u v ρ A σ H Q' Q r hs g hq0 k=>by
  obtain ⟨us,e,hn,w⟩:=hq0
  subst e
  cases r with
  | tup h rr=>exact ⟨_,_,rfl,h,by rw [<- rr.length];exact hn,ha _ _ _ _ _ _ _ _ rr hs g w k⟩
noncomputable def aAsg (a:AE) (b:AG):AS:=fun D ρ A=>a ρ A fun x A1=>b x ρ A1 D.nx
theorem ab_asg {t:TE} {a:AE} {tg:TG} {b:AG} (ha:AbE K t a) (hb:AbG K tg b):AbS K (tAsg t tg) (aAsg a b):=fun ρ A σ H D' D hs g w k =>
  ha ρ A σ H _ _ hs g w fun x A1 v H1 k1 g1 r1 q1=>hb _ _ _ _ _ _ _ _ r1 (hs.same k1) g1 q1 fun ρ2 A2 σ2 H2 k2 g2 s2 q2=>k.nx _ _ _ _ (k1.trans k2) g2 s2 q2
noncomputable def aPar (i j:Nat) (l:AA):AS:=fun D ρ A=>l ρ A fun us A1=>∃ v w,us=[v,w]/\D.nx ((ρ.set i (some v)).set j (some w)) A1
end
end L2
namespace L2
open PySem PySem.Spec PyProof.Rows
noncomputable abbrev AIt:=Nat->AHp->Option U->Prop
noncomputable def AbJ (K:PySem.W.Frag) (H0:Hp) (J:It) (aj:AIt):Prop:=∀ i A H r,Kp K H0 H->HR K H A->aj i A r->match r with
  | none=>J.stop i H
  | some u=>J.go i H/\∀ x H',J.yld i H x H'->Kp K H H'/\HR K H' A/\RU K H' u x
noncomputable abbrev AI:=ASt->AHp->(AIt->AHp->Prop)->Prop
noncomputable def AbI (K:PySem.W.Frag) (wi:TI) (ai:AI):Prop:=∀ ρ A σ H R' R,RSt K H ρ σ->HR K H A->ai ρ A R'->(∀ aj A' J H',Kp K H H'->HR K H' A'->AbJ K H' J aj->R' aj A'->R J H')->wi σ H R
noncomputable def aLoop (J:AIt) (g:AG) (b:AS) (D:AEnds) (ρ:ASt) (A:AHp):Prop:=∃ W:Nat->Nat->ASt->AHp->Prop,(∃ m,W 0 m ρ A)/\∀ i m ρ A,W i m ρ A ->
  (J i A none/\D.nx ρ A)\/∃ u,J i A (some u)/\∃ N:ASt->AHp->Prop,(∀ ρ' A',N ρ' A'->∃ m',m' < m/\W (i + 1) m' ρ' A')/\g u ρ A fun ρ2 A2=>b { D with nx:=N,ct:=N,bk:=D.nx } ρ2 A2
noncomputable def aFor (wi:AI) (g:AG) (b:AS):AS:=fun D ρ A=>wi ρ A fun J A1=>aLoop J g b D ρ A1
section
variable {K:PySem.W.Frag}
theorem ab_for {wi:TI} {g:TG} {t:TS} {ai:AI} {ag:AG} {a:AS} (hi:AbI K wi ai) (hg:AbG K g ag) (ha:AbS K t a):AbS K (tFor wi g t) (aFor ai ag a):=fun ρ A σ H D' D hs g0 w k=>by
  refine hi ρ A σ H _ _ hs g0 w fun aj A1 J H1 k1 g1 hj q=>?_
  obtain ⟨W,⟨m0,w0⟩,turn⟩:=q
  refine ⟨fun i m σ2 H2=>∃ ρ2 A2,Kp K H1 H2/\HR K H2 A2/\RSt K H2 ρ2 σ2/\W i m ρ2 A2,⟨m0,ρ,A1,.refl H1,g1,hs.same k1,w0⟩,?_⟩
  rintro i m σ2 H2 ⟨ρ2,A2,k2,g2,s2,w2⟩
  have k12:=k1.trans k2
  rcases turn i m ρ2 A2 w2 with ⟨hstop,q⟩ | ⟨u,hgo,N,hN,q⟩
  . exact .inl ⟨hj i A2 H2 _ k2 g2 hstop,k.nx _ _ _ _ k12 g2 s2 q⟩
  . obtain ⟨j1,j2⟩:=hj i A2 H2 _ k2 g2 hgo
    refine .inr ⟨j1,fun σ' H'=>∃ ρ' A',Kp K H1 H'/\HR K H' A'/\RSt K H' ρ' σ'/\N ρ' A',?_,fun x H3 hy=>?_⟩
    . rintro σ' H' ⟨ρ',A',k',g',s',n'⟩
      obtain ⟨m',hm,w'⟩:=hN ρ' A' n'
      exact ⟨m',hm,ρ',A',k',g',s',w'⟩
    . obtain ⟨k3,g3,r3⟩:=j2 x H3 hy
      refine hg _ _ _ _ _ _ _ _ r3 (s2.same k3) g3 q fun ρ4 A4 σ4 H4 k4 g4 s4 q4=>?_
      have k24:=k2.trans (k3.trans k4)
      exact ha ρ4 A4 σ4 H4 _ _ s4 g4 q4 ⟨fun ρ5 A5 σ5 H5 k5 g5 s5 n5=>⟨ρ5,A5,k24.trans k5,g5,s5,n5⟩,(k.same (k1.trans k24)).rt,fun ρ5 A5 σ5 H5 k5 g5 s5 n5=>k.nx _ _ _ _ ((k1.trans k24).trans k5) g5 s5 n5,fun ρ5 A5 σ5 H5 k5 g5 s5 n5=>⟨ρ5,A5,k24.trans k5,g5,s5,n5⟩⟩
noncomputable def jFix (us:List U):AIt:=fun i _ r=>r=us[i]?
noncomputable def jLst (a:Addr):AIt:=fun i A r=>∃ us,A a=some (.lst us)/\r=us[i]?
noncomputable def aJof (y:U->AHp->(AIt->AHp->Prop)->Prop) (a:AE):AI:=fun ρ A R=>a ρ A fun x A1=>y x A1 R
noncomputable def AbY1 (K:PySem.W.Frag) (u:V->Hp->(It->Hp->Prop)->Prop) (y:U->AHp->(AIt->AHp->Prop)->Prop):Prop:=∀ x v A H R' R,RU K H x v->HR K H A->y x A R'->(∀ aj A' J H',Kp K H H'->HR K H' A'->AbJ K H' J aj->R' aj A'->R J H')->u v H R
theorem ab_jof {u:V->Hp->(It->Hp->Prop)->Prop} {y:U->AHp->(AIt->AHp->Prop)->Prop} {t:TE} {a:AE} (hy:AbY1 K u y) (ha:AbE K t a):AbI K (jOf u t) (aJof y a):=fun ρ A σ H R' R hs g w k =>
  ha ρ A σ H _ _ hs g w fun x A1 v H1 k1 g1 r1 q1=>hy _ _ _ _ _ _ r1 g1 q1 fun aj A2 J H2 k2 g2 hj q2=>k _ _ _ _ (k1.trans k2) g2 hj q2
theorem itl_fix {H:Hp} {a:Addr} {us:List U} {vs:List V} (h:SqR K H a vs) (r:RUs K H us vs):AbJ K H (Itl K a) (jFix us):=fun i A H1 x k g e=>by
  have e:x=us[i]?:=e
  have h1:=(k.r _ _ h).sq
  have r1:=r.same k
  subst e
  cases hu:us[i]? with
  | none=>exact ⟨vs,h1,by rw [<- r1.length];exact List.getElem?_eq_none_iff.mp hu⟩
  | some u =>
    obtain ⟨v,hv,rv⟩:=r1.get' hu
    refine ⟨⟨vs,v,h1,hv⟩,?_⟩
    rintro x H' ⟨rfl,hx⟩
    have:=hx vs h1
    rw [hv] at this;cases this
    exact ⟨.refl _,g,rv⟩
theorem itl_lst {H:Hp} {a:Addr}:AbJ K H (Itl K a) (jLst a):=fun i A H1 x k g hq0=>by
  obtain ⟨us,hA,e⟩:=hq0
  subst e
  obtain ⟨vs,h1,r1⟩:=g.list hA
  have h1:SqL K H1 a vs:=SqL.of h1
  cases hu:us[i]? with
  | none=>exact ⟨vs,h1,by rw [<- r1.length];exact List.getElem?_eq_none_iff.mp hu⟩
  | some u =>
    obtain ⟨v,hv,rv⟩:=r1.get' hu
    refine ⟨⟨vs,v,h1,hv⟩,?_⟩
    rintro x H' ⟨rfl,hx⟩
    have:=hx vs h1
    rw [hv] at this;cases this
    exact ⟨.refl _,g,rv⟩
theorem itt_fix {H:Hp} {a:Addr} {us:List U} {vs:List V} (h:SqT K H a vs) (r:RUs K H us vs):AbJ K H (Itt K a) (jFix us):=fun i A H1 x k g e=>by
  have e:x=us[i]?:=e
  have h1:=k.t _ _ h
  have r1:=r.same k
  subst e
  cases hu:us[i]? with
  | none=>exact ⟨vs,h1,by rw [<- r1.length];exact List.getElem?_eq_none_iff.mp hu⟩
  | some u =>
    obtain ⟨v,hv,rv⟩:=r1.get' hu
    refine ⟨⟨vs,v,h1,hv⟩,?_⟩
    rintro x H' ⟨rfl,hx⟩
    have:=hx vs h1
    rw [hv] at this;cases this
    exact ⟨.refl _,g,rv⟩
noncomputable def yList:U->AHp->(AIt->AHp->Prop)->Prop:=fun u A R=>match u with
  | .ref a=>(∃ us,A a=some (.lst us))/\R (jLst a) A
  | .rol us=>R (jFix us) A
  | _=>False
theorem ab_ylist:AbY1 K (uList K) yList:=fun x v A H R' R r g w k=>by
  cases r with
  | ref a =>
    obtain ⟨⟨us,hA⟩,w⟩:=w
    obtain ⟨vs,h1,r1⟩:=g.list hA
    exact ⟨⟨vs,SqL.of h1⟩,k _ _ _ _ (.refl H) g itl_lst w⟩
  | rol h1 r1=>exact ⟨⟨_,h1.sq⟩,k _ _ _ _ (.refl H) g (itl_fix h1 r1) w⟩
  | _=>exact w.elim
noncomputable def yTup:U->AHp->(AIt->AHp->Prop)->Prop:=fun u A R=>match u with
  | .tup us=>R (jFix us) A
  | _=>False
theorem ab_ytup:AbY1 K (uTupI K) yTup:=fun x v A H R' R r g w k=>by
  cases r with
  | tup h1 r1=>exact ⟨⟨_,h1⟩,k _ _ _ _ (.refl H) g (itt_fix h1 r1) w⟩
  | _=>exact w.elim
noncomputable def rngU (lo:Int) (n:Nat):List U:=(List.range n).map fun (i:Nat)=>.int (lo + (i:Int))
theorem rngU_get (lo:Int) (n i:Nat):(rngU lo n)[i]? = if i < n then some (.int (lo + (i:Int))) else none:=by
  unfold rngU
  rw [List.getElem?_map]
  by_cases h:i < n
  . rw [if_pos h,List.getElem?_range h];rfl
  . rw [if_neg h,List.getElem?_eq_none (by rw [List.length_range];lia)];rfl
theorem itr_fix {H:Hp} {lo:Int} {n:Nat}:AbJ K H (Itr lo n) (jFix (rngU lo n)):=fun i A H1 x k g e=>by
  have e:x=(rngU lo n)[i]?:=e
  rw [rngU_get] at e
  subst e
  by_cases h:i < n
  . rw [if_pos h]
    refine ⟨h,?_⟩
    rintro x H' ⟨rfl,rfl⟩
    exact ⟨.refl _,g,.int _⟩
  . rw [if_neg h]
    exact Nat.le_of_not_lt h
noncomputable def yRng1:List U->AHp->(AIt->AHp->Prop)->Prop:=fun us A R=>match us with
  | [.int j]=>-(2 ^ 62)<=j/\j < 2 ^ 62/\R (jFix (rngU 0 j.toNat)) A
  | _=>False
noncomputable def AbYs (K:PySem.W.Frag) (u:List V->Hp->(It->Hp->Prop)->Prop) (y:List U->AHp->(AIt->AHp->Prop)->Prop):Prop:=∀ x v A H R' R,RUs K H x v->HR K H A->y x A R'->(∀ aj A' J H',Kp K H H'->HR K H' A'->AbJ K H' J aj->R' aj A'->R J H')->u v H R
noncomputable def aJargs (y:List U->AHp->(AIt->AHp->Prop)->Prop) (l:AA):AI:=fun ρ A R=>l ρ A fun us A1=>y us A1 R
theorem ab_jargs {u:List V->Hp->(It->Hp->Prop)->Prop} {y:List U->AHp->(AIt->AHp->Prop)->Prop} {t:TA} {l:AA} (hy:AbYs K u y) (hl:AbA K t l):AbI K (jArgs u t) (aJargs y l):=fun ρ A σ H R' R hs g w k =>
  hl ρ A σ H _ _ hs g w fun x A1 v H1 k1 g1 r1 q1=>hy _ _ _ _ _ _ r1 g1 q1 fun aj A2 J H2 k2 g2 hj q2=>k _ _ _ _ (k1.trans k2) g2 hj q2
theorem ab_yrng1:AbYs K uRng1 yRng1:=fun x v A H R' R r g w k=>by
  unfold yRng1 at w
  split at w
  . cases r with
    | cons r rr =>
      cases rr;cases r
      exact ⟨w.1,w.2.1,k _ _ _ _ (.refl H) g itr_fix w.2.2⟩
  . exact w.elim
theorem ab_jrng1 {t:TA} {l:AA} (hl:AbA K t l):AbI K (jRng1 t) (aJargs yRng1 l):=ab_jargs (u:=uRng1) ab_yrng1 hl
noncomputable def enU (us:List U):List U:=us.zipIdx.map fun p=>.tup [.int (p.2:Nat),p.1]
theorem enU_get (us:List U) (i:Nat):(enU us)[i]? = (us[i]?).map fun u=>.tup [.int (i:Nat),u]:=by
  unfold enU
  rw [List.getElem?_map,List.getElem?_zipIdx]
  cases us[i]? <;> simp
theorem enU_len (us:List U):(enU us).length=us.length:=by simp [enU]
noncomputable def jEnum (a:Addr):AIt:=fun i A r=>∃ us,A a=some (.lst us)/\r=(enU us)[i]?
noncomputable def yEnum:List U->AHp->(AIt->AHp->Prop)->Prop:=fun us A R=>match us with
  | [.ref a]=>(∃ us,A a=some (.lst us))/\R (jEnum a) A
  | [.rol us]=>R (jFix (enU us)) A
  | _=>False
theorem ite_of {H:Hp} {a:Addr} {us:List U} {vs:List V} {i:Nat} {A:AHp} (h1:SqL K H a vs) (r1:RUs K H us vs) (g:HR K H A):match (enU us)[i]? with
    | none=>(Ite K a).stop i H
    | some u=>(Ite K a).go i H/\∀ x H',(Ite K a).yld i H x H'->Kp K H H'/\HR K H' A/\RU K H' u x:=by
  rw [enU_get]
  cases hu:us[i]? with
  | none=>exact ⟨vs,h1,by rw [<- r1.length];exact List.getElem?_eq_none_iff.mp hu⟩
  | some u =>
    obtain ⟨v,hv,rv⟩:=r1.get' hu
    refine ⟨⟨vs,v,h1,hv⟩,?_⟩
    rintro x H' ⟨T,x0,rfl,hT,rfl,hx⟩
    have:=hx vs h1
    rw [hv] at this;cases this
    have s:=Same.upd_new (o:=.tup [.int i,v]) hT
    exact ⟨s.kp,g.grow s,.tup (SqT.of upd_same) (.cons (.int _) (.one (rv.same s.kp)))⟩
theorem iteu_of {H:Hp} {a:Addr} {us:List U} {vs:List V} {i:Nat} {A:AHp} (h1:SqT K H a vs) (r1:RUs K H us vs) (g:HR K H A):match (enU us)[i]? with
    | none=>(Iteu K a).stop i H
    | some u=>(Iteu K a).go i H/\∀ x H',(Iteu K a).yld i H x H'->Kp K H H'/\HR K H' A/\RU K H' u x:=by
  rw [enU_get]
  cases hu:us[i]? with
  | none=>exact ⟨vs,h1,by rw [<- r1.length];exact List.getElem?_eq_none_iff.mp hu⟩
  | some u =>
    obtain ⟨v,hv,rv⟩:=r1.get' hu
    refine ⟨⟨vs,v,h1,hv⟩,?_⟩
    rintro x H' ⟨T,x0,rfl,hT,rfl,hx⟩
    have:=hx vs h1
    rw [hv] at this;cases this
    have s:=Same.upd_new (o:=.tup [.int i,v]) hT
    exact ⟨s.kp,g.grow s,.tup (SqT.of upd_same) (.cons (.int _) (.one (rv.same s.kp)))⟩
theorem ab_yenum:AbYs K (uEnum K) yEnum:=fun x v A H R' R r g w k=>by
  unfold yEnum at w
  split at w
  . cases r with
    | cons r rr =>
      cases rr;cases r
      obtain ⟨⟨us,hA⟩,w⟩:=w
      obtain ⟨vs,h1,r1⟩:=g.list hA
      refine ⟨⟨vs,SqL.of h1⟩,k _ _ _ _ (.refl H) g (fun i A1 H1 r k1 g1 ⟨us,hA,e⟩=>?_) w⟩
      subst e
      obtain ⟨vs,h1,r1⟩:=g1.list hA
      exact ite_of (SqL.of h1) r1 g1
  . cases r with
    | cons r rr =>
      cases rr
      cases r with
      | rol h1 r1 =>
        refine ⟨⟨_,h1.sq⟩,k _ _ _ _ (.refl H) g (fun i A1 H1 r k1 g1 e=>?_) w⟩
        have e:r=(enU _)[i]?:=e
        subst e
        exact ite_of (k1.r _ _ h1).sq (r1.same k1) g1
  . exact w.elim
noncomputable def yEnumT:List U->AHp->(AIt->AHp->Prop)->Prop:=fun us A R=>match us with
  | [.tup us]=>R (jFix (enU us)) A
  | _=>False
theorem ab_yenumT:AbYs K (uEnumT K) yEnumT:=fun x v A H R' R r g w k=>by
  unfold yEnumT at w
  split at w
  . cases r with
    | cons r rr =>
      cases rr
      cases r with
      | tup h1 r1 =>
        refine ⟨⟨_,h1⟩,k _ _ _ _ (.refl H) g (fun i A1 H1 r k1 g1 e=>?_) w⟩
        have e:r=(enU _)[i]?:=e
        subst e
        exact iteu_of (k1.t _ _ h1) (r1.same k1) g1
  . exact w.elim
noncomputable def jRevA (a:Addr) (n:Nat):AIt:=fun i A r=>(i=n/\r=none)\/(i < n/\∃ us u,A a=some (.lst us)/\us[n - 1 - i]? = some u/\r=some u)
noncomputable def aJrev (a:AE):AI:=fun ρ A R=>a ρ A fun x A1=>∃ p us,x=.ref p/\A1 p=some (.lst us)/\R (jRevA p us.length) A1
theorem ab_jrev {t:TE} {a:AE} (ha:AbE K t a):AbI K (jRev K t) (aJrev a):=fun ρ A σ H R' R hs g w k =>
  ha ρ A σ H _ _ hs g w fun x A1 v H1 k1 g1 r1 hq0=>by
    obtain ⟨p,us,e,hA,q1⟩:=hq0
    subst e;cases r1
    obtain ⟨vs,h1,r1⟩:=g1.list hA
    refine ⟨p,vs,rfl,SqL.of h1,?_⟩
    rw [<- r1.length]
    refine k _ _ _ _ k1 g1 (fun i A2 H2 r k2 g2 e=>?_) q1
    rcases e with ⟨rfl,rfl⟩ | ⟨hi,us2,u,hA2,hu,rfl⟩
    . rfl
    . obtain ⟨vs2,h2,r2⟩:=g2.list hA2
      obtain ⟨v,hv,rv⟩:=r2.get' hu
      refine ⟨⟨hi,vs2,v,SqL.of h2,hv⟩,?_⟩
      rintro x H' ⟨rfl,hx⟩
      have:=hx vs2 (SqL.of h2)
      rw [hv] at this;cases this
      exact ⟨.refl _,g2,rv⟩
noncomputable def aCompStart (nt:Nat) (frs:List (Str × Nat)) (ρ:ASt):ASt:=List.replicate nt none++frs.map fun p=>(ρ[p.2]?).join
theorem RSt.join {H:Hp}:∀ {ρ:ASt} {σ:St} (i:Nat) {ρ2:ASt} {σ2:St},RSt K H ρ σ->RSt K H ρ2 σ2->RSt K H ((ρ[i]?).join::ρ2) ((σ[i]?).join::σ2)
  | _,_,_,_,_,.nil,q=>by simpa using .skip q
  | _,_,0,_,_,.skip _,q=>by simpa using .skip q
  | _,_,i + 1,_,_,.skip r,q=>by simpa using RSt.join i r q
  | _,_,0,_,_,.cons h _,q=>by simpa using .cons h q
  | _,_,i + 1,_,_,.cons _ r,q=>by simpa using RSt.join i r q
theorem RSt.comp {H:Hp} {ρ:ASt} {σ:St} (h:RSt K H ρ σ) (nt:Nat) (frs:List (Str × Nat)):RSt K H (aCompStart nt frs ρ) (compStart nt frs σ):=by
  unfold aCompStart compStart
  induction nt with
  | zero =>
    simp only [List.replicate_zero,List.nil_append]
    induction frs with
    | nil=>exact .nil
    | cons p frs ih=>simp only [List.map_cons];exact h.join p.2 ih
  | succ n ih=>simp only [List.replicate_succ,List.cons_append];exact .skip ih
noncomputable def aCL (J:AIt) (g:AG) (tt:AT) (te:AE) (l:Addr) (Q:AVK) (τ:ASt) (A:AHp):Prop:=∃ W:Nat->Nat->ASt->AHp->Prop,(∃ m,W 0 m τ A) /\
  ∀ i m τ A,W i m τ A->(J i A none/\Q (.ref l) A)\/∃ u,J i A (some u)/\g u τ A fun τ2 A2=>tt τ2 A2 fun ok A3 =>
    if ok=true then te τ2 A3 fun y A4=>∃ ys,A4 l=some (.lst ys)/\ys.length < sizeLine/\∃ m',m' < m/\W (i + 1) m' τ2 (updA A4 l (.lst (ys++[y]))) else ∃ m',m' < m/\W (i + 1) m' τ2 A3
noncomputable def aComp (nt:Nat) (frs:List (Str × Nat)) (wi:AI) (g:AG) (tt:AT) (te:AE):AE:=fun ρ A Q=>wi ρ A fun J A1=>∀ l,A1 l=none->aCL J g tt te l Q (aCompStart nt frs ρ) (updA A1 l (.lst []))
theorem ab_comp {nt:Nat} {frs:List (Str × Nat)} {wi:TI} {g:TG} {tt:TT} {te:TE} {ai:AI} {ag:AG} {at':AT} {ae:AE} (hi:AbI K wi ai) (hg:AbG K g ag) (ht:AbT K tt at') (he:AbE K te ae):AbE K (tComp nt frs wi g tt te) (aComp nt frs ai ag at' ae):=fun ρ A σ H Q' Q hs g0 w k=>by
  refine hi ρ A σ H _ _ hs g0 w fun aj A1 J H1 k1 g1 hj q=>?_
  intro l hl
  obtain ⟨W,⟨m0,w0⟩,turn⟩:=q l (g1.none hl)
  have kl:Kp K H1 (upd H1 l (.lst [])):=(Same.upd_new hl).kp
  refine ⟨fun i m τ H2=>∃ τ' A2,Kp K H1 H2/\HR K H2 A2/\RSt K H2 τ' τ/\W i m τ' A2,⟨m0,_,_,kl,g1.newL hl .nil,(hs.same (k1.trans kl)).comp nt frs,w0⟩,?_⟩
  rintro i m τ H2 ⟨τ',A2,k2,g2,s2,w2⟩
  have k12:=k1.trans k2
  rcases turn i m τ' A2 w2 with ⟨hstop,q⟩ | ⟨u,hgo,q⟩
  . exact .inl ⟨hj i A2 H2 _ k2 g2 hstop,k _ _ _ _ k12 g2 (.ref l) q⟩
  . obtain ⟨j1,j2⟩:=hj i A2 H2 _ k2 g2 hgo
    refine .inr ⟨j1,fun x H3 hy=>?_⟩
    obtain ⟨k3,g3,r3⟩:=j2 x H3 hy
    refine hg _ _ _ _ _ _ _ _ r3 (s2.same k3) g3 q fun ρ4 A4 σ4 H4 k4 g4 s4 q4=>ht ρ4 A4 σ4 H4 _ _ s4 g4 q4 fun b A5 H5 k5 g5 q5=>?_
    have k25:=k2.trans (k3.trans (k4.trans k5))
    cases b
    . refine iteN (by decide) ?_
      obtain ⟨m',hm,w'⟩:=(by simpa using q5:∃ m',m' < m/\W (i + 1) m' ρ4 A5)
      exact ⟨m',hm,_,_,k25,g5,s4.same k5,w'⟩
    . refine iteP rfl (he ρ4 A5 σ4 H5 _ _ (s4.same k5) g5 (by simpa using q5) fun y A6 v6 H6 k6 g6 r6 q6=>?_)
      obtain ⟨ys,hA,hz,m',hm,w'⟩:=q6
      obtain ⟨vs,h6,r7⟩:=g6.list hA
      exact ⟨vs,h6,by rw [<- r7.length];exact hz,m',hm,_,_,k25.trans (k6.trans (Kp.lst h6)),g6.setL h6 (r7.app (.one r6)),(s4.same (k5.trans (k6.trans (Kp.lst h6)))),w'⟩
end
end L2
namespace L2
open PySem PySem.Spec PyProof.Rows
section
variable {K:PySem.W.Frag}
noncomputable def xAdd:AR2:=fun u w A Q=>match u,w with
  | .int i,.int j=>Q (.int (i + j)) A
  | .str i,.str j=>i.length + j.length<=sizeLine/\Q (.str (i++j)) A
  | .tup xs,.tup ys=>xs.length + ys.length<=sizeLine/\Q (.tup (xs++ys)) A
  | .ref a,.ref b=>∃ xs ys,A a=some (.lst xs)/\A b=some (.lst ys)/\xs.length + ys.length<=sizeLine/\∀ p,A p=none->Q (.ref p) (updA A p (.lst (xs++ys)))
  | _,_=>False
theorem ab_add:AbR K (uAddW K) xAdd:=fun x y u w A H Q' Q hu hw g h k=>by
  unfold xAdd at h
  split at h
  . cases hu;cases hw;exact k _ _ _ _ (.refl H) g (.int _) h
  . cases hu;cases hw;exact ⟨h.1,k _ _ _ _ (.refl H) g (.str _) h.2⟩
  . cases hu with
    | tup h1 r1 =>
      cases hw with
      | tup h2 r2 =>
        refine .inr ⟨_,_,h1,h2,by rw [<- r1.length,<- r2.length];exact h.1,fun p H' s hp=>k _ _ _ _ s.kp (g.grow s) (.tup hp ((r1.app r2).same s.kp)) h.2⟩
  . cases hu;cases hw
    obtain ⟨xs,ys,e1,e2,hz,q⟩:=h
    obtain ⟨vs,h1,r1⟩:=g.list e1
    obtain ⟨zs,h2,r2⟩:=g.list e2
    exact .inl ⟨vs,zs,SqL.of h1,SqL.of h2,by rw [<- r1.length,<- r2.length];exact hz,fun p hp=>k _ _ _ _ (Same.upd_new hp).kp (g.newL hp (r1.app r2)) (.ref p) (q p (g.none hp))⟩
  . exact h.elim
noncomputable def xI2 (C:Int->Int->Prop) (f:Int->Int->U):AR2:=fun u w A Q=>match u,w with
  | .int i,.int j=>C i j/\Q (f i j) A
  | _,_=>False
noncomputable def xI (f:Int->Int->U):AR2:=fun u w A Q=>match u,w with
  | .int i,.int j=>Q (f i j) A
  | _,_=>False
theorem ab_sub:AbR K uSub (xI fun i j=>.int (i - j)):=fun x y u w A H Q' Q hu hw g h k=>by
  unfold xI at h
  split at h
  . cases hu;cases hw;exact k _ _ _ _ (.refl H) g (.int _) h
  . exact h.elim
noncomputable def xMul:AR2:=fun u w A Q=>match u,w with
  | .int i,.int j=>IntMulOk i j/\Q (.int (i * j)) A
  | .ref a,.int m=>∃ xs,A a=some (.lst xs)/\-(2 ^ 63)<=m/\m < 2 ^ 63/\xs.length * m.toNat<=sizeLine/\∀ p,A p=none->Q (.ref p) (updA A p (.lst (List.replicate m.toNat xs).flatten))
  | _,_=>False
theorem RUs.flat {H:Hp} {us:List U} {vs:List V} (r:RUs K H us vs):∀ n,RUs K H (List.replicate n us).flatten (List.replicate n vs).flatten
  | 0=>.nil
  | n + 1=>by rw [List.replicate_succ,List.replicate_succ,List.flatten_cons,List.flatten_cons];exact r.app (r.flat n)
theorem ab_mul:AbR K uMulB xMul:=fun x y u w A H Q' Q hu hw g h k=>by
  unfold xMul at h
  split at h
  . cases hu;cases hw;exact ⟨h.1,k _ _ _ _ (.refl H) g (.int _) h.2⟩
  . cases hu;cases hw
    obtain ⟨xs,e1,b1,b2,hz,q⟩:=h
    obtain ⟨vs,h1,r1⟩:=g.list e1
    exact ⟨_,_,vs,rfl,rfl,h1,b1,b2,by rw [<- r1.length];exact hz,fun p hp=>k _ _ _ _ (Same.upd_new hp).kp (g.newL hp (r1.flat _)) (.ref p) (q p (g.none hp))⟩
  . exact h.elim
theorem ab_div:AbR K uDiv (xI2 CDiv fun i j=>.int (i / j)):=fun x y u w A H Q' Q hu hw g h k=>by
  unfold xI2 at h
  split at h
  . cases hu;cases hw;exact ⟨h.1,k _ _ _ _ (.refl H) g (.int _) h.2⟩
  . exact h.elim
theorem ab_mod:AbR K uMod (xI2 (fun _ j=>0 < j) fun i j=>.int (i % j)):=fun x y u w A H Q' Q hu hw g h k=>by
  unfold xI2 at h
  split at h
  . cases hu;cases hw;exact ⟨h.1,k _ _ _ _ (.refl H) g (.int _) h.2⟩
  . exact h.elim
theorem ab_pow:AbR K uPow (xI2 CPow fun i j=>.int (i ^ j.toNat)):=fun x y u w A H Q' Q hu hw g h k=>by
  unfold xI2 at h
  split at h
  . cases hu;cases hw;exact ⟨h.1,k _ _ _ _ (.refl H) g (.int _) h.2⟩
  . exact h.elim
noncomputable def xLt:AR2:=fun u w A Q=>match u,w with
  | .int i,.int j=>Q (.bl (decide (i < j))) A
  | .str i,.str j=>Q (.bl (decide (i.cps.toList < j.cps.toList))) A
  | _,_=>False
theorem ab_lt:AbR K uLt xLt:=fun x y u w A H Q' Q hu hw g h k=>by
  unfold xLt at h
  split at h
  . cases hu;cases hw;exact k _ _ _ _ (.refl H) g (.bl _) h
  . cases hu;cases hw;exact k _ _ _ _ (.refl H) g (.bl _) h
  . exact h.elim
theorem ab_le:AbR K uLe (xI fun i j=>.bl (decide (i<=j))):=fun x y u w A H Q' Q hu hw g h k=>by
  unfold xI at h
  split at h
  . cases hu;cases hw;exact k _ _ _ _ (.refl H) g (.bl _) h
  . exact h.elim
theorem ab_gt:AbR K uGt (xI fun i j=>.bl (decide (j < i))):=fun x y u w A H Q' Q hu hw g h k=>by
  unfold xI at h
  split at h
  . cases hu;cases hw;exact k _ _ _ _ (.refl H) g (.bl _) h
  . exact h.elim
theorem ab_ge:AbR K uGe (xI fun i j=>.bl (decide (j<=i))):=fun x y u w A H Q' Q hu hw g h k=>by
  unfold xI at h
  split at h
  . cases hu;cases hw;exact k _ _ _ _ (.refl H) g (.bl _) h
  . exact h.elim
mutual
inductive DU (A:AHp):U->PyData->Prop
  | non:DU A .non .none
  | bl (b:Bool):DU A (.bl b) (.bool b)
  | int (i:Int):DU A (.int i) (.int i)
  | str (x:Str):DU A (.str x) (.str x)
  | tup {us:List U} {ds:List PyData}:DUs A us ds->DU A (.tup us) (.tuple ds)
  | rol {us:List U} {ds:List PyData}:DUs A us ds->DU A (.rol us) (.list ds)
  | lst {a:Addr} {us:List U} {ds:List PyData}:A a=some (.lst us)->DUs A us ds->DU A (.ref a) (.list ds)
inductive DUs (A:AHp):List U->List PyData->Prop
  | nil:DUs A [] []
  | cons {u:U} {d:PyData} {us:List U} {ds:List PyData}:DU A u d->DUs A us ds->DUs A (u::us) (d::ds)
end
mutual
theorem DU.rep {A:AHp} {H:Hp} (g:HR K H A):∀ {u:U} {v:V} {d:PyData},DU A u d->RU K H u v->Rep K H d v:=by
  intro u v d h r
  cases h with
  | non=>cases r;exact .non
  | bl b=>cases r;exact .bl b
  | int b=>cases r;exact .int b
  | str b=>cases r;exact .str b
  | tup q=>cases r with | tup h r=>exact .tup h (DUs.reps g q r)
  | rol q=>cases r with | rol h r=>exact .lst h.sq (DUs.reps g q r)
  | lst e q =>
    cases r
    obtain ⟨vs,h,r⟩:=g.list e
    exact .lst (SqL.of h) (DUs.reps g q r)
theorem DUs.reps {A:AHp} {H:Hp} (g:HR K H A):∀ {us:List U} {vs:List V} {ds:List PyData},DUs A us ds->RUs K H us vs->Reps K H ds vs
  | _,_,_,.nil,.nil=>.nil
  | _,_,_,.cons h r,.cons q s=>.cons (DU.rep g h q) (DUs.reps g r s)
end
noncomputable def xDeep (ne:Bool) (u w:U) (A:AHp) (Q:AVK):Prop:=∃ d e,DU A u d/\DU A w e/\d.canLay0=true/\e.canLay0=true/\d.depth<=190/\Q (.bl (if ne then !PyData.eqv d e else PyData.eqv d e)) A
noncomputable def xEq:AR2:=fun u w A Q=>match u,w with
  | .int i,.int j=>Q (.bl (decide (i=j))) A
  | .str i,.str j=>Q (.bl (decide (i=j))) A
  | .bl i,.bl j=>Q (.bl (decide (i=j))) A
  | .tup us,.tup ws=>xDeep false (.tup us) (.tup ws) A Q
  | .ref a,.ref b=>xDeep false (.ref a) (.ref b) A Q
  | .rol a,.ref b=>xDeep false (.rol a) (.ref b) A Q
  | .tup us,.non=>xDeep false (.tup us) .non A Q
  | .non,.tup us=>xDeep false .non (.tup us) A Q
  | .non,.non=>Q (.bl true) A
  | .non,.str _=>Q (.bl false) A
  | .str _,.non=>Q (.bl false) A
  | _,_=>False
theorem deep_eq {x y:V} {u w:U} {A:AHp} {H:Hp} {Q':AVK} {Q:VK} {ne:Bool} (hu:RU K H u x) (hw:RU K H w y) (g:HR K H A) (h:xDeep ne u w A Q') (k:Aft K H Q' Q):rEqD K ne x y H Q:=by
  obtain ⟨d,e,h1,h2,c1,c2,dp,q⟩:=h
  exact ⟨d,e,h1.rep g hu,h2.rep g hw,c1,c2,dp,k _ _ _ _ (.refl H) g (.bl _) q⟩
theorem ab_eq:AbR K (uEqD K) xEq:=fun x y u w A H Q' Q hu hw g h k=>by
  unfold xEq at h
  split at h
  . cases hu;cases hw;exact k _ _ _ _ (.refl H) g (.bl _) h
  . cases hu;cases hw;exact k _ _ _ _ (.refl H) g (.bl _) h
  . cases hu;cases hw;exact k _ _ _ _ (.refl H) g (.bl _) h
  . have:=deep_eq hu hw g h k;cases hu;exact this
  . have:=deep_eq hu hw g h k;cases hu;exact this
  . have:=deep_eq hu hw g h k;cases hu;exact this
  . have:=deep_eq hu hw g h k;cases hu;exact this
  . have:=deep_eq hu hw g h k;cases hu;cases hw;exact this
  . cases hu;cases hw;exact k _ _ _ _ (.refl H) g (.bl _) h
  . cases hu;cases hw;exact k _ _ _ _ (.refl H) g (.bl _) h
  . cases hu;cases hw;exact k _ _ _ _ (.refl H) g (.bl _) h
  . exact h.elim
noncomputable def xNe:AR2:=fun u w A Q=>match u,w with
  | .int i,.int j=>Q (.bl (!decide (i=j))) A
  | .str i,.str j=>Q (.bl (!decide (i=j))) A
  | .bl i,.bl j=>Q (.bl (!decide (i=j))) A
  | .tup us,.tup ws=>xDeep true (.tup us) (.tup ws) A Q
  | .ref a,.ref b=>xDeep true (.ref a) (.ref b) A Q
  | .rol a,.ref b=>xDeep true (.rol a) (.ref b) A Q
  | .tup us,.non=>xDeep true (.tup us) .non A Q
  | .non,.tup us=>xDeep true .non (.tup us) A Q
  | .non,.non=>Q (.bl false) A
  | .non,.str _=>Q (.bl true) A
  | .str _,.non=>Q (.bl true) A
  | _,_=>False
theorem ab_ne:AbR K (uNeD K) xNe:=fun x y u w A H Q' Q hu hw g h k=>by
  unfold xNe at h
  split at h
  . cases hu;cases hw;exact k _ _ _ _ (.refl H) g (.bl _) h
  . cases hu;cases hw;exact k _ _ _ _ (.refl H) g (.bl _) h
  . cases hu;cases hw;exact k _ _ _ _ (.refl H) g (.bl _) h
  . have:=deep_eq hu hw g h k;cases hu;exact this
  . have:=deep_eq hu hw g h k;cases hu;exact this
  . have:=deep_eq hu hw g h k;cases hu;exact this
  . have:=deep_eq hu hw g h k;cases hu;exact this
  . have:=deep_eq hu hw g h k;cases hu;cases hw;exact this
  . cases hu;cases hw;exact k _ _ _ _ (.refl H) g (.bl _) h
  . cases hu;cases hw;exact k _ _ _ _ (.refl H) g (.bl _) h
  . cases hu;cases hw;exact k _ _ _ _ (.refl H) g (.bl _) h
  . exact h.elim
noncomputable def U.isNon:U->Bool
  | .non=>true
  | _=>false
noncomputable def xIsN:AR2:=fun u w A Q=>w=.non/\Q (.bl u.isNon) A
noncomputable def xNotN:AR2:=fun u w A Q=>w=.non/\Q (.bl (!u.isNon)) A
theorem ab_isN:AbR K (fun x y H Q=>y=.non/\Q (.bl (decide (x=.non))) H) xIsN:=fun x y u w A H Q' Q hu hw g hq0 k=>by
  obtain ⟨e,h⟩:=hq0
  subst e;cases hw
  refine ⟨rfl,?_⟩
  have:decide (x=V.non)=u.isNon:=by cases hu <;> simp [U.isNon]
  rw [this]
  exact k _ _ _ _ (.refl H) g (.bl _) h
theorem ab_notN:AbR K (fun x y H Q=>y=.non/\Q (.bl (!decide (x=.non))) H) xNotN:=fun x y u w A H Q' Q hu hw g hq0 k=>by
  obtain ⟨e,h⟩:=hq0
  subst e;cases hw
  refine ⟨rfl,?_⟩
  have:decide (x=V.non)=u.isNon:=by cases hu <;> simp [U.isNon]
  rw [this]
  exact k _ _ _ _ (.refl H) g (.bl _) h
noncomputable def U.flat:U->Bool
  | .non=>true
  | .bl _=>true
  | .int _=>true
  | .str _=>true
  | _=>false
noncomputable def U.toV:U->V
  | .bl b=>.bl b
  | .int i=>.int i
  | .str x=>.str x
  | _=>.non
theorem RU.flat {H:Hp} {u:U} {v:V} (h:RU K H u v) (f:u.flat=true):v=u.toV/\flatV v=true:=by
  cases h <;> first | exact ⟨rfl,rfl⟩ | cases f
theorem RUs.flats {H:Hp}:∀ {us:List U} {vs:List V},RUs K H us vs->us.all U.flat=true->vs=us.map U.toV/\vs.all flatV=true
  | _,_,.nil,_=>⟨rfl,rfl⟩
  | _, _,.cons h r,f=>by
    rw [List.all_cons,Bool.and_eq_true] at f
    obtain ⟨e1,f1⟩:=h.flat f.1
    obtain ⟨e2,f2⟩:=RUs.flats r f.2
    exact ⟨by rw [List.map_cons,e1,e2],by rw [List.all_cons,f1,f2];rfl⟩
noncomputable def inU (u:U) (us:List U):Bool:=inV u.toV (us.map U.toV)
noncomputable def xInB (neg:Bool):AR2:=fun u w A Q=>match w with
  | .str j=>∃ i,u=.str i/\Q (.bl (if neg then !occ j i else occ j i)) A
  | .tup us=>u.flat=true/\us.all U.flat=true/\Q (.bl (if neg then !inU u us else inU u us)) A
  | .rol us=>u.flat=true/\us.all U.flat=true/\Q (.bl (if neg then !inU u us else inU u us)) A
  | .ref a=>∃ us,A a=some (.lst us)/\u.flat=true/\us.all U.flat=true/\Q (.bl (if neg then !inU u us else inU u us)) A
  | _=>False
noncomputable abbrev xIn:=xInB false
noncomputable abbrev xNin:=xInB true
theorem in_ref {x:V} {p:Addr} {H:Hp} {Q:VK} {xs:List V} (fx:flatV x=true) (h:∃ xs,Sq K H p xs/\flatV x=true/\xs.all flatV=true/\Q (.bl (inV x xs)) H):uIn K x (.ref p) H Q:=by
  cases x <;> exact h
theorem nin_ref {x:V} {p:Addr} {H:Hp} {Q:VK} {xs:List V} (fx:flatV x=true) (h:∃ xs,Sq K H p xs/\flatV x=true/\xs.all flatV=true/\Q (.bl (!inV x xs)) H):uNin K x (.ref p) H Q:=by
  cases x <;> exact h
theorem in_go {x:V} {u:U} {us:List U} {vs:List V} {p:Addr} {H:Hp} {A:AHp} {Q':AVK} {Q:VK} (hu:RU K H u x) (hs:Sq K H p vs) (r:RUs K H us vs) (g:HR K H A) (f:u.flat=true) (fs:us.all U.flat=true) (h:Q' (.bl (inU u us)) A) (k:Aft K H Q' Q):uIn K x (.ref p) H Q:=by
  obtain ⟨e1,f1⟩:=hu.flat f
  obtain ⟨e2,f2⟩:=r.flats fs
  refine in_ref (xs:=vs) f1 ⟨vs,hs,f1,f2,k _ _ _ _ (.refl H) g (.bl _) ?_⟩
  rw [e1,e2];exact h
theorem nin_go {x:V} {u:U} {us:List U} {vs:List V} {p:Addr} {H:Hp} {A:AHp} {Q':AVK} {Q:VK} (hu:RU K H u x) (hs:Sq K H p vs) (r:RUs K H us vs) (g:HR K H A) (f:u.flat=true) (fs:us.all U.flat=true) (h:Q' (.bl (!inU u us)) A) (k:Aft K H Q' Q):uNin K x (.ref p) H Q:=by
  obtain ⟨e1,f1⟩:=hu.flat f
  obtain ⟨e2,f2⟩:=r.flats fs
  refine nin_ref (xs:=vs) f1 ⟨vs,hs,f1,f2,k _ _ _ _ (.refl H) g (.bl _) ?_⟩
  rw [e1,e2];exact h
theorem ab_in:AbR K (uIn K) xIn:=fun x y u w A H Q' Q hu hw g h k=>by
  unfold xIn xInB at h
  split at h
  . obtain ⟨i,rfl,h⟩:=h
    cases hw;cases hu;exact k _ _ _ _ (.refl H) g (.bl _) h
  . cases hw with
    | tup h1 r1=>exact in_go hu (.inr h1) r1 g h.1 h.2.1 h.2.2 k
  . cases hw with
    | rol h1 r1=>exact in_go hu (.inl h1.sq) r1 g h.1 h.2.1 h.2.2 k
  . cases hw
    obtain ⟨us,e,h⟩:=h
    obtain ⟨vs,h1,r1⟩:=g.list e
    exact in_go hu (.inl (SqL.of h1)) r1 g h.1 h.2.1 h.2.2 k
  . exact h.elim
theorem ab_nin:AbR K (uNin K) xNin:=fun x y u w A H Q' Q hu hw g h k=>by
  unfold xNin xInB at h
  split at h
  . obtain ⟨i,rfl,h⟩:=h
    cases hw;cases hu;exact k _ _ _ _ (.refl H) g (.bl _) h
  . cases hw with
    | tup h1 r1=>exact nin_go hu (.inr h1) r1 g h.1 h.2.1 h.2.2 k
  . cases hw with
    | rol h1 r1=>exact nin_go hu (.inl h1.sq) r1 g h.1 h.2.1 h.2.2 k
  . cases hw
    obtain ⟨us,e,h⟩:=h
    obtain ⟨vs,h1,r1⟩:=g.list e
    exact nin_go hu (.inl (SqL.of h1)) r1 g h.1 h.2.1 h.2.2 k
  . exact h.elim
theorem RUs.at {H:Hp} {us:List U} {vs:List V} {i:Int} {u:U} (r:RUs K H us vs) (h:atI us i=some u):∃ v,atI vs i=some v/\RU K H u v:=by
  unfold atI at h ⊢
  rw [<- r.length]
  cases e:ixN us.length i with
  | none=>rw [e] at h;cases h
  | some j=>rw [e] at h;exact r.get' h
noncomputable def xIx:AR2:=fun u w A Q=>match u,w with
  | .str z,.int i=>z.length<=sizeLine/\∃ c,atI z.cps.toList i=some c/\Q (.str ⟨#[c]⟩) A
  | .tup us,.int i=>∃ x,atI us i=some x/\Q x A
  | .rol us,.int i=>∃ x,atI us i=some x/\Q x A
  | .ref a,.int i=>∃ us x,A a=some (.lst us)/\atI us i=some x/\Q x A
  | _,_=>False
theorem ab_ix:AbR K (uIx K) xIx:=fun x y u w A H Q' Q hu hw g h k=>by
  unfold xIx at h
  split at h
  . cases hu;cases hw
    obtain ⟨hz,c,e,h⟩:=h
    exact ⟨hz,c,e,k _ _ _ _ (.refl H) g (.str _) h⟩
  . cases hw
    obtain ⟨x,e,h⟩:=h
    cases hu with
    | tup h1 r1 =>
      obtain ⟨v,e2,rv⟩:=r1.at e
      exact ⟨_,v,.inr h1,e2,k _ _ _ _ (.refl H) g rv h⟩
  . cases hw
    obtain ⟨x,e,h⟩:=h
    cases hu with
    | rol h1 r1 =>
      obtain ⟨v,e2,rv⟩:=r1.at e
      exact ⟨_,v,.inl h1.sq,e2,k _ _ _ _ (.refl H) g rv h⟩
  . cases hw;cases hu
    obtain ⟨us,x,e0,e,h⟩:=h
    obtain ⟨vs,h1,r1⟩:=g.list e0
    obtain ⟨v,e2,rv⟩:=r1.at e
    exact ⟨_,v,.inl (SqL.of h1),e2,k _ _ _ _ (.refl H) g rv h⟩
  . exact h.elim
noncomputable def cutU (xs:List U) (lo hi:Option Int):List U:=(xs.drop (HT.sIx xs.length 0 lo)).take (HT.sIx xs.length xs.length hi - HT.sIx xs.length 0 lo)
theorem RUs.cut {H:Hp} {us:List U} {vs:List V} (r:RUs K H us vs) (lo hi:Option Int):RUs K H (cutU us lo hi) (cutV vs lo hi):=by
  unfold cutU cutV
  rw [r.length]
  exact (r.drop _).take _
noncomputable def xSl:U->Option Int->Option Int->AHp->AVK->Prop:=fun u lo hi A Q=>match u with
  | .str z=>z.length<=sizeLine/\Q (.str (cutS z lo hi)) A
  | .tup us=>Q (.tup (cutU us lo hi)) A
  | .rol us=>∀ p,A p=none->Q (.ref p) (updA A p (.lst (cutU us lo hi)))
  | .ref a=>∃ us,A a=some (.lst us)/\∀ p,A p=none->Q (.ref p) (updA A p (.lst (cutU us lo hi)))
  | _=>False
theorem ab_xsl:AbSl K (uSlW K) xSl:=fun x u lo hi A H Q' Q hu g h k=>by
  unfold xSl at h
  split at h
  . cases hu;exact ⟨h.1,k _ _ _ _ (.refl H) g (.str _) h.2⟩
  . cases hu with
    | tup h1 r1=>exact .inr ⟨_,h1,fun p H' s hp=>k _ _ _ _ s.kp (g.grow s) (.tup hp ((r1.cut lo hi).same s.kp)) h⟩
  . cases hu with
    | rol h1 r1=>exact .inl ⟨_,h1.sq,fun p hp=>k _ _ _ _ (Same.upd_new hp).kp (g.newL hp (r1.cut lo hi)) (.ref p) (h p (g.none hp))⟩
  . cases hu
    obtain ⟨us,e,h⟩:=h
    obtain ⟨vs,h1,r1⟩:=g.list e
    exact .inl ⟨_,SqL.of h1,fun p hp=>k _ _ _ _ (Same.upd_new hp).kp (g.newL hp (r1.cut lo hi)) (.ref p) (h p (g.none hp))⟩
  . exact h.elim
noncomputable def xLen:List U->AHp->AVK->Prop:=fun us A Q=>match us with
  | [.str z]=>z.length<=sizeLine/\Q (.int z.length) A
  | [.tup us]=>Q (.int us.length) A
  | [.rol us]=>Q (.int us.length) A
  | [.ref a]=>∃ us,A a=some (.lst us)/\Q (.int us.length) A
  | _=>False
theorem RUs.inv1 {H:Hp} {u:U} {vs:List V} (h:RUs K H [u] vs):∃ v,vs=[v]/\RU K H u v:=by
  cases h with
  | cons h r=>cases r;exact ⟨_,rfl,h⟩
theorem RUs.inv2 {H:Hp} {u w:U} {vs:List V} (h:RUs K H [u,w] vs):∃ v x,vs=[v,x]/\RU K H u v/\RU K H w x:=by
  cases h with
  | cons h r=>obtain ⟨x,rfl,r'⟩:=r.inv1;exact ⟨_,x,rfl,h,r'⟩
theorem ab_len:AbL K (uLen K) xLen:=fun xs us A H Q' Q r g h k=>by
  unfold xLen at h
  split at h
  . obtain ⟨v,rfl,r'⟩:=r.inv1;cases r';exact ⟨h.1,k _ _ _ _ (.refl H) g (.int _) h.2⟩
  . obtain ⟨v,rfl,r'⟩:=r.inv1
    cases r' with
    | tup h1 r1=>exact ⟨_,.inr h1,k _ _ _ _ (.refl H) g (.int _) (by rw [<- r1.length];exact h)⟩
  . obtain ⟨v,rfl,r'⟩:=r.inv1
    cases r' with
    | rol h1 r1=>exact ⟨_,.inl h1.sq,k _ _ _ _ (.refl H) g (.int _) (by rw [<- r1.length];exact h)⟩
  . obtain ⟨v,rfl,r'⟩:=r.inv1
    cases r'
    obtain ⟨us,e,h⟩:=h
    obtain ⟨vs,h1,r1⟩:=g.list e
    exact ⟨_,.inl (SqL.of h1),k _ _ _ _ (.refl H) g (.int _) (by rw [<- r1.length];exact h)⟩
  . exact h.elim
noncomputable def xMin:List U->AHp->AVK->Prop:=fun us A Q=>match us with
  | [.int i,.int j]=>Q (.int (min i j)) A
  | [.ref a]=>∃ ns:List Int,A a=some (.lst (ns.map U.int))/\1<=ns.length/\∀ m,m∈ns->(∀ x∈ns,m<=x)->Q (.int m) A
  | _=>False
noncomputable def xMax:List U->AHp->AVK->Prop:=fun us A Q=>match us with
  | [.int i,.int j]=>Q (.int (max i j)) A
  | [.ref a]=>∃ ns:List Int,A a=some (.lst (ns.map U.int))/\1<=ns.length/\∀ m,m∈ns->(∀ x∈ns,x<=m)->Q (.int m) A
  | _=>False
theorem ab_min:AbL K (uMinA K) xMin:=fun xs us A H Q' Q r g h k=>by
  unfold xMin at h
  split at h
  . obtain ⟨v,x,rfl,r1,r2⟩:=r.inv2;cases r1;cases r2;exact k _ _ _ _ (.refl H) g (.int _) h
  . obtain ⟨v,rfl,r'⟩:=r.inv1;cases r'
    obtain ⟨ns,e,hn,h⟩:=h
    obtain ⟨vs,h1,r1⟩:=g.list e
    exact ⟨ns,SqL.of (by rw [h1,r1.ints]),hn,fun m hm hx=>k _ _ _ _ (.refl H) g (.int _) (h m hm hx)⟩
  . exact h.elim
theorem ab_max:AbL K (uMaxA K) xMax:=fun xs us A H Q' Q r g h k=>by
  unfold xMax at h
  split at h
  . obtain ⟨v,x,rfl,r1,r2⟩:=r.inv2;cases r1;cases r2;exact k _ _ _ _ (.refl H) g (.int _) h
  . obtain ⟨v,rfl,r'⟩:=r.inv1;cases r'
    obtain ⟨ns,e,hn,h⟩:=h
    obtain ⟨vs,h1,r1⟩:=g.list e
    exact ⟨ns,SqL.of (by rw [h1,r1.ints]),hn,fun m hm hx=>k _ _ _ _ (.refl H) g (.int _) (h m hm hx)⟩
  . exact h.elim
noncomputable def xSum:List U->AHp->AVK->Prop:=fun us A Q=>match us with
  | [.ref a]=>∃ ns:List Int,A a=some (.lst (ns.map U.int))/\Q (.int ns.sum) A
  | _=>False
theorem ab_sum:AbL K (uSum K) xSum:=fun xs us A H Q' Q r g h k=>by
  unfold xSum at h
  split at h
  . obtain ⟨v,rfl,r'⟩:=r.inv1;cases r'
    obtain ⟨ns,e,h⟩:=h
    obtain ⟨vs,h1,r1⟩:=g.list e
    exact ⟨ns,SqL.of (by rw [h1,r1.ints]),k _ _ _ _ (.refl H) g (.int _) h⟩
  . exact h.elim
noncomputable def xListOf:List U->AHp->AVK->Prop:=fun us A Q=>match us with
  | [.tup us]=>∀ p,A p=none->Q (.ref p) (updA A p (.lst us))
  | [.rol us]=>∀ p,A p=none->Q (.ref p) (updA A p (.lst us))
  | [.ref a]=>∃ us,A a=some (.lst us)/\∀ p,A p=none->Q (.ref p) (updA A p (.lst us))
  | _=>False
theorem ab_listof:AbL K (uListOf K) xListOf:=fun xs us A H Q' Q r g h k=>by
  unfold xListOf at h
  split at h
  . obtain ⟨v,rfl,r'⟩:=r.inv1
    cases r' with
    | tup h1 r1=>exact ⟨_,.inr h1,fun p hp=>k _ _ _ _ (Same.upd_new hp).kp (g.newL hp r1) (.ref p) (h p (g.none hp))⟩
  . obtain ⟨v,rfl,r'⟩:=r.inv1
    cases r' with
    | rol h1 r1=>exact ⟨_,.inl h1.sq,fun p hp=>k _ _ _ _ (Same.upd_new hp).kp (g.newL hp r1) (.ref p) (h p (g.none hp))⟩
  . obtain ⟨v,rfl,r'⟩:=r.inv1
    cases r'
    obtain ⟨us,e,h⟩:=h
    obtain ⟨vs,h1,r1⟩:=g.list e
    exact ⟨_,.inl (SqL.of h1),fun p hp=>k _ _ _ _ (Same.upd_new hp).kp (g.newL hp r1) (.ref p) (h p (g.none hp))⟩
  . exact h.elim
noncomputable def xTupOf:List U->AHp->AVK->Prop:=fun us A Q=>match us with
  | [.tup us]=>Q (.tup us) A
  | [.rol us]=>Q (.tup us) A
  | [.ref a]=>∃ us,A a=some (.lst us)/\Q (.tup us) A
  | _=>False
theorem ab_tupof:AbL K (uTupOf K) xTupOf:=fun xs us A H Q' Q r g h k=>by
  unfold xTupOf at h
  split at h
  . obtain ⟨v,rfl,r'⟩:=r.inv1
    cases r' with
    | tup h1 r1=>exact ⟨_,.inr ⟨h1,k _ _ _ _ (.refl H) g (.tup h1 r1) h⟩⟩
  . obtain ⟨v,rfl,r'⟩:=r.inv1
    cases r' with
    | @rol _ zs _ h1 r1 =>
      refine ⟨_,.inl ⟨h1.sq,fun p hp=>?_⟩⟩
      have s:=Same.upd_new (o:=.tup zs) hp
      exact k _ _ _ _ s.kp (g.grow s) (.tup (SqT.of upd_same) (r1.same s.kp)) h
  . obtain ⟨v,rfl,r'⟩:=r.inv1
    cases r'
    obtain ⟨us,e,h⟩:=h
    obtain ⟨vs,h1,r1⟩:=g.list e
    refine ⟨_,.inl ⟨SqL.of h1,fun p hp=>?_⟩⟩
    have s:=Same.upd_new (o:=.tup vs) hp
    exact k _ _ _ _ s.kp (g.grow s) (.tup (SqT.of upd_same) (r1.same s.kp)) h
  . exact h.elim
noncomputable def xInt:List U->AHp->AVK->Prop:=fun us A Q=>match us with
  | [.int i]=>Q (.int i) A
  | [.bl k]=>Q (.int (if k then 1 else 0)) A
  | _=>False
theorem ab_xint:AbL K uInt xInt:=fun xs us A H Q' Q r g h k=>by
  unfold xInt at h
  split at h
  . obtain ⟨v,rfl,r'⟩:=r.inv1;cases r';exact k _ _ _ _ (.refl H) g (.int _) h
  . obtain ⟨v,rfl,r'⟩:=r.inv1;cases r';exact k _ _ _ _ (.refl H) g (.int _) h
  . exact h.elim
theorem ab_neg:AbU K (rU fun i=>.int (-i)) (fun u A Q=>∃ i,u=.int i/\Q (.int (-i)) A):=fun x u A H Q' Q r g hq0 k=>by
  obtain ⟨i,e,h⟩:=hq0
  subst e;cases r;exact ⟨i,rfl,k _ _ _ _ (.refl H) g (.int _) h⟩
noncomputable def isLst:U->AHp->Prop:=fun u A=>match u with
  | .ref a=>∃ us,A a=some (.lst us)
  | _=>False
theorem ab_isLst:AbY K "list" isLst:=fun x u A H r g h=>by
  unfold isLst at h
  split at h
  . cases r
    obtain ⟨us,e⟩:=h
    obtain ⟨vs,h1,r1⟩:=g.list e
    exact .inl ⟨rfl,vs,SqL.of h1⟩
  . exact h.elim
noncomputable def isTupU:U->AHp->Prop:=fun u _=>match u with
  | .tup _=>True
  | _=>False
noncomputable def mApp:U->List U->AHp->AVK->Prop:=fun u us A Q=>match u,us with
  | .ref a,[w]=>∃ xs,A a=some (.lst xs)/\xs.length < sizeLine/\Q .non (updA A a (.lst (xs++[w])))
  | _,_=>False
theorem ab_mapp:AbMt K rAppend mApp:=fun x u xs us A H Q' Q r rs g h k=>by
  unfold mApp at h
  split at h
  . cases r
    obtain ⟨v,rfl,rv⟩:=rs.inv1
    obtain ⟨zs,e,hz,h⟩:=h
    obtain ⟨vs,h1,r1⟩:=g.list e
    exact ⟨_,vs,_,rfl,rfl,h1,by rw [<- r1.length];exact hz,k _ _ _ _ (Kp.lst h1) (g.setL h1 (r1.app (.one rv))) .non h⟩
  . exact h.elim
noncomputable def mPop:U->List U->AHp->AVK->Prop:=fun u us A Q=>match u,us with
  | .ref a,[]=>∃ xs y,A a=some (.lst (xs++[y]))/\Q y (updA A a (.lst xs))
  | _,_=>False
theorem ab_mpop:AbMt K rPop mPop:=fun x u xs us A H Q' Q r rs g h k=>by
  unfold mPop at h
  split at h
  . cases r;cases rs
    obtain ⟨zs,y,e,h⟩:=h
    obtain ⟨vs,h1,r1⟩:=g.list e
    have hl:=r1.length
    rw [List.length_append,List.length_singleton] at hl
    obtain ⟨v,hv,rv⟩:=r1.get' (i:=zs.length) (u:=y) (by simp)
    refine ⟨_,vs,v,rfl,rfl,h1,by rw [<- hl];exact hv,k _ _ _ _ (Kp.lst h1) (g.setL h1 ?_) (rv.same (Kp.lst h1)) h⟩
    have:=r1.dropLast
    rw [List.dropLast_concat] at this
    exact this
  . exact h.elim
noncomputable def bSetL (o i:AE):AG:=fun u ρ A Q=>o ρ A fun x A1=>i ρ A1 fun y A2=>∃ a us m j,x=.ref a/\y=.int m/\A2 a=some (.lst us)/\ixN us.length m=some j/\Q ρ (updA A2 a (.lst (us.set j u)))
theorem ab_setl {to ti:TE} {ao ai:AE} (ho:AbE K to ao) (hi:AbE K ti ai):AbG K (gSub to ti rSetL) (bSetL ao ai):=fun u v ρ A σ H Q' Q r hs g w k =>
  ho ρ A σ H _ _ hs g w fun x A1 v1 H1 k1 g1 r1 q1=>hi ρ A1 σ H1 _ _ (hs.same k1) g1 q1 fun y A2 v2 H2 k2 g2 r2 hq0=>by
    obtain ⟨a,us,m,j,e1,e2,eA,ej,q⟩:=hq0
    subst e1 e2
    cases r1;cases r2
    obtain ⟨vs,h1,r1⟩:=g2.list eA
    refine ⟨_,vs,_,j,rfl,rfl,h1,by rw [<- r1.length];exact ej,k _ _ _ _ (k1.trans (k2.trans (Kp.lst h1))) (g2.setL h1 (r1.set (r.same (k1.trans k2)) j)) (hs.same (k1.trans (k2.trans (Kp.lst h1)))) q⟩
noncomputable def aTupRev (a:AE):AE:=fun ρ A Q=>a ρ A fun x A1=>∃ p us,x=.ref p/\A1 p=some (.lst us)/\Q (.tup us.reverse) A1
theorem ab_tuprev {t:TE} {a:AE} (ha:AbE K t a):AbE K (tTupRev K t) (aTupRev a):=fun ρ A σ H Q' Q hs g w k =>
  ha ρ A σ H _ _ hs g w fun x A1 v H1 k1 g1 r1 hq0=>by
    obtain ⟨p,us,e,eA,q⟩:=hq0
    subst e;cases r1
    obtain ⟨vs,h1,r1⟩:=g1.list eA
    refine ⟨p,vs,rfl,SqL.of h1,fun q2 hp=>?_⟩
    have s:=Same.upd_new (o:=.tup vs.reverse) hp
    exact k _ _ _ _ (k1.trans s.kp) (g1.grow s) (.tup (SqT.of upd_same) (r1.rev.same s.kp)) q
end
end L2
namespace L2
open PySem PySem.Spec PyProof.Rows
theorem cutU_tail (x:U) (xs:List U):cutU (x::xs) (some 1) none=xs:=by
  unfold cutU
  have:HT.sIx (x::xs).length 0 (some 1)=1:=by
    have:=HT.sIx_nat (x::xs).length 0 1
    rw [show ((1:Nat):Int)=1 from rfl] at this
    rw [this,List.length_cons];lia
  rw [this,HT.sIx_none,List.drop_succ_cons,List.drop_zero,List.length_cons,Nat.add_sub_cancel,List.take_length]
section
variable {u:U} {ρ:ASt} {A:AHp} {Q:AVK} {a b:AE} {c d:AT} {B:Bool->AHp->Prop} {l:AA} {L:List U->AHp->Prop} {D:AEnds}
theorem q_var0 :(aVar 0 (some u::ρ) A Q)=(Q u A):=rfl
theorem q_nm0 {a0:Option U} {g:ASt->AHp->Prop} :(bName 0 u (a0::ρ) A g)=(g (some u::ρ) A):=rfl
theorem q_get0 {k:U->Prop} :(aGet (some u::ρ) 0 k)=(k u):=rfl
theorem q_varS {i:Nat} {a0:Option U}:(aVar (i + 1) (a0::ρ) A Q)=(aVar i ρ A Q):=rfl
theorem q_nmS {i:Nat} {a0:Option U} {g:ASt->AHp->Prop}:(bName (i + 1) u (a0::ρ) A g)=(bName i u ρ A fun ρ2 A2=>g (a0::ρ2) A2):=rfl
theorem q_getS {i:Nat} {a0:Option U} {k:U->Prop}:(aGet (a0::ρ) (i + 1) k)=(aGet ρ i k):=rfl
theorem q_var1 {a0:Option U} :(aVar 1 (a0::some u::ρ) A Q)=(Q u A):=rfl
theorem q_c :(aC u ρ A Q)=(Q u A):=rfl
theorem q_op {r:AR2}:(aOp r a b ρ A Q)=(a ρ A fun x A1=>b ρ A1 fun y A2=>r x y A2 Q):=rfl
theorem q_un {r:U->AHp->AVK->Prop}:(aUn r a ρ A Q)=(a ρ A fun x A1=>r x A1 Q):=rfl
theorem q_tb :(aB a ρ A B)=(a ρ A fun x A1=>∃ c,x=.bl c/\B c A1):=rfl
theorem q_bl {k:Bool} {F:Bool->Prop}:(∃ c,U.bl k=.bl c/\F c)=(F k):=by simp
theorem q_int {i:Int} {F:Int->Prop}:(∃ c,U.int i=.int c/\F c)=(F i):=by simp
theorem q_and :(aAnd c d ρ A B)=(c ρ A fun k A1=>if k=true then d ρ A1 B else B false A1):=rfl
theorem q_or :(aOr c d ρ A B)=(c ρ A fun k A1=>if k=true then B true A1 else d ρ A1 B):=rfl
theorem q_not :(aNot c ρ A B)=(c ρ A fun k A1=>B (!k) A1):=rfl
theorem q_andv :(aAndV a b ρ A Q)=(a ρ A fun x A1=>∃ k,x=.bl k/\if k=true then b ρ A1 Q else Q (.bl false) A1):=rfl
theorem q_if :(aIf c a b ρ A Q)=(c ρ A fun k A1=>if k=true then a ρ A1 Q else b ρ A1 Q):=rfl
theorem q_chain {r r2:AR2} {e:AE}:(aChain r r2 a b e ρ A Q)=(a ρ A fun x A1=>b ρ A1 fun y A2=>r x y A2 fun z A3=>∃ k,z=.bl k/\(if k=true then e ρ A3 fun w A4=>r2 y w A4 Q else Q (.bl false) A3)):=rfl
theorem q_true :(aTrue ρ A B)=(B true A):=rfl
theorem q_nil :(aNil ρ A L)=(L [] A):=rfl
theorem q_cons :(aCons a l ρ A L)=(a ρ A fun x A1=>l ρ A1 fun xs A2=>L (x::xs) A2):=rfl
theorem q_const {us:List U}:(aConst us ρ A L)=(L us A):=rfl
theorem q_tup :(aTup l ρ A Q)=(l ρ A fun xs A1=>xs.length<=sizeLine/\Q (.tup xs) A1):=rfl
theorem q_lst :(aLst l ρ A Q)=(l ρ A fun xs A1=>xs.length<=sizeLine/\∀ p,A1 p=none->Q (.ref p) (updA A1 p (.lst xs))):=rfl
theorem q_cb {r:List U->AHp->AVK->Prop}:(aCB r l ρ A Q)=(l ρ A fun us A1=>r us A1 Q):=rfl
theorem q_call {sp:ASp}:(aCall sp l ρ A Q)=(l ρ A fun us A1=>sp us A1 Q):=rfl
theorem q_nopart {O:Option Int->AHp->Prop}:(aNoPart ρ A O)=(O none A):=rfl
theorem q_part {O:Option Int->AHp->Prop}:(aPart a ρ A O)=(a ρ A fun x A1=>∃ i,x=.int i/\O (some i) A1):=rfl
theorem q_sl {r:U->Option Int->Option Int->AHp->AVK->Prop} {lo hi:AP1}:(aSl r a lo hi ρ A Q)=(a ρ A fun x A1=>lo ρ A1 fun i A2=>hi ρ A2 fun j A3=>r x i j A3 Q):=rfl
theorem q_bm0 {y:U->AHp->Prop} {r:U->List U->AHp->AVK->Prop}:(aBM0 y r a ρ A Q)=(a ρ A fun x A1=>y x A1/\r x [] A1 Q):=rfl
theorem q_bm {y:U->AHp->Prop} {r:U->List U->AHp->AVK->Prop}:(aBM y r a l ρ A Q)=(a ρ A fun x A1=>y x A1/\l ρ A1 fun us A2=>r x us A2 Q):=rfl
theorem q_next :(aNext D ρ A)=(D.nx ρ A):=rfl
theorem q_seq {t t2:AS}:(aSeq t t2 D ρ A)=(t { D with nx:=t2 D } ρ A):=rfl
theorem q_drop :(aDrop a D ρ A)=(a ρ A fun _ A1=>D.nx ρ A1):=rfl
theorem q_ret :(aRet a D ρ A)=(a ρ A D.rt):=rfl
theorem q_ifs {t t2:AS}:(aIfS c t t2 D ρ A)=(c ρ A fun k A1=>if k=true then t D ρ A1 else t2 D ρ A1):=rfl
theorem q_asg {g:AG}:(aAsg a g D ρ A)=(a ρ A fun x A1=>g x ρ A1 D.nx):=rfl
theorem q_par {i j:Nat}:(aPar i j l D ρ A)=(l ρ A fun us A1=>∃ v w,us=[v,w]/\D.nx ((ρ.set i (some v)).set j (some w)) A1):=rfl
theorem q_two {v w:U} {F:U->U->Prop}:(∃ a b,[v,w]=[a,b]/\F a b)=(F v w):=propext ⟨fun hq0=>by obtain ⟨a,b,e,h⟩:=hq0;injection e with e1 e2;injection e2 with e2 _;subst e1 e2;exact h,fun h=>⟨_,_,rfl,h⟩⟩
theorem q_for {wi:AI} {g:AG} {t:AS}:(aFor wi g t D ρ A)=(wi ρ A fun J A1=>aLoop J g t D ρ A1):=rfl
theorem q_jof {y:U->AHp->(AIt->AHp->Prop)->Prop} {R:AIt->AHp->Prop}:(aJof y a ρ A R)=(a ρ A fun x A1=>y x A1 R):=rfl
theorem q_jargs {y:List U->AHp->(AIt->AHp->Prop)->Prop} {R:AIt->AHp->Prop}:(aJargs y l ρ A R)=(l ρ A fun us A1=>y us A1 R):=rfl
theorem q_ylr {R:AIt->AHp->Prop} {p:Addr}:(yList (.ref p) A R)=((∃ us,A p=some (.lst us))/\R (jLst p) A):=rfl
theorem q_ylo {R:AIt->AHp->Prop} {us:List U}:(yList (.rol us) A R)=(R (jFix us) A):=rfl
theorem q_yt {R:AIt->AHp->Prop} {us:List U}:(yTup (.tup us) A R)=(R (jFix us) A):=rfl
theorem q_yr1 {R:AIt->AHp->Prop} {j:Int}:(yRng1 [.int j] A R)=(-(2 ^ 62)<=j/\j < 2 ^ 62/\R (jFix (rngU 0 j.toNat)) A):=rfl
theorem q_yer {R:AIt->AHp->Prop} {p:Addr}:(yEnum [.ref p] A R)=((∃ us,A p=some (.lst us))/\R (jEnum p) A):=rfl
theorem q_yeo {R:AIt->AHp->Prop} {us:List U}:(yEnum [.rol us] A R)=(R (jFix (enU us)) A):=rfl
theorem q_yet {R:AIt->AHp->Prop} {us:List U}:(yEnumT [.tup us] A R)=(R (jFix (enU us)) A):=rfl
theorem q_jrev {R:AIt->AHp->Prop}:(aJrev a ρ A R)=(a ρ A fun x A1=>∃ p us,x=.ref p/\A1 p=some (.lst us)/\R (jRevA p us.length) A1):=rfl
theorem q_comp {nt:Nat} {frs:List (Str × Nat)} {wi:AI} {g:AG} {tt:AT} {te:AE}:(aComp nt frs wi g tt te ρ A Q)=(wi ρ A fun J A1=>∀ l,A1 l=none->aCL J g tt te l Q (aCompStart nt frs ρ) (updA A1 l (.lst []))):=rfl
theorem q_gtup {n:Nat} {t:AGs} {N:ASt->AHp->Prop} {us:List U}:(bTup n t (.tup us) ρ A N)=(us.length=n/\t us ρ A N):=propext ⟨fun hq0=>by obtain ⟨vs,e,h⟩:=hq0;cases e;exact h,fun h=>⟨_,rfl,h⟩⟩
theorem q_gcons {t:AG} {ts:AGs} {N:ASt->AHp->Prop} {us:List U}:(bCons t ts (u::us) ρ A N)=(t u ρ A fun ρ2 A2=>ts us ρ2 A2 N):=propext ⟨fun hq0=>by obtain ⟨v,r,e,h⟩:=hq0;cases e;exact h,fun h=>⟨_,_,rfl,h⟩⟩
theorem q_gnil {N:ASt->AHp->Prop}:(bNil [] ρ A N)=(N ρ A):=propext ⟨fun h=>h.2,fun h=>⟨rfl,h⟩⟩
theorem q_addi {i j:Int}:(xAdd (.int i) (.int j) A Q)=(Q (.int (i + j)) A):=rfl
theorem q_adds {x y:Str}:(xAdd (.str x) (.str y) A Q)=(x.length + y.length<=sizeLine/\Q (.str (x++y)) A):=rfl
theorem q_addt {us ws:List U}:(xAdd (.tup us) (.tup ws) A Q)=(us.length + ws.length<=sizeLine/\Q (.tup (us++ws)) A):=rfl
theorem q_addr {p q:Addr}:(xAdd (.ref p) (.ref q) A Q)=(∃ xs ys,A p=some (.lst xs)/\A q=some (.lst ys)/\xs.length + ys.length<=sizeLine/\∀ p,A p=none->Q (.ref p) (updA A p (.lst (xs++ys)))):=rfl
theorem q_xi {i j:Int} {f:Int->Int->U}:(xI f (.int i) (.int j) A Q)=(Q (f i j) A):=rfl
theorem q_xi2 {i j:Int} {f:Int->Int->U} {C:Int->Int->Prop}:(xI2 C f (.int i) (.int j) A Q)=(C i j/\Q (f i j) A):=rfl
theorem q_mul {i j:Int}:(xMul (.int i) (.int j) A Q)=(IntMulOk i j/\Q (.int (i * j)) A):=rfl
theorem q_rep {p:Addr} {m:Int}:(xMul (.ref p) (.int m) A Q)=(∃ xs,A p=some (.lst xs)/\-(2 ^ 63)<=m/\m < 2 ^ 63/\xs.length * m.toNat<=sizeLine/\∀ p,A p=none->Q (.ref p) (updA A p (.lst (List.replicate m.toNat xs).flatten))):=rfl
theorem q_lti {i j:Int}:(xLt (.int i) (.int j) A Q)=(Q (.bl (decide (i < j))) A):=rfl
theorem q_lts {x y:Str}:(xLt (.str x) (.str y) A Q)=(Q (.bl (decide (x.cps.toList < y.cps.toList))) A):=rfl
theorem q_eqi {i j:Int}:(xEq (.int i) (.int j) A Q)=(Q (.bl (decide (i=j))) A):=rfl
theorem q_eqs {x y:Str}:(xEq (.str x) (.str y) A Q)=(Q (.bl (decide (x=y))) A):=rfl
theorem q_eqb {k m:Bool}:(xEq (.bl k) (.bl m) A Q)=(Q (.bl (decide (k=m))) A):=rfl
theorem q_eqt {us ws:List U}:(xEq (.tup us) (.tup ws) A Q)=(xDeep false (.tup us) (.tup ws) A Q):=rfl
theorem q_eqr {p q:Addr}:(xEq (.ref p) (.ref q) A Q)=(xDeep false (.ref p) (.ref q) A Q):=rfl
theorem q_eqtn {us:List U}:(xEq (.tup us) .non A Q)=(xDeep false (.tup us) .non A Q):=rfl
theorem q_eqnt {us:List U}:(xEq .non (.tup us) A Q)=(xDeep false .non (.tup us) A Q):=rfl
theorem q_eqnn :(xEq .non .non A Q)=(Q (.bl true) A):=rfl
theorem q_eqns {x:Str}:(xEq .non (.str x) A Q)=(Q (.bl false) A):=rfl
theorem q_eqsn {x:Str}:(xEq (.str x) .non A Q)=(Q (.bl false) A):=rfl
theorem q_nei {i j:Int}:(xNe (.int i) (.int j) A Q)=(Q (.bl (!decide (i=j))) A):=rfl
theorem q_nes {x y:Str}:(xNe (.str x) (.str y) A Q)=(Q (.bl (!decide (x=y))) A):=rfl
theorem q_neb {k m:Bool}:(xNe (.bl k) (.bl m) A Q)=(Q (.bl (!decide (k=m))) A):=rfl
theorem q_net {us ws:List U}:(xNe (.tup us) (.tup ws) A Q)=(xDeep true (.tup us) (.tup ws) A Q):=rfl
theorem q_ner {p q:Addr}:(xNe (.ref p) (.ref q) A Q)=(xDeep true (.ref p) (.ref q) A Q):=rfl
theorem q_netn {us:List U}:(xNe (.tup us) .non A Q)=(xDeep true (.tup us) .non A Q):=rfl
theorem q_nent {us:List U}:(xNe .non (.tup us) A Q)=(xDeep true .non (.tup us) A Q):=rfl
theorem q_nenn :(xNe .non .non A Q)=(Q (.bl false) A):=rfl
theorem q_nens {x:Str}:(xNe .non (.str x) A Q)=(Q (.bl true) A):=rfl
theorem q_nesn {x:Str}:(xNe (.str x) .non A Q)=(Q (.bl true) A):=rfl
theorem q_isn :(xIsN u .non A Q)=(Q (.bl u.isNon) A):=propext ⟨fun h=>h.2,fun h=>⟨rfl,h⟩⟩
theorem q_notn :(xNotN u .non A Q)=(Q (.bl (!u.isNon)) A):=propext ⟨fun h=>h.2,fun h=>⟨rfl,h⟩⟩
theorem q_int_ {us:List U}:(xInB false u (.tup us) A Q)=(u.flat=true/\us.all U.flat=true/\Q (.bl (inU u us)) A):=rfl
theorem q_nint_ {us:List U}:(xInB true u (.tup us) A Q)=(u.flat=true/\us.all U.flat=true/\Q (.bl (!inU u us)) A):=rfl
theorem q_inr_ {p:Addr}:(xInB false u (.ref p) A Q)=(∃ us,A p=some (.lst us)/\u.flat=true/\us.all U.flat=true/\Q (.bl (inU u us)) A):=rfl
theorem q_ninr_ {p:Addr}:(xInB true u (.ref p) A Q)=(∃ us,A p=some (.lst us)/\u.flat=true/\us.all U.flat=true/\Q (.bl (!inU u us)) A):=rfl
theorem q_ins_ {x y:Str}:(xInB false (.str x) (.str y) A Q)=(Q (.bl (occ y x)) A):=propext ⟨fun hq0=>by obtain ⟨i,e,h⟩:=hq0;cases e;exact h,fun h=>⟨_,rfl,h⟩⟩
theorem q_nins_ {x y:Str}:(xInB true (.str x) (.str y) A Q)=(Q (.bl (!occ y x)) A):=propext ⟨fun hq0=>by obtain ⟨i,e,h⟩:=hq0;cases e;exact h,fun h=>⟨_,rfl,h⟩⟩
theorem q_ixs {z:Str} {i:Int}:(xIx (.str z) (.int i) A Q)=(z.length<=sizeLine/\∃ c,atI z.cps.toList i=some c/\Q (.str ⟨#[c]⟩) A):=rfl
theorem q_ix0 {us:List U}:(xIx (.tup (u::us)) (.int 0) A Q)=(Q u A):=propext ⟨fun hq0=>by obtain ⟨x,e,h⟩:=hq0;rw [show atI (u::us) 0=some u from atI_nat (j:=0) rfl] at e;cases e;exact h,fun h=>⟨_,atI_nat (j:=0) rfl,h⟩⟩
theorem q_ix1 {w:U} {us:List U}:(xIx (.tup (u::w::us)) (.int 1) A Q)=(Q w A):=propext ⟨fun hq0=>by obtain ⟨x,e,h⟩:=hq0;rw [show atI (u::w::us) 1=some w from atI_nat (j:=1) rfl] at e;cases e;exact h,fun h=>⟨_,atI_nat (j:=1) rfl,h⟩⟩
theorem q_ix2 {w x:U} {us:List U}:(xIx (.tup (u::w::x::us)) (.int 2) A Q)=(Q x A):=propext ⟨fun hq0=>by obtain ⟨z,e,h⟩:=hq0;rw [show atI (u::w::x::us) 2=some x from atI_nat (j:=2) rfl] at e;cases e;exact h,fun h=>⟨_,atI_nat (j:=2) rfl,h⟩⟩
theorem q_ixt {us:List U} {i:Int}:(xIx (.tup us) (.int i) A Q)=(∃ x,atI us i=some x/\Q x A):=rfl
theorem q_ixo {us:List U} {i:Int}:(xIx (.rol us) (.int i) A Q)=(∃ x,atI us i=some x/\Q x A):=rfl
theorem q_ixr {p:Addr} {i:Int}:(xIx (.ref p) (.int i) A Q)=(∃ us x,A p=some (.lst us)/\atI us i=some x/\Q x A):=rfl
theorem q_sls {lo hi:Option Int} {z:Str}:(xSl (.str z) lo hi A Q)=(z.length<=sizeLine/\Q (.str (cutS z lo hi)) A):=rfl
theorem q_slt1 {us:List U}:(xSl (.tup (u::us)) (some 1) none A Q)=(Q (.tup us) A):=by show Q (.tup (cutU (u::us) (some 1) none)) A=_;rw [cutU_tail]
theorem q_slt {lo hi:Option Int} {us:List U}:(xSl (.tup us) lo hi A Q)=(Q (.tup (cutU us lo hi)) A):=rfl
theorem q_slo {lo hi:Option Int} {us:List U}:(xSl (.rol us) lo hi A Q)=(∀ p,A p=none->Q (.ref p) (updA A p (.lst (cutU us lo hi)))):=rfl
theorem q_slr {lo hi:Option Int} {p:Addr}:(xSl (.ref p) lo hi A Q)=(∃ us,A p=some (.lst us)/\∀ p,A p=none->Q (.ref p) (updA A p (.lst (cutU us lo hi)))):=rfl
theorem q_lens {z:Str}:(xLen [.str z] A Q)=(z.length<=sizeLine/\Q (.int z.length) A):=rfl
theorem q_lent {us:List U}:(xLen [.tup us] A Q)=(Q (.int us.length) A):=rfl
theorem q_leno {us:List U}:(xLen [.rol us] A Q)=(Q (.int us.length) A):=rfl
theorem q_lenr {p:Addr}:(xLen [.ref p] A Q)=(∃ us,A p=some (.lst us)/\Q (.int us.length) A):=rfl
theorem q_min2 {i j:Int}:(xMin [.int i,.int j] A Q)=(Q (.int (min i j)) A):=rfl
theorem q_max2 {i j:Int}:(xMax [.int i,.int j] A Q)=(Q (.int (max i j)) A):=rfl
theorem q_minl {p:Addr}:(xMin [.ref p] A Q)=(∃ ns:List Int,A p=some (.lst (ns.map U.int))/\1<=ns.length/\∀ m,m∈ns->(∀ x∈ns,m<=x)->Q (.int m) A):=rfl
theorem q_maxl {p:Addr}:(xMax [.ref p] A Q)=(∃ ns:List Int,A p=some (.lst (ns.map U.int))/\1<=ns.length/\∀ m,m∈ns->(∀ x∈ns,x<=m)->Q (.int m) A):=rfl
theorem q_sum {p:Addr}:(xSum [.ref p] A Q)=(∃ ns:List Int,A p=some (.lst (ns.map U.int))/\Q (.int ns.sum) A):=rfl
theorem q_lot {us:List U}:(xListOf [.tup us] A Q)=(∀ p,A p=none->Q (.ref p) (updA A p (.lst us))):=rfl
theorem q_loo {us:List U}:(xListOf [.rol us] A Q)=(∀ p,A p=none->Q (.ref p) (updA A p (.lst us))):=rfl
theorem q_lor {p:Addr}:(xListOf [.ref p] A Q)=(∃ us,A p=some (.lst us)/\∀ p,A p=none->Q (.ref p) (updA A p (.lst us))):=rfl
theorem q_tot {us:List U}:(xTupOf [.tup us] A Q)=(Q (.tup us) A):=rfl
theorem q_tor {p:Addr}:(xTupOf [.ref p] A Q)=(∃ us,A p=some (.lst us)/\Q (.tup us) A):=rfl
theorem q_xint {i:Int}:(xInt [.int i] A Q)=(Q (.int i) A):=rfl
theorem q_isl {p:Addr}:(isLst (.ref p) A)=(∃ us,A p=some (.lst us)):=rfl
theorem q_ist {us:List U}:(isTupU (.tup us) A)=(True):=rfl
theorem q_app {p:Addr}:(mApp (.ref p) [u] A Q)=(∃ xs,A p=some (.lst xs)/\xs.length < sizeLine/\Q .non (updA A p (.lst (xs++[u])))):=rfl
theorem q_pop {p:Addr}:(mPop (.ref p) [] A Q)=(∃ xs y,A p=some (.lst (xs++[y]))/\Q y (updA A p (.lst xs))):=rfl
theorem q_setl {N:ASt->AHp->Prop} {o i:AE}:(bSetL o i u ρ A N)=(o ρ A fun x A1=>i ρ A1 fun y A2=>∃ a us m j,x=.ref a/\y=.int m/\A2 a=some (.lst us)/\ixN us.length m=some j/\N ρ (updA A2 a (.lst (us.set j u)))):=rfl
theorem q_tuprev :(aTupRev a ρ A Q)=(a ρ A fun x A1=>∃ p us,x=.ref p/\A1 p=some (.lst us)/\Q (.tup us.reverse) A1):=rfl
theorem q_neg {i:Int}:((fun (u:U) (A:AHp) (Q:AVK)=>∃ i,u=.int i/\Q (.int (-i)) A) (.int i) A Q)=(Q (.int (-i)) A):=by simp
end
end L2
namespace L2
open PySem PySem.Spec PyProof.Rows
noncomputable def Ext (A A':AHp):Prop:=∀ a o,A a=some o->A' a=some o
theorem Ext.refl (A:AHp):Ext A A:=fun _ _ h=>h
theorem Ext.trans {A B C:AHp} (h:Ext A B) (k:Ext B C):Ext A C:=fun a o e=>k a o (h a o e)
theorem Ext.new {A:AHp} {l:Addr} {o:AO} (h:A l=none):Ext A (updA A l o):=fun b u e=>by
  rw [updA_ne (fun z=>by rw [z,h] at e;cases e)];exact e
theorem HR.ext {K:PySem.W.Frag} {H:Hp} {A A':AHp} (e:Ext A A') (h:HR K H A'):HR K H A:=fun a o q=>h a o (e a o q)
noncomputable def Fg (Q:AVK):AVK:=fun u A=>∃ A',Ext A' A/\Q u A'
noncomputable def aStart (N:List Str) (us:List U):ASt:=us.map some++List.replicate (N.length - us.length) none
section
variable {P:Program} {w:World} {K:PySem.W.Frag} {mg:Str->Option Value} {base:Heap}
theorem RSt.nones {H:Hp}:∀ n,RSt K H (List.replicate n none) (List.replicate n none)
  | 0=>.nil
  | n + 1=>.skip (RSt.nones n)
theorem RSt.start {H:Hp} (N:List Str) {us:List U} {vs:List V} (r:RUs K H us vs):RSt K H (aStart N us) (L2.start N vs):=by
  unfold aStart L2.start
  rw [r.length]
  generalize N.length - vs.length=n
  induction us generalizing vs with
  | nil=>cases r;exact RSt.nones n
  | cons u us ih =>
    cases r with
    | cons h r=>exact .cons h (ih r)
theorem Fun.okA {x qual:Str} {st:Stmt} {f:Addr} {fd:FuncData} {N ps:List Str} {k:Nat} {asp:ASp} {sc:Scope} {body:List Stmt} {as:AS} (F:Fun K x qual st f fd) (hs:defScope st=sc) (hb:defBody st=body) (S:FnScope N ps (defScope st))
    (hbody:FnScope N ps sc->∀ (cdv:Value) (A:Around) (outer:List Env) (s:Shared) (H:Hp) (E:XK),Room k (A.deeper (envOfC qual sc s.heap.objs.size f cdv)) ->
      ∃ t,PSs (cxOf CX0 P w K mg base N qual sc f cdv A outer s H E).nox body t/\AbS K t as)
    (hsp:∀ us A Q,asp us A Q->us.length=ps.length/\as { nx:=fun _ A'=>Fg Q .non A',rt:=Fg Q } (aStart N us) A):FnOk P w K mg base CX0 (k + 1) f fd ps (spOf K asp):=by
  refine F.ok2 hs hb S (fun vs H Q E ⟨us,A,Q',r,g,h,_⟩=>?_) fun S cdv A outer s H vs Q E hr ⟨us,A',Q',r,g,h,k⟩=>?_
  . rw [<- r.length];exact (hsp us A Q' h).1
  . obtain ⟨t,ht,ha⟩:=hbody S cdv A outer s H E hr
    exact ⟨t,ht,ha _ _ _ _ _ _ (RSt.start N r) g (hsp us A' Q' h).2 ⟨fun ρ A σ H' k' g' s' ⟨A3,e,q'⟩=>k _ _ _ _ k' (g'.ext e) .non q',fun u A v H' k' g' r' ⟨A3,e,q'⟩=>k _ _ _ _ k' (g'.ext e) r' q',fun _ _ _ _ _ _ _ q=>q.elim,fun _ _ _ _ _ _ _ q=>q.elim⟩⟩
noncomputable def aspLaw:ASp:=fun us A Q=>∃ ns:List Int,us=[.rol (ns.map U.int)]/\ns.length<=63/\∀ A',Q (.bl true) A'
theorem law_in {H:Hp} {a:Addr} {ns:List Int} {E:XK} (hl:ns.length<=63) (hO:Only H) (hS:SqL K H a (ns.map V.int)):spOf K aspLaw [.ref a] H (fun v _=>v=.bl true) E:=by
  have hR:SqR K H a (ns.map V.int):=by
    rcases hS with (h | h) | h
    . rcases hO a with e | ⟨o,xs,e⟩ <;> rw [e] at h <;> cases h
    . exact .inl h
    . exact .inr h
  exact ⟨[.rol (ns.map U.int)],fun _=>none,fun u _=>u=.bl true,.one (.rol hR RUs.of_ints),(fun a o e=>by cases e),⟨ns,rfl,hl,fun _=>rfl⟩,fun u A v H' _ _ r e=>by subst e;cases r;rfl⟩
end
noncomputable def truU:U->AHp->(Bool->AHp->Prop)->Prop:=fun x A1 Q=>match x with
  | .ref p=>∃ us,A1 p=some (.lst us)/\Q (!us.isEmpty) A1
  | .tup us=>Q (!us.isEmpty) A1
  | .bl b=>Q b A1
  | .int i=>Q (i != 0) A1
  | .non=>Q false A1
  | _=>False
noncomputable def aTru (a:AE):AT:=fun ρ A Q=>a ρ A fun x A1=>truU x A1 Q
theorem q_tru {a:AE} {ρ:ASt} {A:AHp} {B:Bool->AHp->Prop}:(aTru a ρ A B)=(a ρ A fun x A1=>truU x A1 B):=rfl
theorem q_trul {A:AHp} {B:Bool->AHp->Prop} {p:Addr}:(truU (.ref p) A B)=(∃ us,A p=some (.lst us)/\B (!us.isEmpty) A):=rfl
theorem q_trut {A:AHp} {B:Bool->AHp->Prop} {us:List U}:(truU (.tup us) A B)=(B (!us.isEmpty) A):=rfl
theorem q_trub {A:AHp} {B:Bool->AHp->Prop} {k:Bool}:(truU (.bl k) A B)=(B k A):=rfl
section
variable {J:AIt} {g:AG} {b:AS} {D:AEnds} {ρ:ASt} {A:AHp}
theorem for_J (items:List U) (Pv:Nat->ASt->AHp->Prop) (h0:Pv 0 ρ A) (hJ:∀ k ρ A,k<=items.length->Pv k ρ A->J k A items[k]?)
    (hs:∀ k u ρ A,items[k]? = some u->Pv k ρ A->g u ρ A fun ρ2 A2=>b { D with nx:=Pv (k + 1),ct:=Pv (k + 1),bk:=D.nx } ρ2 A2) (hd:∀ ρ A,Pv items.length ρ A->D.nx ρ A):aLoop J g b D ρ A:=by
  refine ⟨fun k m ρ A=>m=items.length - k/\k<=items.length/\Pv k ρ A,⟨_,rfl,Nat.zero_le _,h0⟩,?_⟩
  rintro k m ρ A ⟨rfl,hk,p⟩
  have j:=hJ k ρ A hk p
  by_cases hlt:k < items.length
  . rw [List.getElem?_eq_getElem hlt] at j
    exact .inr ⟨_,j,Pv (k + 1),fun ρ' A' p'=>⟨items.length - (k + 1),by lia,rfl,hlt,p'⟩,hs k _ ρ A (List.getElem?_eq_getElem hlt) p⟩
  . have e:k=items.length:=by lia
    subst e
    rw [List.getElem?_eq_none (Nat.le_refl _)] at j
    exact .inl ⟨j,hd ρ A p⟩
theorem for_fix {us:List U} (Pv:Nat->ASt->AHp->Prop) (h0:Pv 0 ρ A)
    (hs:∀ k u ρ A,us[k]? = some u->Pv k ρ A->g u ρ A fun ρ2 A2=>b { D with nx:=Pv (k + 1),ct:=Pv (k + 1),bk:=D.nx } ρ2 A2) (hd:∀ ρ A,Pv us.length ρ A->D.nx ρ A):aLoop (jFix us) g b D ρ A :=
  for_J us Pv h0 (fun _ _ _ _ _=>rfl) hs hd
theorem for_enumA {a:Addr} (us:List U) (Pv:Nat->ASt->AHp->Prop) (h0:Pv 0 ρ A) (hl:∀ k ρ A,k<=us.length->Pv k ρ A->A a=some (.lst us))
    (hs:∀ (k:Nat) u ρ A,us[k]? = some u->Pv k ρ A->g (.tup [.int k,u]) ρ A fun ρ2 A2=>b { D with nx:=Pv (k + 1),ct:=Pv (k + 1),bk:=D.nx } ρ2 A2) (hd:∀ ρ A,Pv us.length ρ A->D.nx ρ A):aLoop (jEnum a) g b D ρ A :=
  for_J (enU us) Pv h0 (fun k ρ A hk p=>⟨us,hl k ρ A (by rw [enU_len] at hk;exact hk) p,rfl⟩) (fun k u ρ A hu p=>by
    rw [enU_get] at hu
    obtain ⟨x,hx,rfl⟩:=Option.map_eq_some_iff.mp hu
    exact hs k x ρ A hx p) (by rw [enU_len];exact hd)
theorem for_enumF {us:List U} (Pv:Nat->ASt->AHp->Prop) (h0:Pv 0 ρ A)
    (hs:∀ (k:Nat) u ρ A,us[k]? = some u->Pv k ρ A->g (.tup [.int k,u]) ρ A fun ρ2 A2=>b { D with nx:=Pv (k + 1),ct:=Pv (k + 1),bk:=D.nx } ρ2 A2) (hd:∀ ρ A,Pv us.length ρ A->D.nx ρ A):aLoop (jFix (enU us)) g b D ρ A :=
  for_J (enU us) Pv h0 (fun k ρ A hk p=>rfl) (fun k u ρ A hu p=>by
    rw [enU_get] at hu
    obtain ⟨x,hx,rfl⟩:=Option.map_eq_some_iff.mp hu
    exact hs k x ρ A hx p) (by rw [enU_len];exact hd)
theorem for_revA {a:Addr} (us:List U) (Pv:Nat->ASt->AHp->Prop) (h0:Pv 0 ρ A) (hl:∀ k ρ A,k<=us.length->Pv k ρ A->A a=some (.lst us))
    (hs:∀ k u ρ A,us.reverse[k]? = some u->Pv k ρ A->g u ρ A fun ρ2 A2=>b { D with nx:=Pv (k + 1),ct:=Pv (k + 1),bk:=D.nx } ρ2 A2) (hd:∀ ρ A,Pv us.length ρ A->D.nx ρ A):aLoop (jRevA a us.length) g b D ρ A :=
  for_J us.reverse Pv h0 (fun k ρ A hk p=>by
    rw [List.length_reverse] at hk
    by_cases h:k < us.length
    . rw [List.getElem?_reverse h]
      exact .inr ⟨h,us,us[us.length - 1 - k]'(by lia),hl k ρ A hk p,List.getElem?_eq_getElem (by lia),List.getElem?_eq_getElem (by lia)⟩
    . have e:k=us.length:=by lia
      subst e
      exact .inl ⟨rfl,List.getElem?_eq_none (by simp)⟩) hs (by rw [List.length_reverse];exact hd)
end
theorem neA {A:AHp} {a b:Addr} {o:AO} (h:A a=some o) (h':A b=none):a≠b:=fun e=>by rw [e,h'] at h;cases h
section
variable {J:AIt} {g:AG} {tt:AT} {te:AE} {l:Addr} {Q:AVK} {τ:ASt} {A:AHp}
theorem cl_gen (items:List U) (p:Nat->Bool) (f:Nat->U) (T:ASt->Prop) (h0:T τ) (hl:A l=none) (hn:items.length<=100000) (hJ:∀ k A2,k<=items.length->Ext A A2->J k A2 items[k]?)
    (hs : ∀ k u τ A2,items[k]? = some u->T τ->Ext A A2->∀ (Cy:ASt->U->AHp->Prop) (Cn:ASt->AHp->Prop),(p k=true->∀ τ2,T τ2->Cy τ2 (f k) A2)->(p k=false->∀ τ2,T τ2->Cn τ2 A2) ->
      g u τ A2 fun τ2 A3=>tt τ2 A3 fun ok A4=>if ok=true then te τ2 A4 (Cy τ2) else Cn τ2 A4)
    (hd:Q (.ref l) (updA A l (.lst (((List.range items.length).filter p).map f)))):aCL J g tt te l Q τ (updA A l (.lst [])):=by
  refine ⟨fun i m τ A2=>m=items.length - i/\i<=items.length/\T τ/\A2=updA A l (.lst (((List.range i).filter p).map f)),⟨_,rfl,Nat.zero_le _,h0,rfl⟩,?_⟩
  rintro i m τ A2 ⟨rfl,hi,ht,rfl⟩
  have j:=hJ i _ hi (Ext.new (o:=.lst (((List.range i).filter p).map f)) hl)
  by_cases hlt:i < items.length
  . have hu:items[i]? = some items[i]:=List.getElem?_eq_getElem hlt
    rw [hu] at j
    refine .inr ⟨_,j,hs i _ τ _ hu ht (Ext.new hl) _ _ (fun hp τ2 ht2=>⟨_,updA_same,?_,_,?_,rfl,hlt,ht2,?_⟩) (fun hp τ2 ht2=>⟨_,?_,rfl,hlt,ht2,?_⟩)⟩
    . have:(((List.range i).filter p).map f).length<=i:=by rw [List.length_map];exact Nat.le_trans (List.length_filter_le ..) (by simp)
      have:(100000:Nat) < sizeLine:=by decide
      lia
    . lia
    . rw [updA_updA,List.range_succ,List.filter_append,List.map_append];simp [hp]
    . lia
    . rw [List.range_succ,List.filter_append,List.map_append];simp [hp]
  . have e:i=items.length:=by lia
    subst e
    rw [List.getElem?_eq_none (Nat.le_refl _)] at j
    exact .inl ⟨j,hd⟩
theorem cl_map {x0:Option U} {fr:ASt} (items ys:List U) (hlen:ys.length=items.length) (hl:A l=none) (hn:items.length<=100000) (hJ:∀ k A2,k<=items.length->Ext A A2->J k A2 items[k]?)
    (hs:∀ (k:Nat) u y A2,items[k]? = some u->ys[k]? = some y->Ext A A2->∀ Cy:U->AHp->Prop,Cy y A2->te (some u::fr) A2 Cy)
    (hd:Q (.ref l) (updA A l (.lst ys))):aCL J (bName 0) aTrue te l Q (x0::fr) (updA A l (.lst [])):=by
  refine cl_gen items (fun _=>true) (fun k=>(ys[k]?).getD .non) (fun τ=>∃ x,τ=x::fr) ⟨_,rfl⟩ hl hn hJ ?_ ?_
  . rintro k u τ A2 hu ⟨x,rfl⟩ he Cy Cn hy hno
    show if true=true then te (some u::fr) A2 (Cy (some u::fr)) else Cn (some u::fr) A2
    rw [if_pos rfl]
    have hk:k < ys.length:=by rw [hlen];exact (List.getElem?_eq_some_iff.mp hu).1
    have hyk:ys[k]? = some ys[k]:=List.getElem?_eq_getElem hk
    refine hs k u _ A2 hu hyk he _ ?_
    have:=hy rfl (some u::fr) ⟨_,rfl⟩
    rw [hyk] at this
    exact this
  . have e:((List.range items.length).filter fun _=>true).map (fun k=>(ys[k]?).getD .non)=ys:=by
      rw [List.filter_eq_self.mpr (fun _ _=>rfl),<- hlen]
      apply List.ext_getElem
      . simp
      . intro i h1 h2;simp [List.getElem?_eq_getElem h2]
    rw [e];exact hd
end
section
variable {X:Cx}
noncomputable def U.tyName:U->Option String
  | .non=>some "NoneType"
  | .bl _=>some "bool"
  | .int _=>some "int"
  | .str _=>some "str"
  | .tup _=>some "tuple"
  | _=>none
inductive TyW (K:PySem.W.Frag) (H:Hp):V->Value->Prop
  | of {x:V} {t:Value}:TyOf K H x t->TyW K H x t
  | tup {a:Addr} {xs:List V}:SqT K H a xs->TyW K H (.ref a) (.type "tuple")
noncomputable def uIsW (K:PySem.W.Frag):List V->Hp->VK->Prop:=fun xs H Q=>match xs with
  | [x,.ty n]=>∃ t b,TyW K H x t/\PySem.W.kitOne K t (.type n)=some b/\Q (.bl b) H
  | [x,.ref c]=>∃ t b,TyW K H x t/\PySem.W.kitOne K t (.ref c)=some b/\Q (.bl b) H
  | _=>False
theorem c_isW:CallR X (.builtin "isinstance") (uIsW X.K):=by
  intro pins s σ H xs us Q I r h
  have go:∀ (x:V) (u t:Value) (c:Value) (b:Bool),RelV x u->TyW X.K H x t->PySem.W.kitOne X.K t c=some b->Q (.bl b) H->wpAny (model X.prog X.w) X.A (call (.builtin "isinstance") [u,c]) (EP X pins σ Q) X.xe s:=by
    intro x u t c b rx ty e q
    cases ty with
    | of ty=>exact isinst_ok I rx ty e fun tk=>⟨.bl b,H,I.tok _,rfl,q⟩
    | tup hq =>
      cases rx
      obtain ⟨its,rv,⟨o,h1,h2,h3⟩,hz⟩:=I.tuple hq
      exact PySem.W.kia_one PySem.W.kitx_tuple I.kIn ⟨o,h1,h2⟩ e (fun z=>nomatch z) fun tk=>⟨.bl b,H,I.tok _,rfl,q⟩
  unfold uIsW at h
  split at h
  . obtain ⟨t,b,ty,e,q⟩:=h
    cases r with
    | cons r1 r2 =>
      cases r2 with
      | cons r2 r3 =>
        cases r3;cases r2
        exact go _ _ _ _ _ r1 ty e q
  . obtain ⟨t,b,ty,e,q⟩:=h
    cases r with
    | cons r1 r2 =>
      cases r2 with
      | cons r2 r3 =>
        cases r3;cases r2
        exact go _ _ _ _ _ r1 ty e q
  . exact h.elim
end
section
variable {K:PySem.W.Frag}
noncomputable def isTy (u:U) (n:String):Bool:=match u with
  | .non=>n == "NoneType"
  | .bl _=>n == "bool" || n == "int"
  | .int _=>n == "int"
  | .str _=>n == "str"
  | .tup _=>n == "tuple"
  | _=>false
noncomputable def xIsi:List U->AHp->AVK->Prop:=fun us A Q=>match us with
  | [u,.ty n]=>(n="int"\/n="bool"\/n="str"\/n="tuple")/\(match u with | .rol _=>False | .ref _=>False | .ty _=>False | _=>True)/\Q (.bl (isTy u n)) A
  | _=>False
theorem ab_isi:AbL K (uIsW K) xIsi:=fun xs us A H Q' Q r g h k=>by
  unfold xIsi at h
  split at h
  . rename_i u n
    obtain ⟨hn,hu,h⟩:=h
    obtain ⟨v,x,rfl,r1,r2⟩:=r.inv2
    cases r2
    cases r1 with
    | non=>rcases hn with rfl | rfl | rfl | rfl <;> exact ⟨_,_,.of .non,rfl,k _ _ _ _ (.refl H) g (.bl _) h⟩
    | bl b=>rcases hn with rfl | rfl | rfl | rfl <;> exact ⟨_,_,.of (.bl b),rfl,k _ _ _ _ (.refl H) g (.bl _) h⟩
    | int b=>rcases hn with rfl | rfl | rfl | rfl <;> exact ⟨_,_,.of (.int b),rfl,k _ _ _ _ (.refl H) g (.bl _) h⟩
    | str b=>rcases hn with rfl | rfl | rfl | rfl <;> exact ⟨_,_,.of (.str b),rfl,k _ _ _ _ (.refl H) g (.bl _) h⟩
    | tup h1 r1=>rcases hn with rfl | rfl | rfl | rfl <;> exact ⟨_,_,.tup h1,rfl,k _ _ _ _ (.refl H) g (.bl _) h⟩
    | ty _=>exact hu.elim
    | ref _=>exact hu.elim
    | rol _ _=>exact hu.elim
  . exact h.elim
theorem q_isi {A:AHp} {Q:AVK} {u:U} {n:String}:(xIsi [u,.ty n] A Q)=((n="int"\/n="bool"\/n="str"\/n="tuple")/\(match u with | .rol _=>False | .ref _=>False | .ty _=>False | _=>True)/\Q (.bl (isTy u n)) A):=rfl
end
end L2
namespace L2
open PySem PySem.Spec PyProof.Rows
mutual
noncomputable def Wr.toU:Wr->U
  | .nothing=>.tup [.str "nothing"]
  | .bead c=>.tup [.str "bead",.str c]
  | .side b f=>.tup [.str (sname b),f.toU]
  | .pair f g=>.tup [.str "pair",f.toU,g.toU]
  | .many k ps=>.tup [.str (mname k),.tup (toUL ps)]
noncomputable def toUL:List Wr->List U
  | []=>[]
  | w::ws=>w.toU::toUL ws
end
theorem toUL_map:∀ ws:List Wr,toUL ws=ws.map Wr.toU
  | []=>rfl
  | w::ws=>by rw [toUL,List.map_cons,toUL_map ws]
theorem Wr.toU_many (k:Nat) (ps:List Wr):(Wr.many k ps).toU=.tup [.str (mname k),.tup (ps.map Wr.toU)]:=by rw [Wr.toU,toUL_map]
noncomputable def Wr.few (w:Wr):Prop:=(∀ c,w≠.bead c)/\∀ k ps,w≠.many k ps
theorem Wr.toU_few {w:Wr} (h:w.few):w.toU=.tup (.str w.name::w.parts.map Wr.toU):=by
  cases w with
  | nothing=>rfl
  | bead c=>exact absurd rfl (h.1 c)
  | side b f=>rfl
  | pair f g=>rfl
  | many k ps=>exact absurd rfl (h.2 k ps)
theorem Wr.kinds (w:Wr):(∃ c,w=.bead c)\/(∃ k ps,w=.many k ps)\/w.few:=by
  cases w with
  | bead c=>exact .inl ⟨c,rfl⟩
  | many k ps=>exact .inr (.inl ⟨k,ps,rfl⟩)
  | _=>exact .inr (.inr ⟨fun c=>by simp,fun k ps=>by simp⟩)
theorem in_manyU (k:Nat):inU (.str (mname k)) [.str "row",.str "bag",.str "choice",.str "ring"]=true:=in_many (.many k [])
theorem nin_manyU {w:Wr} (h:∀ k ps,w≠.many k ps):inU (.str w.name) [.str "row",.str "bag",.str "choice",.str "ring"]=false:=by
  have:=in_many w
  cases w with
  | many k ps=>exact absurd rfl (h k ps)
  | _=>exact this
theorem nb_name {w:Wr} (h:∀ c,w≠.bead c):decide (w.name=Str.ofString "bead")=false:=by
  have:=w.nb h
  simpa using this
theorem nbm (k:Nat):decide (mname k=Str.ofString "bead")=false:=by
  have:=nb_many k
  simpa using this
theorem tup1 {x:U}:[x].length<=sizeLine:=by show 1<=sizeLine;decide
theorem tup2 {x y:U}:[x,y].length<=sizeLine:=by show 2<=sizeLine;decide
theorem tup3 {x y z:U}:[x,y,z].length<=sizeLine:=by show 3<=sizeLine;decide
theorem line1000 {n:Nat} (h:n<=100000):n<=sizeLine:=Nat.le_trans h (by decide)
theorem line1000' {n:Nat} (h:n<=100000):n < sizeLine:=Nat.lt_of_le_of_lt h (by decide)
theorem fg {Q:AVK} {u:U} {A:AHp} (h:Q u A):Fg Q u A:=⟨A,Ext.refl A,h⟩
theorem fgx {Q:AVK} {u:U} {A A':AHp} (e:Ext A A') (h:Q u A):Fg Q u A':=⟨A,e,h⟩
theorem iteB {b:Bool} {X Y:Prop} (h1:b=true->X) (h2:b=false->Y):if b=true then X else Y:=by
  cases b
  . exact iteN (by decide) (h2 rfl)
  . exact iteP rfl (h1 rfl)
theorem iteTt {X Y:Prop} {b:Bool} (hb:b=true) (h:X):if b=true then X else Y:=iteP hb h
theorem iteFf {X Y:Prop} {b:Bool} (hb:b=false) (h:Y):if b=true then X else Y:=iteN (by rw [hb];decide) h
theorem Ext.put {A A2:AHp} {a:Addr} {o:AO} (e:Ext A A2):Ext (updA A a o) (updA A2 a o):=fun b u h=>by
  by_cases hb:b=a
  . subst hb;rw [updA_same] at h ⊢;exact h
  . rw [updA_ne hb] at h ⊢;exact e b u h
theorem Ext.none {A A2:AHp} {l:Addr} (e:Ext A A2) (h:A2 l=Option.none):A l=Option.none:=by
  cases q:A l with
  | none=>rfl
  | some v=>rw [e l v q] at h;cases h
theorem Ext.in {A A2:AHp} {l:Addr} {o:AO} (e:Ext A A2) (h:A l=Option.none):Ext A (updA A2 l o):=fun b u q=>by
  rw [updA_ne (neA q h)];exact e b u q
theorem updA_swap {A:AHp} {a l:Addr} {x y:AO} (h:a≠l):updA (updA A a x) l y=updA (updA A l y) a x:=by
  funext b
  unfold updA
  by_cases h1:b=l
  . rw [if_pos h1,if_neg (fun e=>h (e.symm.trans h1)),if_pos h1]
  . rw [if_neg h1]
    by_cases h2:b=a
    . rw [if_pos h2,if_pos h2]
    . rw [if_neg h2,if_neg h2,if_neg h1]
theorem updA_self {A:AHp} {a:Addr} {o:AO} (h:A a=some o):updA A a o=A:=by
  funext b
  by_cases hb:b=a
  . subst hb;rw [updA_same,h]
  . rw [updA_ne hb]
theorem col_atU (j:Int):∃ c:Str,atI [U.str "red",U.str "ash",U.str "blue",U.str "redder"] (j % 4)=some (.str c)/\PyData.strOk c=true:=by
  have h:j % 4=0\/j % 4=1\/j % 4=2\/j % 4=3:=by lia
  rcases h with h | h | h | h <;> rw [h]
  . exact ⟨"red",atI_nat (j:=0) rfl,by decide +kernel⟩
  . exact ⟨"ash",atI_nat (j:=1) rfl,by decide +kernel⟩
  . exact ⟨"blue",atI_nat (j:=2) rfl,by decide +kernel⟩
  . exact ⟨"redder",atI_nat (j:=3) rfl,by decide +kernel⟩
theorem side_atU {j:Int} (h0:0<=j) (h1:j < 2):∃ b:Bool,atI [U.str "left",U.str "right"] j=some (.str (sname b)):=by
  have h:j=0\/j=1:=by lia
  rcases h with h | h <;> rw [h]
  . exact ⟨false,atI_nat (j:=0) rfl⟩
  . exact ⟨true,atI_nat (j:=1) rfl⟩
theorem atI_intsU {ns:List Int} {i:Int} (h0:0<=i) (h:i < ns.length):∃ z,atI (ns.map U.int) i=some (.int z)/\ns[i.toNat]? = some z:=by
  obtain ⟨v,h1,h2⟩:=atI_lt (xs:=ns.map U.int) (i:=i) h0 (by rw [List.length_map];exact h)
  rw [List.getElem?_map] at h2
  obtain ⟨z,hz,rfl⟩:=Option.map_eq_some_iff.mp h2
  exact ⟨z,h1,hz⟩
theorem cl_popsA {l a:Addr} {Q:AVK} {A:AHp} {x0:Option U} {lo:Int} {xs ys:List U} (ha:A a=some (.lst (xs++ys))) (hl:A l=Option.none) (hn:ys.length<=100000)
    (hd:Q (.ref l) (updA (updA A a (.lst xs)) l (.lst ys.reverse))) :
    aCL (jFix (rngU lo ys.length)) (bName 0) aTrue (aBM0 isLst mPop (aVar 1)) l Q [x0,some (.ref a)] (updA A l (.lst [])):=by
  have hne:a≠l:=neA ha hl
  refine ⟨fun i m τ A2=>m=ys.length - i/\i<=ys.length/\(∃ x,τ=[x,some (.ref a)])/\A2=updA (updA A a (.lst (xs++ys.take (ys.length - i)))) l (.lst (ys.reverse.take i)),⟨_,rfl,Nat.zero_le _,⟨_,rfl⟩,?_⟩,?_⟩
  . rw [Nat.sub_zero,List.take_length,updA_self ha];rfl
  . rintro i m τ A2 ⟨rfl,hi,⟨x,rfl⟩,rfl⟩
    by_cases hlt:i < ys.length
    . refine .inr ⟨.int (lo + i),by show _=_;rw [rngU_get,if_pos hlt],?_⟩
      have e1:ys.take (ys.length - i)=ys.take (ys.length - (i + 1))++[ys[ys.length - (i + 1)]'(by lia)]:=by
        have:ys.length - i=(ys.length - (i + 1)) + 1:=by lia
        rw [this,List.take_add_one,List.getElem?_eq_getElem (by lia)];rfl
      have e2:ys.reverse.take (i + 1)=ys.reverse.take i++[ys[ys.length - (i + 1)]'(by lia)]:=by
        rw [List.take_add_one,List.getElem?_reverse hlt,show ys.length - 1 - i=ys.length - (i + 1) from by lia,List.getElem?_eq_getElem (by lia)];rfl
      rw [q_nm0,q_true,if_pos rfl,q_bm0,q_var1]
      refine ⟨⟨_,by rw [updA_ne hne,updA_same]⟩,xs++ys.take (ys.length - (i + 1)),ys[ys.length - (i + 1)]'(by lia),by rw [updA_ne hne,updA_same,e1,List.append_assoc],_,by rw [updA_ne (Ne.symm hne),updA_same],?_,ys.length - (i + 1),by lia,rfl,hlt,⟨_,rfl⟩,?_⟩
      . refine line1000' ?_
        rw [List.length_take,List.length_reverse];lia
      . rw [e2,updA_swap (A:=updA A a _) (a:=l) (l:=a) (Ne.symm hne),updA_updA,updA_updA]
    . have e:i=ys.length:=by lia
      subst e
      refine .inl ⟨by show _=_;rw [rngU_get,if_neg (by lia)],?_⟩
      rw [Nat.sub_self,List.take_zero,List.append_nil,List.take_of_length_le (by rw [List.length_reverse];exact Nat.le_refl _)]
      exact hd
theorem sum_tups (ws:List Wr):(ws.map fun w=>((w.tups:Nat):Int)).sum=tupsL ws:=by
  induction ws with
  | nil=>rfl
  | cons w ws ih=>rw [List.map_cons,List.sum_cons,ih,tupsL];push_cast;rfl
theorem map_get {α β:Type} {f:α->β} {xs:List α} {k:Nat} {u:β} (h:(xs.map f)[k]? = some u):∃ x,xs[k]? = some x/\u=f x:=by
  rw [List.getElem?_map] at h
  obtain ⟨x,hx,rfl⟩:=Option.map_eq_some_iff.mp h
  exact ⟨x,hx,rfl⟩
theorem cl_mapW {α:Type} {J:AIt} {te:AE} {l:Addr} {Q:AVK} {A:AHp} {x0:Option U} {fr:ASt} (xs:List α) (f g:α->U) (hl:A l=Option.none) (hn:xs.length<=100000) (hJ:∀ k A2,k<=xs.length->Ext A A2->J k A2 (xs.map f)[k]?)
    (hs:∀ (x:α) A2,x∈xs->Ext A A2->∀ Cy:U->AHp->Prop,Cy (g x) A2->te (some (f x)::fr) A2 Cy)
    (hd:Q (.ref l) (updA A l (.lst (xs.map g)))):aCL J (bName 0) aTrue te l Q (x0::fr) (updA A l (.lst [])):=by
  refine cl_map (xs.map f) (xs.map g) (by simp) hl (by simpa using hn) (fun k A2 hk he=>hJ k A2 (by simpa using hk) he) (fun k u y A2 hu hy he Cy hc=>?_) hd
  obtain ⟨x,hx,rfl⟩:=map_get hu
  obtain ⟨x',hx',rfl⟩:=map_get hy
  rw [hx] at hx';cases hx'
  exact hs x A2 (List.mem_of_getElem? hx) he Cy hc
theorem none_yet {P:Program} {w:World} {K:PySem.W.Frag} {mg:Str->Option Value} {base:Heap} {x qual:Str} {st:Stmt} {f:Addr} {fd:FuncData} {N ps:List Str} {k:Nat} {asp:ASp} (F:Fun K x qual st f fd) (S:FnScope N ps (defScope st)) (h:∀ us A Q,¬ asp us A Q):FnOk P w K mg base CX0 k f fd ps (spOf K asp) :=
  ⟨fun vs H Q E ⟨us,A,Q',_,_,q,_⟩=>(h us A Q' q).elim,fun A outer s H args us vs Q E _ _ _ _ ⟨ws,A',Q',_,_,q,_⟩=>(h ws A' Q' q).elim⟩
end L2
namespace L2
open PySem PySem.Spec PyProof.Rows
end L2
namespace L2
open PySem PySem.Spec PyProof.Rows
mutual
noncomputable def Wr.keyU:Wr->U
  | .nothing=>.tup [.int 0,.int 0]
  | .bead c=>.tup [.int 1,.int 1,.str c]
  | .side b f=>.tup [.int f.size,.int (Wr.side b f).kidx,f.keyU]
  | .pair f g=>.tup [.int (Wr.pair f g).size,.int 4,f.keyU,g.keyU]
  | .many k ps=>.tup (.int (sizeL ps)::.int (Wr.many k ps).kidx::keyUL ps)
noncomputable def keyUL:List Wr->List U
  | []=>[]
  | w::ws=>w.keyU::keyUL ws
end
theorem keyUL_map:∀ ws:List Wr,keyUL ws=ws.map Wr.keyU
  | []=>rfl
  | w::ws=>by rw [keyUL,List.map_cons,keyUL_map ws]
mutual
noncomputable def U.pl:U->Bool
  | .int _=>true
  | .str _=>true
  | .tup us=>decide (us.length<=1000) && plL us
  | _=>false
noncomputable def plL:List U->Bool
  | []=>true
  | u::us=>u.pl && plL us
end
mutual
noncomputable def U.dp:U->Nat
  | .tup us=>1 + dpL us
  | _=>0
noncomputable def dpL:List U->Nat
  | []=>0
  | u::us=>max u.dp (dpL us)
end
mutual
theorem Wr.key_dp:∀ w:Wr,w.keyU.dp<=w.dep
  | .nothing=>by simp [Wr.keyU,U.dp,dpL,Wr.dep]
  | .bead c=>by simp [Wr.keyU,U.dp,dpL,Wr.dep]
  | .side b f=>by have:=f.key_dp;simp [Wr.keyU,U.dp,dpL,Wr.dep];lia
  | .pair f g=>by have:=f.key_dp;have:=g.key_dp;simp [Wr.keyU,U.dp,dpL,Wr.dep];lia
  | .many k ps=>by have:=keyL_dp ps;simp [Wr.keyU,U.dp,dpL,Wr.dep];lia
theorem keyL_dp:∀ ws:List Wr,dpL (keyUL ws)<=depL ws
  | []=>Nat.le_refl _
  | w::ws=>by have:=w.key_dp;have:=keyL_dp ws;simp only [keyUL,dpL,depL];lia
end
section
variable {A:AHp}
mutual
theorem Wr.duW:∀ w:Wr,DU A w.toU w.toD
  | .nothing=>.tup (.cons (.str _) .nil)
  | .bead c=>.tup (.cons (.str _) (.cons (.str _) .nil))
  | .side b f=>.tup (.cons (.str _) (.cons f.duW .nil))
  | .pair f g=>.tup (.cons (.str _) (.cons f.duW (.cons g.duW .nil)))
  | .many k ps=>.tup (.cons (.str _) (.cons (.tup (duWL ps)) .nil))
theorem duWL:∀ ws:List Wr,DUs A (toUL ws) (toDL ws)
  | []=>.nil
  | w::ws=>.cons w.duW (duWL ws)
end
end
end L2
namespace L2
open PySem PySem.Spec PyProof.Rows
noncomputable def uSeqI (K:PySem.W.Frag):V->Hp->(It->Hp->Prop)->Prop:=fun x H R=>uList K x H R\/uTupI K x H R
section
variable {X:Cx} {tg a:Expr} {te:TE} {ta:TA} {p pos tp:Pos} {elts:List Expr} {k0:Nat}
theorem pj_seq (hl:PE X a te):PI X tg a (jOf (uSeqI X.K) te):=by
  intro pins s σ H R I h
  refine thn (hl pins s σ H _ I h) fun v s1 h_q=>?_
  obtain ⟨x,H1,I1,r1,q1⟩:=h_q
  have fp:∀ b∈[s1.heap.objs.size],FpOk X pins H1 b:=fun b hb=>by
    obtain rfl:b=s1.heap.objs.size:=by simpa using hb
    exact I1.fpOk (Nat.le_refl _) (I1.hok.fresh (Nat.le_refl _))
  have J1:∀ o,Inv X pins σ H1 { s1 with heap:=s1.heap.push o }:=fun o=>I1.kept (t':=s1.toks) fun b u e=>Heap.get?_push_of_some _ e
  cases x with
  | ref l =>
    cases r1
    rcases q1 with ⟨⟨xs,hq⟩,q⟩ | ⟨⟨xs,hq⟩,q⟩
    . obtain ⟨its,rv,pl,hz⟩:=I1.list hq
      exact wpAny_pyIter_list pl.isList ⟨s1.heap.objs.size,[s1.heap.objs.size],_,_,H1,rfl,J1 _,turn_list l _,⟨_,Heap.get?_push_size _ rfl,rfl,rfl⟩,fp,q⟩
    . obtain ⟨its,rv,pl,hz⟩:=I1.tuple hq
      exact wpAny_pyIter_tuple (show s1.heap.IsTuple l its.toArray from pl) ⟨s1.heap.objs.size,[s1.heap.objs.size],_,_,H1,rfl,J1 _,turn_tuple l _,⟨_,Heap.get?_push_size _ rfl,rfl,rfl⟩,fp,q⟩
  | _=>rcases q1 with q | q <;> exact q.elim
noncomputable def uEnumS (K:PySem.W.Frag):List V->Hp->(It->Hp->Prop)->Prop:=fun vs H R=>uEnum K vs H R\/uEnumT K vs H R
theorem pj_enumS (hg:Gl X "enumerate") (hm:X.mg "enumerate"=none) (ha:PA X [a] ta) (hs:starEach [a] X.env=[(false,eval a X.env)]:=by rfl) :
    PI X (.Tuple elts k0 tp) (.Call (.Name "enumerate" p) [a] [] pos) (jArgs (uEnumS X.K) ta):=by
  intro pins s σ H R I h
  refine Call_ (ld_blt I hg hm boot_enumerate (PyProof.Rows.callWith_type1 (thn (ha pos pins s σ H _ I h) fun us s1 ⟨vs,H1,I1,r1,q1⟩=>?_) hs rfl))
  have fp:∀ b∈[s1.heap.objs.size + 1,s1.heap.objs.size],FpOk X pins H1 b:=fun b hb=>by
    have hb':s1.heap.objs.size<=b:=by
      simp only [List.mem_cons,List.not_mem_nil,or_false] at hb
      rcases hb with e | e <;> subst e <;> first | exact Nat.le_add_right _ _ | exact Nat.le_refl _
    exact I1.fpOk hb' (I1.hok.fresh hb')
  rcases q1 with q1 | q1
  . unfold uEnum at q1
    split at q1
    . obtain ⟨⟨xs,hx⟩,q⟩:=q1
      cases r1 with
      | cons r rr =>
        cases rr;cases r
        obtain ⟨its,rv,pl,_⟩:=I1.list hx
        exact call_enumerate_list pl.isList fun h' a1 a2 a3 hk=>wpAny_pyIter_enum a1 ⟨s1.heap.objs.size + 1,_,_,_,H1,rfl,I1.kept (t':=s1.toks) hk,turn_enum (Nat.succ_ne_self _),⟨⟨_,a1⟩,a2⟩,fp,q⟩
    . exact q1.elim
  . unfold uEnumT at q1
    split at q1
    . obtain ⟨⟨xs,hx⟩,q⟩:=q1
      cases r1 with
      | cons r rr =>
        cases rr;cases r
        obtain ⟨its,rv,pl,_⟩:=I1.tuple hx
        exact call_enum_tup pl fun h' a1 a2 hk=>wpAny_pyIter_enum a1 ⟨s1.heap.objs.size + 1,_,_,_,H1,rfl,I1.kept (t':=s1.toks) hk,turn_enumT (Nat.succ_ne_self _),⟨⟨_,a1⟩,a2⟩,fp,q⟩
    . exact q1.elim
end
section
variable {K:PySem.W.Frag}
noncomputable def ySeq:U->AHp->(AIt->AHp->Prop)->Prop:=fun u A R=>match u with
  | .ref a=>(∃ us,A a=some (.lst us))/\R (jLst a) A
  | .rol us=>R (jFix us) A
  | .tup us=>R (jFix us) A
  | _=>False
theorem ab_yseq:AbY1 K (uSeqI K) ySeq:=fun x v A H R' R r g w k=>by
  cases r with
  | ref a=>exact .inl (ab_ylist (.ref a) _ A H R' R (.ref a) g w k)
  | rol h1 r1=>exact .inl (ab_ylist _ _ A H R' R (.rol h1 r1) g w k)
  | tup h1 r1=>exact .inr (ab_ytup _ _ A H R' R (.tup h1 r1) g w k)
  | _=>exact w.elim
noncomputable def yEnumS:List U->AHp->(AIt->AHp->Prop)->Prop:=fun us A R=>match us with
  | [.ref a]=>(∃ us,A a=some (.lst us))/\R (jEnum a) A
  | [.rol us]=>R (jFix (enU us)) A
  | [.tup us]=>R (jFix (enU us)) A
  | _=>False
theorem ab_yenumS:AbYs K (uEnumS K) yEnumS:=fun x v A H R' R r g w k=>by
  unfold yEnumS at w
  split at w
  . exact .inl (ab_yenum _ _ A H R' R r g w k)
  . exact .inl (ab_yenum _ _ A H R' R r g w k)
  . exact .inr (ab_yenumT _ _ A H R' R r g w k)
  . exact w.elim
variable {A:AHp} {R:AIt->AHp->Prop} {p:Addr} {us:List U}
theorem q_ysr:(ySeq (.ref p) A R)=((∃ us,A p=some (.lst us))/\R (jLst p) A):=rfl
theorem q_yso:(ySeq (.rol us) A R)=(R (jFix us) A):=rfl
theorem q_yst:(ySeq (.tup us) A R)=(R (jFix us) A):=rfl
theorem q_yesr:(yEnumS [.ref p] A R)=((∃ us,A p=some (.lst us))/\R (jEnum p) A):=rfl
theorem q_yeso:(yEnumS [.rol us] A R)=(R (jFix (enU us)) A):=rfl
theorem q_yest:(yEnumS [.tup us] A R)=(R (jFix (enU us)) A):=rfl
end
theorem Wr.toU_tup (w:Wr):∃ us,w.toU=.tup us:=by cases w <;> exact ⟨_,rfl⟩
end L2
namespace L2
open PySem PySem.Spec PyProof.Rows
end L2
set_option maxHeartbeats 4000000
namespace SortA
open PySem PySem.W PyProof.Rows
section
variable {n:Nat} {lt:Nat->Nat->Bool}
noncomputable def Le (lt:Nat->Nat->Bool) (p:Array Nat) (i j:Nat):Prop:=lt (p.getD j 0) (p.getD i 0)=false
noncomputable def Dn (lt:Nat->Nat->Bool) (p:Array Nat) (m:Nat):Prop:=∀ i j,i < j->j < m->Le lt p j i
end
end SortA
namespace N2
open PySem PyProof.Rows
end N2
namespace N2
open PySem PyProof.Rows PySem.F
end N2
namespace L2
open PySem PySem.Spec PyProof.Rows N2
theorem HR.putO {K:PySem.W.Frag} {H:Hp} {A:AHp} {a:Addr} {ob:HO} {o:AO} (h:HR K H A) (kp:Kp K H (upd H a ob)) (new:RO K (upd H a ob) a o):HR K (upd H a ob) (updA A a o):=fun b u q=>by
  by_cases hb:b=a
  . subst hb
    rw [updA_same] at q
    cases q
    exact new
  . rw [updA_ne hb] at q
    exact (h b u q).keep kp (upd_ne hb)
end L2
namespace L2
open PySem PySem.Spec PySem.W PyProof.Rows
end L2
namespace L2
open PySem PySem.Spec PyProof.Rows
section
variable {K:PySem.W.Frag} {H H':Hp} {A:AHp}
theorem RFs.cons_inv {x:Str × U} {fs:List (Str × U)} {gs:List (Str × V)} (h:RFs K H (x::fs) gs):∃ v gs',gs=(x.1,v)::gs'/\RU K H x.2 v/\RFs K H fs gs':=by
  obtain ⟨h1,h2⟩:=h
  cases gs with
  | nil=>simp at h1
  | cons y gs =>
    obtain ⟨n,v⟩:=y
    simp only [List.map_cons,List.cons.injEq] at h1
    cases h2 with
    | cons p q=>exact ⟨v,gs,by rw [h1.1],p,h1.2,q⟩
theorem RFs.look {f:Str} {u:U}:∀ {fs:List (Str × U)} {gs:List (Str × V)},RFs K H fs gs->fs.lookup f=some u->∃ v,gs.lookup f=some v/\RU K H u v
  | [],_,_,e=>by simp at e
  | (n, w)::fs,gs,h,e=>by
    obtain ⟨v,gs',rfl,r,t⟩:=h.cons_inv
    by_cases c:f == n
    . rw [List.lookup_cons,c] at e;cases e
      exact ⟨v,by rw [List.lookup_cons,c],r⟩
    . have c':(f == n)=false:=by simpa using c
      rw [List.lookup_cons,c'] at e
      obtain ⟨v',h1,h2⟩:=RFs.look t e
      exact ⟨v',by rw [List.lookup_cons,c'];exact h1,h2⟩
theorem RFs.same {fs:List (Str × U)} {gs:List (Str × V)} (e:Kp K H H') (h:RFs K H fs gs):RFs K H' fs gs:=⟨h.1,h.2.same e⟩
end
end L2
namespace L2
open PySem PySem.Spec PyProof.Rows
noncomputable def aIfH (c:AT) (t e:AS):AS:=aIfS c t e
theorem ab_ifH {K:PySem.W.Frag} {tc:TT} {t1 t2:TS} {c:AT} {a1 a2:AS} (hc:AbT K tc c) (h1:AbS K t1 a1) (h2:AbS K t2 a2):AbS K (tIfS tc t1 t2) (aIfH c a1 a2):=ab_ifs hc h1 h2
theorem q_xintb {A:AHp} {Q:AVK} {k:Bool}:xInt [.bl k] A Q=Q (.int (if k then 1 else 0)) A:=rfl
theorem if_yes {c:AT} {t e:AS} {D:AEnds} {ρ:ASt} {A:AHp} (h1:∀ B:Bool->AHp->Prop,B true A->c ρ A B) (h2:t D ρ A):aIfH c t e D ρ A:=h1 _ (iteP rfl h2)
theorem if_no {c:AT} {t e:AS} {D:AEnds} {ρ:ASt} {A:AHp} (h1:∀ B:Bool->AHp->Prop,B false A->c ρ A B) (h2:e D ρ A):aIfH c t e D ρ A:=h1 _ (iteN Bool.false_ne_true h2)
end L2
namespace L2
open PySem PySem.Spec PyProof.Rows
end L2
namespace L2
open PySem PySem.Spec PyProof.Rows
noncomputable abbrev TJ:=Str->St->Hp->(Str->Hp->Prop)->Prop
noncomputable def PJ (X:Cx) (es:List Expr) (t:TJ):Prop :=
  ∀ (pins:List (Addr × Obj)) (s:Shared) (σ:St) (H:Hp) (out:Str) (Q:Str->Hp->Prop),Inv X pins σ H s->t out σ H Q->wpAny (model X.prog X.w) X.A (joinParts out (evalEach es X.env)) (EP X pins σ fun v H'=>∃ z,v=.str z/\Q z H') X.xe s
noncomputable def tjNil:TJ:=fun out _ H Q=>out.length<=sizeLine/\Q out H
noncomputable def tjCons (te:TE) (t:TJ):TJ:=fun out σ H Q=>te σ H fun v H1=>∃ y,v=.str y/\(out++y).length<=sizeLine/\t (out++y) σ H1 Q
noncomputable def tFs (t:TJ):TE:=fun σ H Q=>t Str.empty σ H fun z H'=>Q (.str z) H'
section
variable {X:Cx} {e v1 v2:Expr} {es:List Expr} {te:TE} {t:TJ} {pos:Pos}
theorem pj_nil:PJ X [] tjNil:=fun pins s σ H out Q I ⟨hz,q⟩=>joinParts_nil (⟨.str out,H,I.tok _,⟨_,rfl⟩,out,rfl,q⟩) hz
theorem pj_cons (he:PE X e te) (ht:PJ X es t):PJ X (e::es) (tjCons te t):=by
  intro pins s σ H out Q I h
  refine joinParts_cons (thn (he pins s σ H _ I h) fun u s1 h_q=>?_)
  obtain ⟨v,H1,I1,rv,y,ev,hz,q⟩:=h_q
  subst ev
  obtain ⟨tk,rfl⟩:=rv
  exact ⟨hz,ht pins s1 σ H1 (out++y) Q I1 q⟩
theorem pe_fstr (h:PJ X (v1::v2::es) t):PE X (.JoinedStr (v1::v2::es) pos) (tFs t):=by
  intro pins s σ H Q I hq
  refine JoinedStr_many (thn (h pins s σ H Str.empty _ I hq) fun u s1 h_q=>?_)
  obtain ⟨v,H1,I1,rv,z,ev,q⟩:=h_q
  subst ev
  exact ⟨.str z,H1,I1,rv,q⟩
end
section
variable {K:PySem.W.Frag}
noncomputable abbrev AJ:=Str->ASt->AHp->(Str->AHp->Prop)->Prop
variable {out:Str} {ρ:ASt} {A:AHp} {Q:AVK} {R:Str->AHp->Prop} {ae:AE} {t:AJ}
end
end L2
namespace L2
open PySem PySem.Spec PyProof.Rows
theorem vals_refs:∀ {cs:List Addr} {us:List Value},Vals (cs.map V.ref) us->us=cs.map Value.ref
  | [],_,.nil=>rfl
  | c :: cs,_,.cons r h=>by
    cases (show _=Value.ref c from r)
    rw [vals_refs h];rfl
section
variable {K:PySem.W.Frag}
theorem RUs.refs {H:Hp}:∀ {cs:List Addr} {vs:List V},RUs K H (cs.map U.ref) vs->vs=cs.map V.ref
  | [],_,.nil=>rfl
  | c::cs,_,.cons h r=>by cases h;rw [List.map_cons,RUs.refs r]
end
end L2
namespace L2
open PySem PySem.Spec PySem.W PyProof.Rows
end L2
namespace L2
open PySem PySem.Spec PySem.W PyProof.Rows
end L2
namespace L2
open PySem PySem.Spec PySem.W PyProof.Rows
end L2
namespace L2
open PySem PySem.Spec PySem.W PyProof.Rows
end L2
namespace L2
open PySem
end L2
namespace L2
open PySem PySem.W
noncomputable def turnL {α:Type} (ps:List α) (i:Nat):List α:=ps.drop i++ps.take i
theorem turnL_perm {α:Type} (ps:List α) (i:Nat):(turnL ps i).Perm ps:=by
  unfold turnL
  have h:=List.take_append_drop i ps
  exact List.perm_append_comm.trans (by rw [h])
end L2
namespace L2
open PySem
theorem tupsL_perm {ps qs:List Wr} (p:ps.Perm qs):tupsL ps=tupsL qs:=by
  induction p with
  | nil=>rfl
  | cons x _ ih=>simp only [tupsL,ih]
  | swap x y l=>simp only [tupsL];lia
  | trans _ _ i1 i2=>rw [i1,i2]
end L2
namespace L2
open PySem PySem.Spec PyProof.Rows
mutual
noncomputable def Wr.gd:Wr->Bool
  | .nothing=>true
  | .bead c=>PyData.strOk c
  | .side _ f=>f.gd
  | .pair f g=>f.gd && g.gd
  | .many k ps=>(decide (k<=3) && decide (ps.length < 64)) && gdL ps
noncomputable def gdL:List Wr->Bool
  | []=>true
  | w::ws=>w.gd && gdL ws
end
theorem gdL_app:∀ (ws us:List Wr),gdL (ws++us)=(gdL ws && gdL us)
  | [],us=>by simp [gdL]
  | w::ws,us=>by simp only [List.cons_append,gdL,gdL_app ws us,Bool.and_assoc]
theorem gdL_iff {ws:List Wr}:gdL ws=true ↔ ∀ w∈ws,w.gd=true:=by
  induction ws with
  | nil=>simp [gdL]
  | cons w ws ih=>simp [gdL,ih]
theorem gdL_mem {ws:List Wr} {w:Wr} (h:gdL ws=true) (m:w∈ws):w.gd=true:=gdL_iff.mp h w m
theorem gdL_perm {ps qs:List Wr} (p:ps.Perm qs) (h:gdL ps=true):gdL qs=true:=gdL_iff.mpr fun w hw=>gdL_iff.mp h w (p.mem_iff.mpr hw)
mutual
theorem Wr.gd_ok:∀ w:Wr,w.gd=true->w.ok=true
  | .nothing,_=>rfl
  | .bead _,h=>h
  | .side _ f,h=>f.gd_ok h
  | .pair f g,h=>by simp only [Wr.gd,Bool.and_eq_true] at h;simp only [Wr.ok,Bool.and_eq_true];exact ⟨f.gd_ok h.1,g.gd_ok h.2⟩
  | .many k ps,h=>by simp only [Wr.gd,Bool.and_eq_true] at h;simp only [Wr.ok];exact gdL_ok ps h.2
theorem gdL_ok:∀ ws:List Wr,gdL ws=true->okL ws=true
  | [],_=>rfl
  | w::ws,h=>by simp only [gdL,Bool.and_eq_true] at h;simp only [okL,Bool.and_eq_true];exact ⟨w.gd_ok h.1,gdL_ok ws h.2⟩
end
theorem Wr.gd_parts {w:Wr} (h:w.gd=true):gdL w.parts=true/\w.parts.length < 64:=by
  cases w with
  | nothing=>exact ⟨rfl,by simp [Wr.parts]⟩
  | bead c=>exact ⟨rfl,by simp [Wr.parts]⟩
  | side b f=>simp only [Wr.gd] at h;exact ⟨by simp [Wr.parts,gdL,h],by simp [Wr.parts]⟩
  | pair f g=>simp only [Wr.gd,Bool.and_eq_true] at h;exact ⟨by simp [Wr.parts,gdL,h],by simp [Wr.parts]⟩
  | many k ps=>simp only [Wr.gd,Bool.and_eq_true,decide_eq_true_eq] at h;exact ⟨h.2,h.1.2⟩
theorem many_atG (j:Int):∃ k:Nat,k<=3/\atI [U.str "row",U.str "bag",U.str "choice",U.str "ring"] (j % 4)=some (.str (mname k)):=by
  have h:j % 4=0\/j % 4=1\/j % 4=2\/j % 4=3:=by lia
  rcases h with h | h | h | h <;> rw [h]
  . exact ⟨0,by decide,atI_nat (j:=0) rfl⟩
  . exact ⟨1,by decide,atI_nat (j:=1) rfl⟩
  . exact ⟨2,by decide,atI_nat (j:=2) rfl⟩
  . exact ⟨3,by decide,atI_nat (j:=3) rfl⟩
theorem len0 {α:Type} {P:List α->Prop} (h:P []):∀ us:List α,us.length=0->P us:=fun us e=>by
  cases us with
  | nil=>exact h
  | cons a us=>simp at e
theorem len1 {α:Type} {P:List α->Prop} (h:∀ a,P [a]):∀ us:List α,us.length=1->P us:=fun us e=>by
  cases us with
  | nil=>simp at e
  | cons a us=>exact len0 (P:=fun us=>P (a::us)) (h a) us (by simpa using e)
theorem len2 {α:Type} {P:List α->Prop} (h:∀ a b,P [a,b]):∀ us:List α,us.length=2->P us:=fun us e=>by
  cases us with
  | nil=>simp at e
  | cons a us=>exact len1 (P:=fun us=>P (a::us)) (h a) us (by simpa using e)
theorem len3 {α:Type} {P:List α->Prop} (h:∀ a b c,P [a,b,c]):∀ us:List α,us.length=3->P us:=fun us e=>by
  cases us with
  | nil=>simp at e
  | cons a us=>exact len2 (P:=fun us=>P (a::us)) (h a) us (by simpa using e)
theorem len4 {α:Type} {P:List α->Prop} (h:∀ a b c d,P [a,b,c,d]):∀ us:List α,us.length=4->P us:=fun us e=>by
  cases us with
  | nil=>simp at e
  | cons a us=>exact len3 (P:=fun us=>P (a::us)) (h a) us (by simpa using e)
end L2
namespace L2
open PySem PySem.Spec PySem.W PyProof.Rows
end L2
namespace L2
open PySem PySem.Spec PySem.W PyProof.Rows
end L2
namespace L2
open PySem PySem.W
theorem cl_invF {J:AIt} {tt:AT} {te:AE} {l:Addr} {Q:AVK} {x0:Option U} {fr:ASt} {A:AHp} (items:List U) (Pv:Nat->List U->AHp->Prop) (h0:Pv 0 [] A) (hn:items.length<=100000) (hl:∀ k ys A2,Pv k ys A2->ys.length<=k) (hJ:∀ k ys A2,k<=items.length->Pv k ys A2->J k A2 items[k]?)
    (hs:∀ k u ys A2,items[k]? = some u->Pv k ys A2->∀ (Cy:AVK) (Cn:AHp->Prop),(∀ y A3,A3 l=some (.lst ys)->Pv (k + 1) (ys++[y]) (updA A3 l (.lst (ys++[y])))->Cy y A3)->(∀ A3,Pv (k + 1) ys A3->Cn A3)->tt (some u::fr) A2 fun ok A3=>if ok=true then te (some u::fr) A3 Cy else Cn A3)
    (hd:∀ ys A2,Pv items.length ys A2->Q (.ref l) A2):aCL J (bName 0) tt te l Q (x0::fr) A:=by
  refine ⟨fun i m τ A2=>m=items.length - i/\i<=items.length/\(∃ x,τ=x::fr)/\∃ ys,Pv i ys A2,⟨_,rfl,Nat.zero_le _,⟨_,rfl⟩,_,h0⟩,?_⟩
  rintro i m τ A2 ⟨rfl,hi,⟨x,rfl⟩,ys,hp⟩
  have j:=hJ i ys A2 hi hp
  by_cases hlt:i < items.length
  . have hu:items[i]? = some items[i]:=List.getElem?_eq_getElem hlt
    rw [hu] at j
    refine .inr ⟨_,j,?_⟩
    rw [q_nm0]
    exact hs i _ ys A2 hu hp _ _ (fun y A3 h1 h2=>⟨ys,h1,line1000' (by have:=hl i ys A2 hp;lia),items.length - (i + 1),by lia,rfl,hlt,⟨_,rfl⟩,_,h2⟩) fun A3 h2=>⟨items.length - (i + 1),by lia,rfl,hlt,⟨_,rfl⟩,_,h2⟩
  . have e:i=items.length:=by lia
    subst e
    rw [List.getElem?_eq_none (Nat.le_refl _)] at j
    exact .inl ⟨j,hd ys A2 hp⟩
end L2
namespace L2
noncomputable def swAt {α:Type} (l:List α) (k:Nat):List α:=l.take k++(l.drop (k + 1)).take 1++(l.drop k).take 1++l.drop (k + 2)
theorem swAt_mk {α:Type} (p:List α) (a b:α) (s:List α):swAt (p++a::b::s) p.length=p++b::a::s:=by
  have e1:(p++a::b::s).drop (p.length + 1)=b::s:=by
    rw [List.drop_append,List.drop_eq_nil_of_le (Nat.le_succ _)];simp
  have e2:(p++a::b::s).drop (p.length + 2)=s:=by
    rw [List.drop_append,List.drop_eq_nil_of_le (by lia)];simp
  unfold swAt
  rw [e1,e2]
  simp
end L2
namespace L2
section
variable {α:Type} [DecidableEq α]
variable {r:α->α->Prop} {stp:α->List α} {w x o:α} {all d ini:List α} {s:List α × List α}
noncomputable def left (all:List α) (s:List α × List α):Nat:=2 * (all.length - s.2.length) + s.1.length
end
end L2
namespace L2
end L2
namespace L2
section
variable {α:Type}
noncomputable def ins (x:α):List α->List (List α)
  | []=>[[x]]
  | y::l=>(x::y::l)::(ins x l).map (y::·)
end
end L2
namespace L2
open PySem
noncomputable def Wr.wthU (w:Wr) (ps:List U):U:=match w with
  | .many k _=>.tup [.str (mname k),.tup ps]
  | w=>.tup (.str w.name::ps)
theorem wthU_few {w:Wr} (h:w.few) (ps:List U):w.wthU ps=.tup (.str w.name::ps):=by
  cases w with
  | many k qs=>exact absurd rfl (h.2 k qs)
  | _=>rfl
end L2
namespace L2
open PySem
noncomputable section
noncomputable def Wr.wth:Wr->List Wr->Wr
  | .nothing,_=>.nothing
  | .bead c,_=>.bead c
  | .side b f,ps=>.side b (ps.getD 0 f)
  | .pair f g,ps=>.pair (ps.getD 0 f) (ps.getD 1 g)
  | .many k _,ps=>.many k ps
theorem wth_parts {w:Wr} {ps:List Wr} (h:ps.length=w.parts.length):(w.wth ps).parts=ps:=by
  cases w with
  | nothing=>simp [Wr.parts] at h;subst h;rfl
  | bead c=>simp [Wr.parts] at h;subst h;rfl
  | side b f =>
    match ps,h with
    | [x],_=>rfl
  | pair f g =>
    match ps,h with
    | [x,y],_=>rfl
  | many k qs=>rfl
theorem wth_toU {w:Wr} {ps:List Wr} (hb:∀ c,w≠.bead c) (h:ps.length=w.parts.length):(w.wth ps).toU=w.wthU (ps.map Wr.toU):=by
  cases w with
  | nothing=>simp [Wr.parts] at h;subst h;rfl
  | bead c=>exact absurd rfl (hb c)
  | side b f =>
    match ps,h with
    | [x],_=>rfl
  | pair f g =>
    match ps,h with
    | [x,y],_=>rfl
  | many k qs=>exact Wr.toU_many k ps
noncomputable def Wr.prt (w:Wr) (k:Int):Option Wr:=if 0<=k/\k < w.parts.length then w.parts[k.toNat]? else none
noncomputable def Wr.setP (w:Wr) (k:Int) (x:Wr):Wr:=w.wth (w.parts.set k.toNat x)
noncomputable def Wr.at (w:Wr):List Int->Option Wr
  | []=>some w
  | k :: p=>match w.prt k with
    | some v=>v.at p
    | none=>none
noncomputable def Wr.put (w:Wr):List Int->Wr->Wr
  | [],x=>x
  | k :: p,x=>match w.prt k with
    | some v=>w.setP k (v.put p x)
    | none=>w
theorem prt_some {w v:Wr} {k:Int} (h:w.prt k=some v):0<=k/\k < w.parts.length/\w.parts[k.toNat]? = some v:=by
  unfold Wr.prt at h
  by_cases c:0<=k/\k < w.parts.length
  . rw [if_pos c] at h;exact ⟨c.1,c.2,h⟩
  . rw [if_neg c] at h;cases h
theorem prt_nat {w v:Wr} {k:Nat} (h:w.parts[k]? = some v):w.prt (k:Int)=some v:=by
  have:=(List.getElem?_eq_some_iff.mp h).1
  unfold Wr.prt
  rw [if_pos ⟨by lia,by lia⟩];exact h
theorem setP_parts (w:Wr) (k:Int) (x:Wr):(w.setP k x).parts=w.parts.set k.toNat x:=wth_parts (by rw [List.length_set])
theorem setP_prt {w v:Wr} {k:Int} {x:Wr} (h:w.prt k=some v):(w.setP k x).prt k=some x:=by
  obtain ⟨h1,h2,h3⟩:=prt_some h
  unfold Wr.prt
  rw [setP_parts,List.length_set,if_pos ⟨h1,h2⟩,List.getElem?_set_self (by lia)]
theorem at_cons {w v:Wr} {k:Int} (p:List Int) (e:w.prt k=some v):w.at (k::p)=v.at p:=by
  show (match w.prt k with | some v=>v.at p | none=>none)=_
  rw [e]
theorem put_cons {w v:Wr} {k:Int} (p:List Int) (x:Wr) (e:w.prt k=some v):w.put (k::p) x=w.setP k (v.put p x):=by
  show (match w.prt k with | some v=>w.setP k (v.put p x) | none=>w)=_
  rw [e]
theorem at_some {w v:Wr} {k:Int} {p:List Int} (h:w.at (k::p)=some v):∃ u,w.prt k=some u/\u.at p=some v:=by
  cases e:w.prt k with
  | none =>
    have:w.at (k::p)=none:=by show (match w.prt k with | some v=>v.at p | none=>none)=_;rw [e]
    rw [this] at h;cases h
  | some u=>exact ⟨u,rfl,by rw [<- at_cons p e];exact h⟩
theorem put_at:∀ {p:List Int} {w v x:Wr} (q:List Int),w.at p=some v->(w.put p x).at (p++q)=x.at q
  | [],_,_,_,_,_=>rfl
  | k :: p,w,v,x,q,h=>by
    obtain ⟨u,e,h⟩:=at_some h
    rw [put_cons p x e,List.cons_append,at_cons _ (setP_prt e)]
    exact put_at q h
noncomputable def topAct (w:Wr) (wd:Str) (i:Int):Option Wr:=match w with
  | .many k ps=>if wd="turn"/\k=3/\0<=i/\i < ps.length then some (.many k (turnL ps i.toNat))
    else if wd="swap"/\(k=1\/k=2)/\0<=i/\i < (ps.length:Int) - 1 then some (.many k (swAt ps i.toNat)) else none
  | _=>none
theorem top_none {k:Nat} {ps:List Wr} {wd:Str} {i:Int} (h1:¬ (wd="turn"/\k=3/\0<=i/\i < ps.length)) (h2:¬ (wd="swap"/\(k=1\/k=2)/\0<=i/\i < (ps.length:Int) - 1)):topAct (.many k ps) wd i=none:=(if_neg h1).trans (if_neg h2)
theorem top_swap {k:Nat} {ps:List Wr} {wd:Str} {i:Int} (h1:¬ (wd="turn"/\k=3/\0<=i/\i < ps.length)) (h2:wd="swap"/\(k=1\/k=2)/\0<=i/\i < (ps.length:Int) - 1):topAct (.many k ps) wd i=some (.many k (swAt ps i.toNat)):=(if_neg h1).trans (if_pos h2)
noncomputable def Wr.act (w:Wr) (wd:Str) (i:Int):List Int->Option Wr
  | []=>topAct w wd i
  | k :: p=>match w.prt k with
    | some v=>(v.act wd i p).map (w.setP k)
    | none=>none
theorem act_at {wd:Str} {i:Int}:∀ (p:List Int) (w:Wr),w.act wd i p=match w.at p with
    | some x=>(topAct x wd i).map (w.put p)
    | none=>none
  | [],w=>by
    show topAct w wd i=(topAct w wd i).map fun x=>x
    cases topAct w wd i <;> rfl
  | k :: p,w=>by
    show (match w.prt k with | some v=>(v.act wd i p).map (w.setP k) | none=>none)=_
    cases e:w.prt k with
    | none =>
      have:w.at (k::p)=none:=by show (match w.prt k with | some v=>v.at p | none=>none)=_;rw [e]
      rw [this]
    | some v =>
      rw [at_cons p e]
      simp only
      rw [act_at p v]
      cases v.at p with
      | none=>rfl
      | some x =>
        simp only [Option.map_map]
        congr 1
        funext z
        exact (put_cons p z e).symm
end
end L2
namespace L2
open PySem
noncomputable section
structure Stq where
  wd:Str
  p : List Int
  i : Int
noncomputable def Stq.toU (s:Stq):U:=.tup [.str s.wd,.tup (s.p.map U.int),.int s.i]
noncomputable def walkS:Wr->List Stq->Option Wr
  | w,[]=>some w
  | w, s::ss=>match w.act s.wd s.i s.p with
    | some v=>walkS v ss
    | none=>none
theorem swAt_perm {α:Type} {l:List α} {k:Nat} (h:k + 1 < l.length):(swAt l k).Perm l:=by
  have e1:l=l.take k++l.drop k:=(List.take_append_drop k l).symm
  have e2:l.drop k=l[k]::l[k + 1]::l.drop (k + 2):=by rw [List.drop_eq_getElem_cons (by lia),List.drop_eq_getElem_cons h]
  have hl:(l.take k).length=k:=by rw [List.length_take];lia
  have e3:l=l.take k++l[k]::l[k + 1]::l.drop (k + 2):=by rw [<- e2];exact e1
  have:=swAt_mk (l.take k) l[k] l[k + 1] (l.drop (k + 2))
  rw [hl,<- e3] at this
  rw [this]
  exact ((List.Perm.swap _ _ _).append_left _).trans (.of_eq e3.symm)
theorem top_keeps {w v:Wr} {wd:Str} {i:Int} (h:topAct w wd i=some v):∃ k ps ps',w=.many k ps/\v=.many k ps'/\ps'.Perm ps:=by
  cases w with
  | many k ps =>
    unfold topAct at h
    simp only at h
    split at h
    . cases h;exact ⟨k,ps,_,rfl,rfl,turnL_perm _ _⟩
    . split at h
      . rename_i _ c
        cases h;exact ⟨k,ps,_,rfl,rfl,swAt_perm (by lia)⟩
      . cases h
  | _=>cases h
theorem gdL_set {ws:List Wr} {x:Wr} (n:Nat) (h:gdL ws=true) (hx:x.gd=true):gdL (ws.set n x)=true:=gdL_iff.mpr fun w hw=>by
  rcases List.mem_or_eq_of_mem_set hw with h1 | h1
  . exact gdL_iff.mp h w h1
  . rw [h1];exact hx
theorem tupsL_set:∀ {ws:List Wr} {v x:Wr} {n:Nat},ws[n]? = some v->x.tups=v.tups->tupsL (ws.set n x)=tupsL ws
  | [],_,_,_,h,_=>by cases h
  | w :: ws,v,x,0,h,e=>by
    cases h
    simp only [List.set,tupsL,e]
  | w :: ws,v,x,n + 1,h,e=>by
    have:=tupsL_set (ws:=ws) (n:=n) (x:=x) (by simpa using h) e
    simp only [List.set,tupsL,this]
theorem wth_gd {w:Wr} {ps:List Wr} (h:ps.length=w.parts.length) (g:gdL ps=true) (hw:w.gd=true):(w.wth ps).gd=true:=by
  cases w with
  | nothing=>rfl
  | bead c=>exact hw
  | side b f =>
    match ps,h with
    | [x],_=>simpa [gdL,Wr.gd,Wr.wth] using g
  | pair f g' =>
    match ps,h with
    | [x,y],_=>simpa [gdL,Wr.gd,Wr.wth] using g
  | many k qs =>
    simp only [Wr.parts] at h
    simp only [Wr.gd,Bool.and_eq_true,decide_eq_true_eq] at hw
    simp only [Wr.wth,Wr.gd,Bool.and_eq_true,decide_eq_true_eq]
    exact ⟨⟨hw.1.1,by lia⟩,g⟩
theorem wth_tups {w:Wr} {ps:List Wr} (h:ps.length=w.parts.length) (e:tupsL ps=tupsL w.parts):(w.wth ps).tups=w.tups:=by
  cases w with
  | nothing=>rfl
  | bead c=>rfl
  | side b f =>
    match ps,h with
    | [x],_=>simpa [tupsL,Wr.parts,Wr.wth,Wr.tups] using e
  | pair f g' =>
    match ps,h with
    | [x,y],_=>simpa [tupsL,Wr.parts,Wr.wth,Wr.tups] using e
  | many k qs=>simpa [Wr.parts,Wr.wth,Wr.tups] using e
theorem act_keeps {wd:Str} {i:Int}:∀ {p:List Int} {w v:Wr},w.act wd i p=some v->w.gd=true->v.gd=true/\v.tups=w.tups/\∀ k ps,w=.many k ps->∃ ps',v=.many k ps'/\ps'.length=ps.length
  | [], w,v,h,g=>by
    obtain ⟨k,ps,ps',rfl,rfl,pm⟩:=top_keeps h
    simp only [Wr.gd,Bool.and_eq_true,decide_eq_true_eq] at g
    refine ⟨?_,?_,fun k1 q e=>⟨ps',by cases e;exact ⟨rfl,pm.length_eq⟩⟩⟩
    . simp only [Wr.gd,Bool.and_eq_true,decide_eq_true_eq]
      exact ⟨⟨g.1.1,by rw [pm.length_eq];exact g.1.2⟩,gdL_perm pm.symm g.2⟩
    . simp only [Wr.tups,tupsL_perm pm]
  | k :: p,w,v,h,g=>by
    have h':(match w.prt k with | some v=>(v.act wd i p).map (w.setP k) | none=>none)=some v:=h
    cases e:w.prt k with
    | none=>rw [e] at h';cases h'
    | some u =>
      rw [e] at h'
      simp only at h'
      cases e2:u.act wd i p with
      | none=>rw [e2] at h';cases h'
      | some x =>
        rw [e2] at h'
        cases h'
        obtain ⟨_,_,hu⟩:=prt_some e
        have gp:=(w.gd_parts g).1
        obtain ⟨i1,i2,_⟩:=act_keeps e2 (gdL_mem gp (List.mem_of_getElem? hu))
        refine ⟨wth_gd (by rw [List.length_set]) (gdL_set _ gp i1) g,wth_tups (by rw [List.length_set]) (tupsL_set hu i2),fun k1 ps e=>?_⟩
        subst e
        exact ⟨_,rfl,by rw [List.length_set];rfl⟩
theorem walk_app:∀ {ss:List Stq} {w v:Wr} {s:Stq},walkS w ss=some v->walkS w (ss++[s])=v.act s.wd s.i s.p
  | [],w,v,s,h=>by
    cases h
    show (match w.act s.wd s.i s.p with | some v=>some v | none=>none)=_
    cases w.act s.wd s.i s.p <;> rfl
  | t :: ss,w,v,s,h=>by
    have h':(match w.act t.wd t.i t.p with | some v=>walkS v ss | none=>none)=some v:=h
    show (match w.act t.wd t.i t.p with | some v=>walkS v (ss++[s]) | none=>none)=_
    cases e:w.act t.wd t.i t.p with
    | none=>rw [e] at h';cases h'
    | some u=>rw [e] at h';exact walk_app h'
theorem walk_cut {w:Wr} {ss:List Stq} {k:Nat} {s:Stq} {v:Wr} (h:walkS w (ss.take k)=some v) (hs:ss[k]? = some s):(∀ u,v.act s.wd s.i s.p=some u->walkS w (ss.take (k + 1))=some u)/\(v.act s.wd s.i s.p=none->walkS w ss=none):=by
  have e:ss.take (k + 1)=ss.take k++[s]:=by rw [List.take_succ,hs];rfl
  refine ⟨fun u hu=>by rw [e,walk_app h,hu],fun hn=>?_⟩
  have:walkS w (ss.take (k + 1))=none:=by rw [e,walk_app h,hn]
  have aux:∀ (as bs:List Stq) (w:Wr),walkS w as=none->walkS w (as++bs)=none:=fun as=>by
    induction as with
    | nil=>intro bs w h;cases h
    | cons a as ih =>
      intro bs w h
      have h':(match w.act a.wd a.i a.p with | some v=>walkS v as | none=>none)=none:=h
      show (match w.act a.wd a.i a.p with | some v=>walkS v (as++bs) | none=>none)=none
      cases e:w.act a.wd a.i a.p with
      | none=>rfl
      | some u=>rw [e] at h';exact ih bs u h'
  rw [<- List.take_append_drop (k + 1) ss]
  exact aux _ _ _ this
theorem at_app:∀ (p q:List Int) (w:Wr),w.at (p++q)=match w.at p with | some v=>v.at q | none=>none
  | [],q,w=>rfl
  | k :: p,q,w=>by
    rw [List.cons_append]
    show (match w.prt k with | some v=>v.at (p++q) | none=>none)=match (match w.prt k with | some v=>v.at p | none=>none) with | some v=>v.at q | none=>none
    cases w.prt k with
    | none=>rfl
    | some v=>exact at_app p q v
theorem at_one {w:Wr} {k:Int}:w.at [k]=w.prt k:=by
  show (match w.prt k with | some v=>some v | none=>none)=_
  cases w.prt k <;> rfl
theorem at_cut {w v:Wr} {p:List Int} {k:Nat} {m:Int} (h:w.at (p.take k)=some v) (hm:p[k]? = some m):w.at (p.take (k + 1))=v.prt m/\(v.prt m=none->w.at p=none):=by
  have e:p.take (k + 1)=p.take k++[m]:=by rw [List.take_succ,hm];rfl
  have e1:w.at (p.take (k + 1))=v.prt m:=by rw [e,at_app,h];exact at_one
  refine ⟨e1,fun hn=>?_⟩
  rw [<- List.take_append_drop (k + 1) p,at_app,e1,hn]
theorem at_keeps:∀ {p:List Int} {w v:Wr},w.at p=some v->w.gd=true->v.gd=true/\v.tups<=w.tups
  | [],w,v,h,g=>by cases h;exact ⟨g,Nat.le_refl _⟩
  | k :: p,w,v,h,g=>by
    obtain ⟨u,e,h⟩:=at_some h
    obtain ⟨_,_,hu⟩:=prt_some e
    have hm:=List.mem_of_getElem? hu
    have:=at_keeps h (gdL_mem (w.gd_parts g).1 hm)
    have t1:=tupsL_mem hm
    have t2:=w.parts_tups
    exact ⟨this.1,by lia⟩
theorem put_cut {w u v:Wr} {p:List Int} {k:Nat} {m:Int} {x:Wr} (h:w.at (p.take k)=some u) (hm:p[k]? = some m) (hp:u.prt m=some v):u.put (p.drop k) x=u.setP m (v.put (p.drop (k + 1)) x):=by
  have e:p.drop k=m::p.drop (k + 1):=by
    obtain ⟨h1,h2⟩:=List.getElem?_eq_some_iff.mp hm
    rw [List.drop_eq_getElem_cons h1,h2]
  rw [e,put_cons _ _ hp]
theorem Wr.toU_hd (w:Wr):∃ rest,w.toU=.tup (.str w.name::rest):=by
  rcases w.kinds with ⟨c,rfl⟩ | ⟨k,ps,rfl⟩ | hf
  . exact ⟨_,rfl⟩
  . exact ⟨_,Wr.toU_many k ps⟩
  . exact ⟨_,Wr.toU_few hf⟩
theorem setP_toU {w v x:Wr} {k:Int} (h:w.prt k=some v):(∀ c,w≠.bead c)/\(w.setP k x).toU=w.wthU ((w.parts.map Wr.toU).set k.toNat x.toU):=by
  obtain ⟨h1,h2,h3⟩:=prt_some h
  have hb:∀ c,w≠.bead c:=fun c h=>by subst h;simp [Wr.parts] at h2;lia
  refine ⟨hb,?_⟩
  unfold Wr.setP
  rw [wth_toU hb (by rw [List.length_set]),List.map_set]
noncomputable def badI:Wr->List Stq->Nat
  | _,[]=>0
  | w, s::ss=>match w.act s.wd s.i s.p with
    | some v=>badI v ss + 1
    | none=>0
theorem bad_at:∀ {k:Nat} {ss:List Stq} {w v:Wr} {s:Stq},walkS w (ss.take k)=some v->ss[k]? = some s->v.act s.wd s.i s.p=none->badI w ss=k
  | 0,[],_,_,_,_,h,_=>by cases h
  | k + 1,[],_,_,_,_,h,_=>by cases h
  | 0, s::ss,w,v,_,h,h1,h2=>by
    cases h;cases h1
    show (match w.act s.wd s.i s.p with | some v=>badI v ss + 1 | none=>0)=0
    rw [h2]
  | k + 1,t::ss,w,v,s,h,h1,h2=>by
    have h':(match w.act t.wd t.i t.p with | some v=>walkS v (ss.take k) | none=>none)=some v:=h
    show (match w.act t.wd t.i t.p with | some v=>badI v ss + 1 | none=>0)=k + 1
    cases e:w.act t.wd t.i t.p with
    | none=>rw [e] at h';cases h'
    | some u =>
      rw [e] at h'
      exact congrArg (· + 1) (bad_at h' (by simpa using h1) h2)
theorem walk_noneA:∀ (as bs:List Stq) (w:Wr),walkS w as=none->walkS w (as++bs)=none/\badI w (as++bs)=badI w as
  | [],bs,w,h=>by cases h
  | a :: as,bs,w,h=>by
    have h':(match w.act a.wd a.i a.p with | some v=>walkS v as | none=>none)=none:=h
    show (match w.act a.wd a.i a.p with | some v=>walkS v (as++bs) | none=>none)=none/\(match w.act a.wd a.i a.p with | some v=>badI v (as++bs) + 1 | none=>0)=(match w.act a.wd a.i a.p with | some v=>badI v as + 1 | none=>0)
    cases e:w.act a.wd a.i a.p with
    | none=>exact ⟨rfl,rfl⟩
    | some u =>
      rw [e] at h'
      have:=walk_noneA as bs u h'
      exact ⟨this.1,congrArg (· + 1) this.2⟩
noncomputable def Stq.toD (s:Stq):PyData:=.tuple [.str s.wd,.tuple (s.p.map PyData.int),.int s.i]
theorem ints_du {A:AHp}:∀ p:List Int,DUs A (p.map U.int) (p.map PyData.int)
  | []=>.nil
  | i::p=>.cons (.int i) (ints_du p)
theorem stqs_du {A:AHp}:∀ ss:List Stq,DUs A (ss.map Stq.toU) (ss.map Stq.toD)
  | []=>.nil
  | s::ss=>.cons (.tup (.cons (.str _) (.cons (.tup (ints_du s.p)) (.cons (.int _) .nil)))) (stqs_du ss)
theorem ints_can:∀ p:List Int,PyData.canLayAll0 (p.map PyData.int)=true
  | []=>rfl
  | i::p=>by simp [PyData.canLayAll0,PyData.canLay0,ints_can p]
theorem stqs_can:∀ ss:List Stq,(∀ s∈ss,PyData.strOk s.wd=true)->PyData.canLayAll0 (ss.map Stq.toD)=true
  | [],_=>rfl
  | s :: ss,h=>by
    have h1:=stqs_can ss fun x hx=>h x (List.mem_cons_of_mem _ hx)
    have h2:=h s List.mem_cons_self
    simp [PyData.canLayAll0,PyData.canLay0,ints_can,h1,h2,Stq.toD]
theorem ints_deep:∀ p:List Int,PyData.depthAll (p.map PyData.int)<=5
  | []=>by simp [PyData.depthAll]
  | i::p=>by have:=ints_deep p;simp only [List.map_cons,PyData.depthAll,PyData.depth];lia
theorem stqs_deep:∀ ss:List Stq,PyData.depthAll (ss.map Stq.toD)<=20
  | []=>by simp [PyData.depthAll]
  | s::ss=>by have:=stqs_deep ss;have:=ints_deep s.p;simp only [List.map_cons,Stq.toD,PyData.depthAll,PyData.depth];lia
theorem deep_same {ne:Bool} {A:AHp} {u v:U} {d:PyData} {Q:AVK} (hu:DU A u d) (hv:DU A v d) (hc:d.canLay0=true) (hd:d.depth<=190) (q:Q (.bl (!ne)) A):xDeep ne u v A Q:=by
  refine ⟨d,d,hu,hv,hc,hc,hd,?_⟩
  rw [PySem.SeqAt.eqv_refl _ hc]
  cases ne <;> exact q
theorem stqs_same {ne:Bool} {A:AHp} {a b:Addr} {ss:List Stq} {Q:AVK} (h:∀ s∈ss,PyData.strOk s.wd=true) (ha:A a=some (.lst (ss.map Stq.toU))) (hb:A b=some (.lst (ss.map Stq.toU))) (q:Q (.bl (!ne)) A):xDeep ne (.ref a) (.ref b) A Q :=
  deep_same (.lst ha (stqs_du ss)) (.lst hb (stqs_du ss)) (by simp [PyData.canLay0,stqs_can ss h]) (by have:=stqs_deep ss;simp only [PyData.depth];lia) q
noncomputable def okQ (ss:List Stq):Prop:=∀ s∈ss,s.p.length<=100/\PyData.strOk s.wd=true
theorem okQ.app {ss tt:List Stq} (h:okQ ss) (k:okQ tt):okQ (ss++tt):=fun s hs=>(List.mem_append.mp hs).elim (h s) (k s)
theorem cut_int (ms:List Int) (i j:Nat):∃ zs:List Int,cutU (ms.map U.int) (some (i:Int)) (some (j:Int))=zs.map U.int/\zs.length<=j - i:=by
  unfold cutU
  rw [HT.sIx_nat,HT.sIx_nat]
  refine ⟨(ms.drop (min i (ms.map U.int).length)).take (min j (ms.map U.int).length - min i (ms.map U.int).length),by rw [List.map_take,List.map_drop],?_⟩
  rw [List.length_take]
  lia
noncomputable def whs (w:Wr) (p:List Int) (k:Nat):List U:=(List.range k).map fun m=>U.tup [((w.at (p.take m)).getD w).toU,.int (p.getD m 0)]
theorem whs_succ (w:Wr) (p:List Int) (k:Nat) {v:Wr} {m:Int} (h:w.at (p.take k)=some v) (hm:p[k]? = some m):whs w p k++[U.tup [v.toU,.int m]]=whs w p (k + 1):=by
  unfold whs
  rw [List.range_succ,List.map_append,List.map_cons,List.map_nil,h,List.getD_eq_getElem?_getD,hm]
  rfl
theorem whs_len (w:Wr) (p:List Int) (k:Nat):(whs w p k).length=k:=by unfold whs;rw [List.length_map,List.length_range]
theorem whs_rev {w:Wr} {p:List Int} {n j:Nat} {u:U} (h:(whs w p n).reverse[j]? = some u):j < n/\u=U.tup [((w.at (p.take (n - 1 - j))).getD w).toU,.int (p.getD (n - 1 - j) 0)]:=by
  have hj:j < n:=by
    have:=(List.getElem?_eq_some_iff.mp h).1
    rw [List.length_reverse,whs_len] at this
    exact this
  refine ⟨hj,?_⟩
  rw [List.getElem?_reverse (by rw [whs_len];exact hj),whs_len] at h
  unfold whs at h
  rw [List.getElem?_map,List.getElem?_range (by lia)] at h
  cases h
  rfl
end
end L2
namespace L2
open PySem PySem.Spec PyProof.Rows
noncomputable def makesX (K:PySem.W.Frag) (C:Addr):Bool:=match K.lookup C with
  | some ⟨_,_,.cls cd,sl⟩=>!cd.hasDel && (sl.toList[4]?).join == some (.builtin "ValueError.__new__") && !cd.mro.isEmpty && cd.mro.contains (.ref C) && cd.mro.contains (.type "ValueError") && !cd.mro.contains (.type "AttributeError") && !cd.mro.contains (.type "NameError") &&
      PySem.W.specialIn K (.ref C) "__call__" == some (some (.builtin "type.__call__")) && PySem.W.instIn K (.ref C) (.type "type") == some true
  | _=>false
structure MkX (M:Model) (h:Heap) (C:Addr):Prop where
  obj:∃ oc od cd sl,h.get? C=some ⟨oc,od,.cls cd,sl⟩/\cd.hasDel=false/\cd.mro.isEmpty=false
  made:PySem.W.Looks M h (Bind.madeBy (.ref C)) (some "ValueError.__new__")
  base:PySem.W.Looks M h (Bind.staticBase (.ref C)) (.ref C)
  self:PySem.W.Looks M h (isSubtype (.ref C) (.ref C)) true
  up:PySem.W.Looks M h (isSubtype (.ref C) (.type "ValueError")) true
  na:PySem.W.Looks M h (isSubtype (.ref C) (.type "AttributeError")) false
  nn:PySem.W.Looks M h (isSubtype (.ref C) (.type "NameError")) false
  call:PySem.W.Looks M h (specialOf (.ref C) "__call__") (some (.builtin "type.__call__"))
  typ:PySem.W.Looks M h (isInstance (.ref C) (.type "type")) true
theorem mkX_of {K:PySem.W.Frag} {M:Model} {h:Heap} (X:K.In h) {C:Addr} (e:makesX K C=true):MkX M h C:=by
  unfold makesX at e
  split at e
  . rename_i oc od cd sl ho
    simp only [Bool.and_eq_true,Bool.not_eq_true',beq_iff_eq] at e
    obtain ⟨⟨⟨⟨⟨⟨⟨⟨e2,e3⟩,e4⟩,e5⟩,e6⟩,e7⟩,e8⟩,e9⟩,e10⟩:=e
    have hc:PySem.W.clsIn K C=some cd:=by unfold PySem.W.clsIn;rw [ho]
    have hm:PySem.W.Looks M h (mroOf (.ref C)) cd.mro:=(PySem.W.looks_clsIn X hc).andThen .now
    obtain ⟨c,l,hl⟩:∃ c l,cd.mro=c::l:=by
      cases q:cd.mro with
      | nil=>rw [q] at e4;cases e4
      | cons c l=>exact ⟨c,l,rfl⟩
    have made:PySem.W.Looks M h (Bind.madeBy (.ref C)) (some "ValueError.__new__"):=by
      intro A Q E s k q
      unfold Bind.madeBy
      refine wpAny_bind (hm A _ E s k ?_)
      rw [hl,List.forIn_cons]
      refine wpAny_bind (wpAny_bind (wpAny_bind (wpAny_bind (wpAny_loadPart (k _ _ (X _ _ ho)) (wpAny_pure ?_)))))
      dsimp only
      rw [<- Array.getElem?_toList,e3]
      exact wpAny_pure (wpAny_pure (wpAny_pure q))
    have mr:∀ {v:Value} {b:Bool},cd.mro.contains v=b->PySem.W.Looks M h (isSubtype (.ref C) v) b:=fun {v b} eb=>PySem.W.looks_mroIn X (by unfold PySem.W.mroIn;rw [hc,Option.bind_some,if_neg (by rw [e4];decide),eb])
    refine ⟨⟨oc,od,cd,sl,X _ _ ho,e2,e4⟩,made,?_,mr e5,mr e6,mr e7,mr e8,PySem.W.looks_specialIn X e9,PySem.W.looks_instIn X e10⟩
    intro A Q E s k q
    unfold Bind.staticBase
    refine wpAny_bind (hm A _ E s k ?_)
    rw [hl,List.forIn_cons]
    exact wpAny_bind (wpAny_bind (wpAny_bind (made A _ E s k (wpAny_pure (wpAny_pure (wpAny_pure q))))))
  . cases e
theorem x_kind:builtinKind "ValueError.__new__"=some .builtinFn:=by kernel_rfl
theorem x_split:splitId "ValueError.__new__"=some ("ValueError","__new__"):=by kernel_rfl
noncomputable abbrev excO (C t:Addr):Obj:={ cls:=.ref C,data:=.fields #[.ref t,.none,.none,.none,.bool false,.none] }
noncomputable abbrev tupO (vs:List Value):Obj:={ cls:=.type "tuple",data:=.seq vs.toArray }
section
variable {P:Program} {w:World} {A:Around} {C:Addr} {R:Result->Shared->Prop} {h:Heap} {g:Array GenState} {d:Drawn} {t:Nat} {os:OsState}
theorem newX {r:List Value} (Y:MkX (model P w) h C) (hr:r.length<=1000) (hq:R (.ok (.ret (.ref (h.objs.size + 1)))) ⟨(h.push (tupO r)).push (excO C h.objs.size),g,d,t,os⟩) :
    codeAny (model P w) A (.call (.builtin "ValueError.__new__") ⟨.ref C::r,[]⟩) R ⟨h,g,d,t,os⟩:=by
  obtain ⟨⟨oc,od,cd,sl,hC,e2,e4⟩,made,base,self,up,na,nn,call,typ⟩:=Y
  have X:=excClass_ValueError
  refine codeAny_call_builtin_code (Code.quiet_builtin _ (by decide +kernel)) ?_
  simp only [checkBuiltinCall,x_kind,x_split]
  have here:PySem.W.Looks (model P w) h (Bind.madeHere "BaseException.__new__" (.ref C)) ():=base.andThen (made.andThen (PySem.W.Looks.of_pure (by kernel_rfl)))
  repeat (first | simp only [bne_self_eq_false,beq_self_eq_true,if_true,Bool.not_true,Bool.false_eq_true,if_false] | lk)
  refine codeAny_builtin_at X.newEntry ?_
  unfold Builtin.«BaseException.__new__»
  refine PyProof.Rows.wpAt_bind (PyProof.Rows.wpAt_owner rfl X.newEnds (PyProof.Rows.wpAt_of_any ?_))
  dsimp only
  rw [show ("ValueError.__new__".dropRight 8)="ValueError" from by decide +kernel]
  repeat (first | simp only [Bool.not_true,Bool.false_eq_true,if_false] | lk)
  rw [if_neg (by rw [List.size_toArray];exact Nat.not_lt.mpr (Nat.le_trans hr (by decide)))]
  refine wpAny_newObjAsIs_type (wpAny_bind ?_)
  unfold newObj
  dsimp only
  rw [if_neg (by show ¬ (6 > sizeLine + 2);decide)]
  unfold newObjAsIs classHasDel
  have hC2:((h.push (tupO r)).push (excO C h.objs.size)).get? C=some ⟨oc,od,.cls cd,sl⟩:=Heap.get?_push_of_some _ (Heap.get?_push_of_some _ hC)
  refine wpAny_bind (wpAny_alloc (wpAny_bind (wpAny_bind (wpAny_load hC2 (wpAny_pure ?_)))))
  rw [e2]
  refine wpAny_pure (wpAny_pure ?_)
  have hz:(h.push (tupO r)).objs.size=h.objs.size + 1:=Heap.size_push ..
  rw [<- hz] at hq
  exact hq
theorem make_exc {r:List Value} {K:PySem.W.Frag} {f:Addr} (X:K.In h) (hm:makesX K C=true) (hi:PySem.W.findIn K (.ref C) "__init__"=some (some (.ref f))) (hf:PySem.W.typeIn K (.ref f)=some (.type "function")) (hr:r.length<=1000)
    (hq:codeAny (model P w) (A.under (.builtin "type.__call__" ⟨.ref C::r,[]⟩)) (.call (.ref f) ⟨.ref (h.objs.size + 1)::r,[]⟩) (PySem.W.InitBack (h.objs.size + 1) R) ⟨(h.push (tupO r)).push (excO C h.objs.size),g,d,t,os⟩) :
    codeAny (model P w) A (.call (.ref C) ⟨r,[]⟩) R ⟨h,g,d,t,os⟩:=by
  have Y:MkX (model P w) h C:=mkX_of X hm
  have hi':=PySem.W.looks_findIn (M:=model P w) X hi
  have hb:=fun self=>PySem.W.bind_fn (M:=model P w) X self hf
  have Y':=Y
  obtain ⟨⟨oc,od,cd,sl,hC,e2,e4⟩,made,base,self,up,na,nn,call,typ⟩:=Y
  refine codeAny_of_tree ?_
  show wpAny _ _ (callAny (.ref C) _) _ _ _
  refine PySem.W.nd_load hC ?_
  show wpAny _ _ (callAny.viaDunder (.ref C) _) _ _ _
  unfold callAny.viaDunder
  refine wpAny_bind (call.at ?_)
  dsimp only
  rw [PySem.tc_bind]
  refine wpAny_bind (wpAny_pure (wpAny_bind (wpAny_pure ?_)))
  refine wpAny_pure (a:=Fin.again (.call (.builtin "type.__call__") ⟨.ref C::r,[]⟩)) (And.intro rfl ?_)
  refine codeAny_call_builtin_at (Code.quiet_builtin _ (by decide +kernel)) PySem.entry_typeCall (PySem.W.check_slot PySem.tc_kind PySem.tc_split typ (PySem.W.tc_args _ _ _) ?_)
  unfold Builtin.«type.__call__»
  have hmr:PySem.W.Looks (model P w) h (mroOf (.ref C)) cd.mro:=((PySem.W.Looks.ld (part:=none) hC).andThen .now).andThen .now
  repeat (first | simp only [e4,Bool.false_eq_true,if_false] | with_reducible refine wpAny_call ?_ | lk)
  refine newX Y' hr ?_
  have kp:∀ b o,h.get? b=some o->((h.push (tupO r)).push (excO C h.objs.size)).get? b=some o:=fun b o e=>Heap.get?_push_of_some _ (Heap.get?_push_of_some _ e)
  have hx:((h.push (tupO r)).push (excO C h.objs.size)).get? (h.objs.size + 1)=some (excO C h.objs.size):=by
    have:=Heap.get?_push_size (h.push (tupO r)) (o:=excO C h.objs.size) rfl
    rwa [Heap.size_push] at this
  have t1:PySem.W.Looks (model P w) ((h.push (tupO r)).push (excO C h.objs.size)) (typeOf (.ref (h.objs.size + 1))) (.ref C):=(PySem.W.Looks.ld hx).andThen .now
  have s1:=self.keeps kp
  have i1:=hi'.keeps kp
  have b1:=(hb (.ref (h.objs.size + 1))).keeps kp
  unfold isInstance callSpecial? specialOf
  repeat (first | with_reducible refine wpAny_call ?_ | lk)
  refine codeAny_mono hq fun r s' z=>?_
  rcases r with e | (v | _ | _ | _) <;> first | exact z | exact z.elim | skip
  obtain ⟨rfl,z⟩:=z
  exact wpAny_pure (wpAny_pure z)
end
end L2
set_option maxHeartbeats 4000000
namespace L2
open PySem PySem.Spec PyProof.Rows
section
variable {P:Program} {w:World} {A:Around} {E:Value->Shared->Prop} {s:Shared} {C e t0:Addr} {ob:Obj} {vs:Array Value} {Q:Value->Shared->Prop}
theorem init_own {v:Value} {oc:Value} {od:Option Addr} {cd:ClassData} {sl:Array (Option Value)} (hC:s.heap.get? C=some ⟨oc,od,.cls cd,sl⟩) (up:PySem.W.Looks (model P w) s.heap (isSubtype (.ref C) (.type "ValueError")) true) (he:s.heap.get? e=some ob) (hc:ob.cls=.ref C) (hd:ob.data=.fields vs) (h0:vs[0]? = some (.ref t0))
    (k:Q .none { s with heap:=(s.heap.push (tupO [v])).update e (Obj.mapFields (·.setIfInBounds 0 (.ref s.heap.objs.size))) }):wpAny (model P w) A (call (.builtin "ValueError.__init__") [.ref e,v]) Q E s:=by
  have X:=excClass_ValueError
  have t1:PySem.W.Looks (model P w) s.heap (typeOf (.ref e)) (.ref C):=by
    have:=(PySem.W.Looks.ld (M:=model P w) (part:=none) he)
    exact this.andThen (by rw [hc];exact .now)
  have t2:PySem.W.Looks (model P w) s.heap (isInstance (.ref e) (.type "ValueError")) true:=t1.andThen up
  refine wpAny_call (codeAny_call_builtin X.init.plain X.initEntry ?_)
  simp only [checkBuiltinCall,X.initKind,X.initSplit,X.initSig]
  refine wpAny_bind (t2.here ?_)
  simp only [Bool.not_true,Bool.false_eq_true,if_false]
  unfold Bind.checkArgs
  dsimp only
  unfold Bind.printed Bind.receiverType
  rw [if_neg (by decide)]
  have tn:PySem.W.Looks (model P w) s.heap (typeNameWhole (.ref C)) cd.name.toString:=((PySem.W.Looks.ld (part:=none) hC).andThen .now).andThen .now
  refine wpAny_bind ?_
  show wpAny _ _ (typeOf (.ref e) >>= fun x=>typeNameWhole x >>= fun tp=>pure tp) _ _ _
  refine wpAny_bind (t1.here (wpAny_bind (tn.here (wpAny_pure ?_))))
  rw [if_pos (by decide)]
  refine wpAny_bind (wpAny_pure ?_)
  show wpAny _ _ (Sem.onRaise (Bind.check _ _ _ _ []) _) _ _ _
  rw [check_varPos]
  refine wpAny_pure ?_
  unfold Builtin.«BaseException.__init__»
  dsimp only
  rw [if_neg (by simp)]
  unfold newTuple Builtin.BaseException.bexcPut
  have hz:0 < vs.size:=(Array.getElem?_eq_some_iff.mp h0).1
  have he1:=Heap.get?_push_of_some (h:=s.heap) (tupO [v]) he
  refine wpAny_bind (wpAny_newObj_type (wpAny_bind (wpAny_bind (wpAny_field he1 hd h0 (wpAny_bind (wpAny_setField he1 hd hz ?_))))) (by show 1<=sizeLine;decide))
  exact wpAny_letGo (wpAny_pure k)
end
end L2
namespace L2
open PySem PySem.Spec PyProof.Rows
noncomputable def tFmtI (te:TE):TE:=fun σ H Q=>te σ H fun v H1=>∃ n:Int,v=.int n/\n.natAbs.log2 < 1920/\∀ z:Str,z.length<=4000->Q (.str z) H1
theorem pe_fmtI {X:Cx} {e:Expr} {te:TE} {pos:Pos} (he:PE X e te):PE X (.FormattedValue e (-1) none pos) (tFmtI te):=by
  intro pins s σ H Q I h
  refine FormattedValue_plain (thn (he pins s σ H _ I h) fun u s1 h_q=>?_)
  obtain ⟨v,H1,I1,rv,n,ev,hn,q⟩:=h_q
  subst ev
  obtain ⟨tk,rfl⟩:=rv
  refine wpAny_formatField_int hn ⟨.str (toString n),H1,I1.tok _,⟨_,rfl⟩,q _ ?_⟩
  have e:=int_text_length_le (k:=1920) (by decide) hn
  rw [PySem.ofString_length];lia
end L2
namespace L2
open PySem PySem.Spec PyProof.Rows
section
variable {M:Model} {A:Around} {E:Value->Shared->Prop} {s:Shared} {env:Env}
noncomputable def RsOwn (M:Model) (E:Value->Shared->Prop) (v:Value) (s1:Shared):Prop :=
  ∃ (a C:Addr) (ob:Obj) (vs:Array Value),v=.ref a/\s1.heap.get? a=some ob/\ob.cls=.ref C/\ob.data=.fields vs/\vs[1]? = some .none/\PySem.W.Looks M s1.heap (isSubtype (.ref C) (.type "BaseException")) true/\PySem.W.Looks M s1.heap (typeOf (.ref C)) (.type "type")/\E (.ref a) s1
theorem raise_own {e : Expr} {pos:Pos} {Q:Flow->Shared->Prop} (hh:A.handled=none) (h:wpAny M A (eval e env) (RsOwn M E) E s):wpAny M A (exec (.Raise (some e) none pos) env) Q E s:=by
  show wpAny M A (do standAt pos
                     raiseStmt env (some (do let v <- eval e env;standAt pos;pure v)) none) Q E s
  refine wpAny_bind (wpAny_standAt ?_)
  unfold raiseStmt
  dsimp only
  refine wpAny_bind (wpAny_bind (wpAny_mono h (fun v s1 q=>wpAny_bind (wpAny_standAt (wpAny_pure ?_))) fun _ _ z=>z))
  obtain ⟨a,C,ob,vs,rfl,ha,hc,hd,h1,up,ty,hE⟩:=q
  have t1:PySem.W.Looks M s1.heap (typeOf (.ref a)) (.ref C):=by
    have:=PySem.W.Looks.ld (M:=M) (part:=none) ha
    exact this.andThen (by rw [hc];exact .now)
  have t2:PySem.W.Looks M s1.heap (isInstance (.ref a) (.type "BaseException")) true:=t1.andThen up
  have nt:∀ {Q':Bool->Shared->Prop},Q' false s1->wpAny M A (isType (.ref a)) Q' E s1:=fun {Q'} z=>by
    simp only [isType,loadHead]
    refine wpAny_bind (wpAny_loadPart ha ?_)
    rw [hd]
    exact wpAny_pure z
  refine wpAny_bind (wpAny_pure ?_)
  dsimp only
  refine wpAny_bind (wpAny_holding ?_)
  unfold excFromValue isExcClass
  refine wpAny_bind (wpAny_bind (nt ?_))
  simp only [Bool.false_eq_true,if_false]
  refine wpAny_pure ?_
  simp only [Bool.false_eq_true,if_false]
  refine wpAny_bind (t2.here ?_)
  simp only [if_true]
  refine wpAny_pure (wpAny_bind (nt ?_))
  simp only [Bool.false_eq_true,if_false]
  unfold raisedInstance
  refine wpAny_bind (wpAny_bind (t1.here (wpAny_bind (ty.here ?_))))
  rw [if_pos (by decide)]
  refine wpAny_pure ?_
  unfold setFlight raiseNew
  refine wpAny_bind (wpAny_bind (wpAny_field ha hd h1 ?_))
  rw [if_neg (by decide)]
  refine wpAny_pure (wpAny_bind (wpAny_handled ?_))
  rw [hh]
  first
    | exact wpAny_throw hE
    | exact wpAny_bind (wpAny_pure (wpAny_throw hE))
end
end L2
namespace L2
open PySem PySem.Spec PyProof.Rows
theorem dict_mapF {f:Array Value->Array Value} {o:Obj}:(Obj.mapFields f o).dict=o.dict:=by
  obtain ⟨c,d,dt,sl⟩:=o
  cases dt <;> rfl
structure Lft (fs:List Addr) (h h':Heap) (e:Addr) (oe:Obj) (vs:Array Value) (T:Addr) (r:Value):Prop where
  oth:∀ b o,b≠e->b ∉ fs->(∀ T0,vs[1]? = some (.ref T0)->b≠T0)->h.get? b=some o->h'.get? b=some o
  frm:∀ b o,b≠e->(∀ T0,vs[1]? = some (.ref T0)->b≠T0)->h.get? b=some o->∃ sl,h'.get? b=some { o with slots:=sl }
  exc:∃ oe' vs',h'.get? e=some oe'/\oe'.cls=oe.cls/\oe'.dict=oe.dict/\oe'.data=.fields vs'/\vs'[1]? = some (.ref T)
  tb:T≠e/\(h.objs.size<=T\/vs[1]? = some (.ref T))/\∃ oT ts,h'.get? T=some oT/\oT.data=.fields ts/\ts[3]? = some r
  old:∀ T0,vs[1]? = some (.ref T0)->T0≠e->(∃ o,h.get? T0=some o)->∃ o,h'.get? T0=some o
section
variable {M:Model} {A:Around} {E:Value->Shared->Prop} {s:Shared} {B:Heap} {env:Env} {outer:List Env} {L e:Addr} {oe:Obj} {vs:Array Value}
theorem entry_own {head:Value} {had:Bool} {Q:Unit->Shared->Prop} (hfr:A.frames=some (env::outer)) (hl:s.heap.FunFrames B (env::outer)) (hf:env.frame=some L) (he:s.heap.get? e=some oe) (hd:oe.data=.fields vs) (hz:1 < vs.size)
    (k:∀ h' T,Lft ((env::outer).filterMap (·.frame)) s.heap h' e oe vs T (rawInt L)->Q () { s with heap:=h' }) :
    wpAny M A (do let a <- frameOf env
                  let pl <- entryPlaceOf L had
                  let b <- EntryCells.newEntry head a .none (rawInt L) .none pl
                  setField (.ref e) 1 b) Q E s:=by
  have hne:e ∉ (env::outer).filterMap (·.frame):=fun hm=>by
    obtain ⟨_,o,ho,hnf⟩:=hl.mem hm
    rw [he] at ho
    cases ho
    exact hnf vs hd
  refine wpAny_bind (wpAny_frameOf_fun hfr hl hf fun h1 hs1=>?_)
  refine wpAny_bind (wpAny_entryPlaceOf fun pl hpl=>?_)
  unfold EntryCells.newEntry newFields
  refine wpAny_bind (wpAny_newObj_type ?_ (hpl.sizeOk5 _ _ _ _ _))
  have he1:h1.get? e=some oe:=(hs1.2.1 e hne).trans he
  generalize hO:({ cls:=.type "traceback",dict:=none,data:=.fields ([head,.ref L,.none,rawInt L,.none]++(if pl.isEmpty then List.replicate 6 Value.none else pl)).toArray }:Obj)=oT
  have hOd:oT.data=.fields ([head,.ref L,.none,rawInt L,.none]++(if pl.isEmpty then List.replicate 6 Value.none else pl)).toArray:=by rw [<- hO]
  have he2:=Heap.get?_push_of_some (h:=h1) oT he1
  refine wpAny_setField he2 hd hz (k _ h1.objs.size ?_)
  have hTe:h1.objs.size≠e:=Nat.ne_of_gt (Heap.lt_size he1)
  have d3:=Obj.data_mapFields hd (·.setIfInBounds 1 (Value.ref h1.objs.size))
  have g3:=Heap.get?_update_self (Obj.mapFields (·.setIfInBounds 1 (Value.ref h1.objs.size))) he2 (Obj.isFreed_of_fields d3)
  have hfr0:oT.isFreed=false:=by rw [<- hO];rfl
  have t3:=(Heap.get?_update_other (h1.push oT) (Obj.mapFields (·.setIfInBounds 1 (Value.ref h1.objs.size))) (Ne.symm hTe)).trans (Heap.get?_push_size h1 hfr0)
  have keep:∀ b o,b≠e->h1.get? b=some o->((h1.push oT).update e (Obj.mapFields (·.setIfInBounds 1 (Value.ref h1.objs.size)))).get? b=some o:=fun b o hbe hb=>by
    rw [Heap.get?_update_other _ _ (Ne.symm hbe)]
    exact Heap.get?_push_of_some _ hb
  refine ⟨fun b o hbe hbf _ hb=>keep b o hbe ((hs1.2.1 b hbf).trans hb),fun b o hbe _ hb=>?_,⟨_,_,g3,Obj.cls_mapFields _ _,dict_mapF,d3,by simp [hz]⟩,⟨hTe,.inl (Nat.le_of_eq (by first | exact hs1.1.symm | exact hs1.1)),⟨_,_,t3,hOd,by simp⟩⟩,fun T0 _ hne0 ⟨o,ho⟩=>?_⟩
  . obtain ⟨sl,hs⟩:=hs1.2.2 b o hb
    exact ⟨sl,keep b _ hbe hs⟩
  . obtain ⟨sl,hs⟩:=hs1.2.2 T0 o ho
    exact ⟨_,keep T0 _ hne0 hs⟩
theorem note_any {Q:Unit->Shared->Prop} (hfr:A.frames=some (env::outer)) (hl:s.heap.FunFrames B (env::outer)) (hf:env.frame=some L) (he:s.heap.get? e=some oe) (hd:oe.data=.fields vs)
    (h1:vs[1]? = some .none\/∃ T oT ts v,vs[1]? = some (.ref T)/\T≠e/\s.heap.get? T=some oT/\oT.data=.fields ts/\ts[3]? = some v/\(v=.none\/v=rawInt L))
    (k:∀ h' T,Lft ((env::outer).filterMap (·.frame)) s.heap h' e oe vs T (rawInt L)->Q () { s with heap:=h' }):wpAny M A (noteFrame (.ref e) env) Q E s:=by
  unfold noteFrame
  simp only [hf]
  rcases h1 with h1 | ⟨T,oT,ts,v,h1,hTe,hT,hdT,h3,hv⟩
  . refine wpAny_bind (wpAny_field he hd h1 ?_)
    rw [if_neg (by decide)]
    exact entry_own hfr hl hf he hd (Array.getElem?_eq_some_iff.mp h1).1 k
  . refine wpAny_bind (wpAny_field he hd h1 ?_)
    rw [if_pos (show (Value.ref T != Value.none)=true from by simp)]
    refine wpAny_bind (wpAny_field hT hdT h3 ?_)
    rcases hv with rfl | rfl
    . rw [if_neg (show ¬ ((Value.none == rawInt L)=true) from by simp [rawInt])]
      refine wpAny_bind (wpAny_setField hT hdT (Array.getElem?_eq_some_iff.mp h3).1 ?_)
      have oth:∀ b,b≠T->(s.heap.update T (Obj.mapFields (·.setIfInBounds 3 Value.none))).get? b=s.heap.get? b:=fun b hb=>Heap.get?_update_other _ _ (Ne.symm hb)
      have nr:∀ b o,s.heap.get? b=some o->(∀ us,o.data≠.fields us)->b≠T:=fun b o hb hnf q=>by
        rw [q,hT] at hb
        cases hb
        exact hnf ts hdT
      refine entry_own (s:={ s with heap:=s.heap.update T (Obj.mapFields (·.setIfInBounds 3 Value.none)) }) hfr (hl.of_keeps fun b o hb hnf=>⟨o,(oth b (nr b o hb hnf)).trans hb,rfl⟩) hf ((oth e (Ne.symm hTe)).trans he) hd (Array.getElem?_eq_some_iff.mp h1).1 fun h' T' q=>k h' T' ?_
      refine ⟨fun b o x1 x2 x3 x4=>q.oth b o x1 x2 x3 ((oth b (x3 T h1)).trans x4),fun b o x1 x3 x4=>q.frm b o x1 x3 ((oth b (x3 T h1)).trans x4),q.exc,⟨q.tb.1,?_,q.tb.2.2⟩,fun T0 g0 g1 _=>q.old T0 g0 g1 ?_⟩
      . have:=q.tb.2.1
        rwa [Heap.size_update] at this
      . rw [h1] at g0
        cases g0
        exact ⟨_,Heap.get?_update_self _ hT (Obj.isFreed_of_fields (Obj.data_mapFields hdT _))⟩
    . rw [if_pos (show (rawInt L == rawInt L)=true from by simp)]
      exact wpAny_pure (k s.heap T ⟨fun _ _ _ _ _ z=>z,fun b o _ _ z=>⟨o.slots,z⟩,⟨oe,vs,he,rfl,rfl,hd,h1⟩,⟨hTe,.inr h1,oT,ts,hT,hdT,h3⟩,fun _ _ _ z=>z⟩)
theorem flight_any {Q:Unit->Shared->Prop} {fr:Option Addr} {T:Addr} {oT:Obj} {ts:Array Value} {fs:List Addr} {v:Value} (he:s.heap.get? e=some oe) (hd:oe.data=.fields vs) (h1:vs[1]? = some (.ref T)) (hTe:T≠e) (hT:s.heap.get? T=some oT) (hdT:oT.data=.fields ts) (h3:ts[3]? = some v)
    (k:∀ h',Lft fs s.heap h' e oe vs T (fr.elim .none fun f=>rawInt f)->Q () { s with heap:=h' }):wpAny M A (setFlight (.ref e) fr) Q E s:=by
  unfold setFlight
  refine wpAny_bind (wpAny_field he hd h1 ?_)
  rw [if_pos (show (Value.ref T != Value.none)=true from by simp)]
  have hz:=(Array.getElem?_eq_some_iff.mp h3).1
  refine wpAny_setField hT hdT hz (k _ ?_)
  have d3:=Obj.data_mapFields hdT (·.setIfInBounds 3 (fr.elim Value.none fun f=>rawInt f))
  have g3:=Heap.get?_update_self (Obj.mapFields (·.setIfInBounds 3 (fr.elim Value.none fun f=>rawInt f))) hT (Obj.isFreed_of_fields d3)
  have oth:∀ b o,(∀ T0,vs[1]? = some (.ref T0)->b≠T0)->s.heap.get? b=some o->(s.heap.update T (Obj.mapFields (·.setIfInBounds 3 (fr.elim Value.none fun f=>rawInt f)))).get? b=some o:=fun b o hb hbo=>(Heap.get?_update_other _ _ (Ne.symm (hb T h1))).trans hbo
  refine ⟨fun b o _ _ x z=>oth b o x z,fun b o _ x z=>⟨o.slots,oth b o x z⟩,⟨oe,vs,(Heap.get?_update_other _ _ hTe).trans he,rfl,rfl,hd,h1⟩,⟨hTe,.inr h1,_,_,g3,d3,by simp [hz]⟩,fun T0 g0 _ _=>?_⟩
  rw [h1] at g0
  cases g0
  exact ⟨_,g3⟩
end
end L2
namespace L2
open PySem PySem.Spec PyProof.Rows
structure Catch (M:Model) (h:Heap) (C D:Addr) (b:Bool):Prop where
  nt:PySem.W.Looks M h (isInstance (.ref D) (.type "tuple")) false
  ty:PySem.W.Looks M h (isType (.ref D)) true
  ex:PySem.W.Looks M h (isSubtype (.ref D) (.type "BaseException")) true
  sb:PySem.W.Looks M h (isSubtype (.ref C) (.ref D)) b
section
variable {M:Model} {A:Around} {E:Value->Shared->Prop} {s:Shared} {env:Env} {e C D:Addr} {ob:Obj} {b:Bool}
theorem match_own {Q:Bool->Shared->Prop} (he:s.heap.get? e=some ob) (hc:ob.cls=.ref C) (c:Catch M s.heap C D b) (k:Q b s):wpAny M A (excMatches (.ref e) (.ref D)) Q E s:=by
  have t1:PySem.W.Looks M s.heap (typeOf (.ref e)) (.ref C):=by
    have:=PySem.W.Looks.ld (M:=M) (part:=none) he
    exact this.andThen (by rw [hc];exact .now)
  unfold excMatches
  refine wpAny_bind (c.nt.here ?_)
  simp only [Bool.false_eq_true,if_false]
  refine wpAny_bind (wpAny_pure ?_)
  have hx:PySem.W.Looks M s.heap (isExcClass (.ref D)) true:=by
    unfold isExcClass
    exact c.ty.andThen c.ex
  refine wpAny_bind ?_
  rw [List.forIn_cons]
  refine wpAny_bind (wpAny_bind (hx.here ?_))
  rw [if_neg (by decide)]
  refine wpAny_pure ?_
  dsimp only
  rw [List.forIn_nil]
  refine wpAny_pure (wpAny_bind (t1.here (wpAny_bind ?_)))
  rw [List.forIn_cons]
  refine wpAny_bind (wpAny_bind (c.sb.here ?_))
  cases b with
  | true =>
    rw [if_pos rfl]
    exact wpAny_pure (wpAny_pure (wpAny_pure k))
  | false =>
    rw [if_neg (by decide)]
    refine wpAny_pure ?_
    dsimp only
    rw [List.forIn_nil]
    exact wpAny_pure (wpAny_pure k)
end
section
variable {P:Program} {w:World} {A:Around} {E:Value->Shared->Prop} {s:Shared} {env:Env} {e C D:Addr} {ob:Obj} {b:Bool} {t:Expr} {b0:Stmt} {su:List Stmt} {pos:Pos} {rest:List ExceptHandler} {Q:Flow->Shared->Prop}
theorem handle_as {n:Str} (h:wpAny (model P w) (A.mark (some (.ref e))) (eval t env) (fun c s1=>c=.ref D/\(∃ ob,s1.heap.get? e=some ob/\ob.cls=.ref C)/\Catch (model P w) s1.heap C D true /\
      wpAny (model P w) (A.mark (some (.ref e))) (setFlight (.ref e) none) (fun _ s2=>wpAny (model P w) (A.mark (some (.ref e))) (storeName env n (.ref e)) (fun _ s3=>wpAny (model P w) (A.mark (some (.ref e))) (execs (b0::su) env)
        (fun f s4=>wpAny (model P w) A (do bindName env n .none;unbindBehindTheSuite env n pos) (fun _ s5=>Q f s5) E s4) (fun _ _=>False) s3) (fun _ _=>False) s2) (fun _ _=>False) s1) (fun _ _=>False) s) :
    wpAny (model P w) A (handleBy (.ref e) env (.ExceptHandler (some t) (some n) (b0::su) pos::rest)) Q E s:=by
  refine wpAny_handleBy_cons (codeAny_handlers_test (wpAny_mono h (fun c s1 q=>?_) fun _ _ x=>x.elim)) (by intro q;cases q)
  obtain ⟨rfl,⟨ob,he,hc⟩,hx,hk⟩:=q
  refine match_own he hc hx ?_
  exact codeAny_handlers_suite_as (wpAny_mono hk (fun _ s2 h2=>wpAny_mono h2 (fun _ s3 h3=>wpAny_mono h3 (fun f s4 h4=>h4) fun _ _ z=>z.elim) fun _ _ z=>z.elim) fun _ _ z=>z.elim)
end
end L2
namespace L2
open PySem PySem.Spec PyProof.Rows
noncomputable def rmH (H:Hp) (a:Addr):Hp:=fun b=>if b=a then none else H b
theorem rmH_same {H:Hp} {a:Addr}:rmH H a a=none:=if_pos rfl
theorem rmH_ne {H:Hp} {a b:Addr} (h:b≠a):rmH H a b=H b:=if_neg h
theorem rmH_no {H:Hp} {a b:Addr} (h:H b=none):rmH H a b=none:=by
  by_cases e:b=a
  . rw [e];exact rmH_same
  . rw [rmH_ne e];exact h
section
variable {X:Cx} {pins:List (Addr × Obj)} {σ:St} {H:Hp} {s:Shared} {a:Addr} {φ:Heap->Prop}
theorem Inv.forget (I:Inv X pins σ H s) (h:H a=some (.ext φ)):Inv X pins σ (rmH H a) s:=by
  have kp:∀ b o,H b=some o->(∀ ψ,o≠.ext ψ)->rmH H a b=some o:=fun b o hb hn=>by
    rw [rmH_ne fun e=>by rw [e,h] at hb;cases hb;exact hn φ rfl]
    exact hb
  have u:=I.base
  refine ⟨I.ok,I.os,I.bare,⟨u.keep,u.slot,fun b o x y z=>rmH_no (u.free b o x y z),u.there,fun b xs z=>kp b _ (u.tups b xs z) (fun _ e=>nomatch e),fun b o v z=>kp b _ (u.frzs b o v z) (fun _ e=>nomatch e),fun b ps z=>?_⟩,I.loc,I.cell,rmH_no I.free,fun x c z=>rmH_no (I.freeC x c z),fun p hp=>?_,fun c v hc=>?_,I.len⟩
  . obtain ⟨m,y⟩:=u.tbls b ps z
    exact ⟨m,kp b _ y (fun _ e=>nomatch e)⟩
  . obtain ⟨p1,p2,p3⟩:=I.pin p hp
    exact ⟨p1,rmH_no p2,p3⟩
  . have hca:c≠a:=fun e=>by rw [e,rmH_same] at hc;cases hc
    rw [rmH_ne hca] at hc
    exact (I.hok c v hc).stay (fun _ _ _ z=>z) (fun b z=>kp b _ z (fun _ e=>nomatch e)) fun b xs z=>kp b _ z (fun _ e=>nomatch e)
end
end L2
namespace L2
open PySem PySem.Spec PyProof.Rows Builtin Builtin.ObjectAttr
noncomputable def xbm:List Value:=[.type "ValueError",.type "Exception",.type "BaseException",.type "object"]
noncomputable def isRf:Value->Bool
  | .ref _=>true
  | _=>false
noncomputable def overX (K:PySem.W.Frag) (C:Addr):Bool:=(PySem.W.clsIn K C).any fun cd=>cd.mro.contains (.type "object") && cd.mro.dropWhile isRf == xbm
theorem refuseX (self:Value) (l:List Value) (h:l.dropWhile isRf=xbm):refuseLoop self "__setattr__" l=pure ():=by
  induction l with
  | nil=>cases h
  | cons a l ih =>
    cases a with
    | ref C =>
      rw [refuseLoop_ref]
      exact ih h
    | _ =>
      rw [show _::l=xbm from h]
      exact PySem.F.store_ValueError.passes self
section
variable {prog:Program} {w:World} {K:PySem.W.Frag} {A:Around} {E:Value->Shared->Prop} {s:Shared} {x C:Addr} {ox:Obj} {vs:Array Value} {name:Str} {v:Value} {R:Result->Shared->Prop}
theorem osaX_open {tk:Tok} {od:Option Obj} (X:K.In s.heap) (I:PySem.W.InstAt s.heap x ox C od) (hp:overX K C=true) (ht:PySem.W.takerIn K C name=some none)
    (h : ∀ b,wpAny (model prog w) A.in1 (storeInOwnDict (.ref x) (.ref C) (.str name tk) name v b)
      (fun fin s'=>match fin with | .done f=>R (.ok f) s' | .again c'=>c'.quiet=true/\codeAny (model prog w) A c' R s') (fun e s'=>R (.error e) s') s) :
    codeAny (model prog w) A (.call (.builtin "object.__setattr__") ⟨[.ref x,.str name tk,v],[]⟩) R s:=by
  have SF:=PySem.F.store_ValueError
  obtain ⟨cd,hc,ho⟩:=PySem.W.any_some hp
  rw [Bool.and_eq_true] at ho
  have ho2:cd.mro.dropWhile isRf=xbm:=by simpa using ho.2
  have ne:cd.mro.isEmpty=false:=by cases q:cd.mro with | nil=>rw [q] at ho2;cases ho2 | cons _ _=>rfl
  have sub:PySem.W.Looks (model prog w) s.heap (isInstance (.ref x) (.type "object")) true:=I.type.andThen (PySem.W.looks_mroIn X (by unfold PySem.W.mroIn;rw [hc,Option.bind_some,if_neg (by rw [ne];decide),ho.1]))
  refine codeAny_call_builtin SF.slot.plain SF.entry (@PySem.W.check_slot (model prog w) _ _ s "object.__setattr__" "object" "__setattr__" (.ref x) [.str name tk,v] [] _ SF.kind SF.split sub (SF.args (.ref x) (.str name tk) v) ?_)
  obtain ⟨attr,ha,hr⟩:=Option.bind_eq_some_iff.mp ht
  have hm:PySem.W.Looks (model prog w) s.heap (mroOf (.ref C)) cd.mro:=(PySem.W.looks_clsIn X hc).andThen .now
  have L3:PySem.W.Looks (model prog w) s.heap (storeTaker? attr) none:=by
    cases attr with
    | none=>exact .now
    | some a =>
      obtain ⟨b,hb,hb2⟩:=Option.map_eq_some_iff.mp hr
      refine (PySem.W.looks_takesIn X hb).andThen ?_
      cases b
      . exact .now
      . cases hb2
  rw [PySem.W.osa_eq,refuse_eq]
  refine wpAny_bind (wpAny_bind (I.type.here (wpAny_bind (hm.here ?_))))
  rw [refuseX _ _ ho2]
  refine wpAny_pure (wpAny_bind (I.type.here (wpAny_bind ((PySem.W.looks_findIn X ha).here (wpAny_bind (L3.here ?_))))))
  exact h _
theorem setX_none {Q:Unit->Shared->Prop} (X:K.In s.heap) (hx:s.heap.get? x=some ox) (hcl:ox.cls=.ref C) (hdn:ox.dict=none) (hd:ox.data=.fields vs)
    (hs:PySem.W.findIn K (.ref C) "__setattr__"=some (some (.builtin "object.__setattr__"))) (hp:overX K C=true) (ht:PySem.W.takerIn K C name=some none) (hh:PySem.W.hasDictIn K C=true)
    (h:∀ h',h'.get? x=some { ox with dict:=some s.heap.objs.size }->h'.Ns1 s.heap.objs.size (fun y=>if y=name then some v else none)->(∀ b o,b≠x->s.heap.get? b=some o->h'.get? b=some o)->Q () { s with heap:=h',toks:=s.toks + 2 }) :
    wpAny (model prog w) A (setAttr (.ref x) name v) Q E s:=by
  obtain ⟨oc,odi,oda,osl⟩:=ox
  dsimp only at hcl hdn hd
  subst hcl hdn hd
  have J:PySem.W.InstAt s.heap x ⟨.ref C,none,.fields vs,osl⟩ C none:=⟨hx,rfl,rfl,trivial⟩
  refine PySem.W.set_plain X J hs (osaX_open (s:={ s with toks:=s.toks + 1 }) X J hp ht fun b=>?_)
  obtain ⟨cd,hc,hd'⟩:=PySem.W.any_some hh
  refine wpAny_bind (wpAny_pure (wpAny_bind (wpAny_bind (wpAny_loadPart hx (wpAny_bind (PySem.W.Looks.here (s:={ s with toks:=s.toks + 1 }) (PySem.W.looks_clsIn X hc) ?_))))))
  rw [hd']
  have hx1:(s.heap.push { cls:=.type "dict",data:=.dict #[] }).get? x=some ⟨.ref C,none,.fields vs,osl⟩:=Heap.get?_push_of_some _ hx
  have hxs:x≠s.heap.objs.size:=Nat.ne_of_lt (Heap.lt_size hx)
  have hgd:((s.heap.push { cls:=.type "dict",data:=.dict #[] }).update x fun o=>{ cls:=o.cls,dict:=some s.heap.objs.size,data:=o.data,slots:=o.slots }).get? s.heap.objs.size=some { cls:=.type "dict",data:=.dict #[] } :=
    (Heap.get?_update_ne _ _ _ _ hxs.symm).trans (Heap.get?_push_at rfl rfl)
  have hnd:((s.heap.push { cls:=.type "dict",data:=.dict #[] }).update x fun o=>{ cls:=o.cls,dict:=some s.heap.objs.size,data:=o.data,slots:=o.slots }).Ns s.heap.objs.size (fun _=>none) :=
    ⟨_,#[],_,hgd,rfl,fun e he=>absurd he (by simp),fun _=>rfl⟩
  refine wpAny_bind (wpAny_alloc' (wpAny_bind (wpAny_update' hx1 (wpAny_pure ?_))))
  show wpAny _ _ (storeInDict s.heap.objs.size (.str name _) name v) _ _ _
  unfold storeInDict newKeyGuard
  refine wpAny_bind (wpAny_pure (wpAny_bind (wpAny_nsSet1 (Heap.Ns1.of_empty hnd) fun h' hn' hs'=>?_)))
  obtain ⟨oD,esD,epD,hoD,hdD,hcD⟩:=hn'.count (Within.cons name v Within.nil)
  refine wpAny_bind (wpAny_lookBehind hoD (by rw [hdD];exact pastItsLine_dict (Nat.le_trans hcD (by rw [List.length_cons,List.length_nil,sizeLine_eq];lia))) ?_)
  refine wpAny_pure (h h' ?_ hn' fun b o hb hbo=>?_)
  . exact (hs'.2 x hxs).trans (Heap.get?_update_self _ hx1 rfl)
  . exact (hs'.2 b (Nat.ne_of_lt (Heap.lt_size hbo))).trans ((Heap.get?_update_ne _ _ _ _ hb).trans (Heap.get?_push_of_some _ hbo))
end
end L2
namespace L2
open PySem PySem.Spec PyProof.Rows
structure XCl (K:PySem.W.Frag) (C f:Addr):Prop where
  makes:makesX K C=true
  init:PySem.W.findIn K (.ref C) "__init__"=some (some (.ref f))
  fn:PySem.W.isFn K (.ref f)=true
  kp:PySem.W.keepIn K (.ref C)=true
  sa:PySem.W.findIn K (.ref C) "__setattr__"=some (some (.builtin "object.__setattr__"))
  over:overX K C=true
  hd:PySem.W.hasDictIn K C=true
  up:PySem.W.mroIn K C (.type "BaseException")=some true
  upv:PySem.W.mroIn K C (.type "ValueError")=some true
  ty:PySem.W.typeIn K (.ref C)=some (.type "type")
structure XBase (K:PySem.W.Frag) (F:Addr):Prop where
  ga:PySem.W.specialIn K (.ref F) "__getattribute__"=some (some (.builtin "type.__getattribute__"))
  rd:PySem.W.readsIn K F (.type "type")=true
  fc:PySem.W.findCls K (.ref F) (.type "type") "__init__"=some (.val (.builtin "ValueError.__init__"))
structure CatchIn (K:PySem.W.Frag) (C D:Addr) (b:Bool):Prop where
  nt:PySem.W.instIn K (.ref D) (.type "tuple")=some false
  ty:PySem.W.isClsIn K D=true
  ex:PySem.W.mroIn K D (.type "BaseException")=some true
  sb:PySem.W.mroIn K C (.ref D)=some b
  kp:PySem.W.keepIn K (.ref D)=true
end L2
namespace L2
open PySem PySem.Spec PyProof.Rows
noncomputable def XO (a C:Addr) (dx:Option Addr):HO:=.ext fun h=>∃ ob vs t0,h.get? a=some ob/\ob.cls=.ref C/\ob.dict=dx/\ob.data=.fields vs/\vs[0]? = some (.ref t0)/\vs[1]? = some .none
section
variable {P:Program} {w:World} {H:Hp} {h:Heap} {a C:Addr} {dx:Option Addr}
theorem XO.ok {ob:Obj} {vs:Array Value} {t0:Addr} (h1:h.get? a=some ob) (h2:ob.cls=.ref C) (h3:ob.dict=dx) (h4:ob.data=.fields vs) (h5:vs[0]? = some (.ref t0)) (h6:vs[1]? = some .none):ObjOk P w H h a (XO a C dx) :=
  ⟨⟨ob,vs,t0,h1,h2,h3,h4,h5,h6⟩,⟨ob,h1⟩,fun h1 h2 ⟨ob,vs,t0,q1,q⟩ k=>⟨ob,vs,t0,k _ q1,q⟩⟩
theorem XO.get (hk:HOk P w H h) (e:H a=some (XO a C dx)):∃ ob vs t0,h.get? a=some ob/\ob.cls=.ref C/\ob.dict=dx/\ob.data=.fields vs/\vs[0]? = some (.ref t0)/\vs[1]? = some .none:=(hk a _ e).1
end
theorem upd_self {H:Hp} {a:Addr} {o:HO} (h:H a=some o):upd H a o=H:=by
  funext b
  by_cases e:b=a
  . rw [e,upd_same,h]
  . rw [upd_ne e]
noncomputable def tSup (K:PySem.W.Frag) (t:TA):TE:=fun σ H Q=>t σ H fun vs H1=>∃ x C g v,vs=[.ref x,v]/\H1 x=some (XO x C none)/\XCl K C g/\Q .non H1
noncomputable def sXset (K:PySem.W.Frag) (ta tv:TE) (f:Str):TS:=fun D σ H=>tv σ H fun y H1=>ta σ H1 fun x H2=>∃ a C g,x=.ref a/\H2 a=some (XO a C none)/\XCl K C g/\NoAttr K C f/\∀ dx,H2 dx=none->dx≠a->D.nx σ (upd (upd H2 dx (.xd [(f,y)])) a (XO a C (some dx)))
section
variable {X:Cx} {x f:Str} {p apos pos pos':Pos} {e o value:Expr} {es:List Expr} {t:TA} {ta tv:TE} {F:Addr}
theorem pe_sup {pl:Sem Bool} (b:XBase X.K F) (hg:Gl X x) (hm:X.mg x=some (.ref F)) (ha:PA X (e::es) t) (hdb:(x == ("__debug__":Str))=false:=by decide)
    (hst:starEach (e::es) X.env=(false,eval e X.env)::starEach es X.env:=by rfl) (hpl:(backTo pos (starEach es X.env)).any (·.1)=false:=by rfl)
    (ht : eval (.Call (.Attribute (.Name x p) "__init__" apos) (e::es) [] pos) X.env=(do
      let ov <- eval (.Name x p) X.env
      standAt apos.atName
      let (f,first) <- holding [ov] (getMethod ov "__init__" pl)
      callWith pos f first (backTo pos (starEach (e::es) X.env)) (backToKw pos (keywordEach [] X.env))):=by rfl) :
    PE X (.Call (.Attribute (.Name x p) "__init__" apos) (e::es) [] pos) (tSup X.K t):=by
  intro pins s σ H Q I h
  refine PySem.W.methodCall_KW (pl:=pl) (ld_glob I hg hm ?_ hdb) ht
  refine PySem.W.method_cls I.kIn b.ga (PySem.W.cls_value I.kIn b.rd b.fc (by decide +kernel) ?_)
  have I0:=I.tok (s.toks + 1)
  refine callWith_builtin1 (thn (ha pos pins _ σ H _ I0 h) fun us s1 ⟨vs,H1,I1,r1,q1⟩=>?_) hst hpl
  obtain ⟨a,C,g,v,rfl,hx,c,q⟩:=q1
  cases r1 with
  | cons ra r1 =>
  cases r1 with
  | @cons _ u2 _ _ rv r1 =>
  cases r1
  cases ra
  obtain ⟨ob,fs,t0,ho,hc,hd,hf,h0,h1⟩:=XO.get I1.hok hx
  obtain ⟨cd,hcd,_⟩:=PySem.W.any_some c.hd
  obtain ⟨oc,od,sl,hC⟩:∃ oc od sl,s1.heap.get? C=some ⟨oc,od,.cls cd,sl⟩:=by
    unfold PySem.W.clsIn at hcd
    split at hcd
    . rename_i oc od cd' sl hl
      cases hcd
      exact ⟨oc,od,sl,I1.kIn _ _ hl⟩
    . cases hcd
  have hup:=PySem.W.looks_mroIn (M:=model X.prog X.w) I1.kIn c.upv
  refine init_own hC hup ho hc hf h0 ⟨.non,H1,?_,rfl,q⟩
  have hz:0 < fs.size:=(Array.getElem?_eq_some_iff.mp h0).1
  have hob:=Heap.get?_push_of_some (h:=s1.heap) (tupO [u2]) ho
  have g3:=Heap.get?_update_self (Obj.mapFields (·.setIfInBounds 0 (Value.ref s1.heap.objs.size))) hob (Obj.isFreed_of_fields (Obj.data_mapFields hf _))
  have:=I1.write (t':=s1.toks) (x:=a) (e:=a) (o:=XO a C none) (h':=(s1.heap.push (tupO [u2])).update a (Obj.mapFields (·.setIfInBounds 0 (.ref s1.heap.objs.size)))) (by rw [hx];exact True.intro) (.inl rfl)
    (fun b u hb q=>(Heap.get?_update_other _ _ (Ne.symm hb)).trans (Heap.get?_push_of_some _ q)) ⟨_,g3⟩
    (XO.ok g3 ((Obj.cls_mapFields _ _).trans hc) (dict_mapF.trans hd) (Obj.data_mapFields hf _) (t0:=s1.heap.objs.size) (by simp [hz]) (by rw [<- h1];simp))
  rwa [upd_self hx] at this
theorem ps_xset (ha:PE X o ta) (hv:PE X value tv) (hs:swapsWith value (some (.Attribute o f pos')) pos.line X.env=pure false:=by rfl):PS X (.Assign [.Attribute o f pos'] value pos) (sXset X.K ta tv f):=by
  intro pins s σ H D I h
  refine plainObj_wpAny_Assign_Attribute (thn (hv pins s σ H _ I h) fun u s1 ⟨y,H1,I1,ry,q⟩=>thn (ha pins s1 σ H1 _ I1 q) fun ov s2 ⟨x,H2,I2,rx,a,C,g,ex,ea,c,n,q2⟩=>?_) hs
  subst ex
  obtain rfl:ov=Value.ref a:=rx
  obtain ⟨ob,fs,t0,ho,hc,hd,hf,h0,h1⟩:=XO.get I2.hok ea
  refine setX_none I2.kIn ho hc hd hf c.sa c.over n.taker c.hd fun h' g1 g2 g3=>?_
  have hlt:=Heap.lt_size ho
  have hne:s2.heap.objs.size≠a:=Nat.ne_of_gt hlt
  refine ⟨σ,_,?_,q2 s2.heap.objs.size (I2.hok.fresh (Nat.le_refl _)) hne⟩
  obtain ⟨oD,es',ep,hD,hrest⟩:=id g2
  have hfr:oD.isFreed=false:=(Heap.get?_some_iff.mp hD).2
  have hp:=Heap.get?_push_size s2.heap (o:=oD) hfr
  have J:=I2.laid (a:=s2.heap.objs.size) (o:=.xd [(f,y)]) (h':=s2.heap.push oD) (t':=s2.toks + 2) (fun b u q=>Heap.get?_push_of_some _ q) (Nat.le_refl _) ?_
  . refine J.write (t':=s2.toks + 2) (x:=a) (e:=a) (h':=h') (by rw [upd_ne hne.symm,ea];exact True.intro) (.inl rfl) (fun b u hb q=>?_) ⟨_,g1⟩ (XO.ok g1 hc rfl hf h0 h1)
    by_cases e:b=s2.heap.objs.size
    . subst e
      rw [hp] at q
      cases q
      exact hD
    . refine g3 b u hb ?_
      rw [<- q]
      exact (Heap.get?_push_ne _ _ _ e).symm
  . refine ⟨_,Heap.Ns1.at (h:=h') g2 fun o q=>?_,fun g=>?_⟩
    . rw [hD] at q
      cases q
      exact hp
    . show RelO (List.lookup g [(f,y)]) (if g=f then some u else none)
      by_cases e:g=f
      . rw [if_pos e,List.lookup_cons,beq_iff_eq.mpr e];exact ry
      . rw [if_neg e,List.lookup_cons,beq_eq_false_iff_ne.mpr e];exact True.intro
end
end L2
namespace L2
open PySem PySem.Spec PyProof.Rows
noncomputable def StT (h:Heap) (H:Hp) (n:Addr->Prop) (z:Prop) (r:Value->Prop) (a:Addr) (vs:Array Value):Prop :=
  (z/\vs[1]? = some .none)\/∃ T oT ts v,vs[1]? = some (.ref T)/\T≠a/\n T/\h.get? T=some oT/\oT.data=.fields ts/\ts[3]? = some v/\H T=none/\r v
noncomputable def Flo (h:Heap) (H:Hp) (n:Addr->Prop) (E:XK) (z:Prop) (r:Value->Prop) (a:Addr):Prop :=
  ∃ C dx ob vs,n a/\H a=none/\h.get? a=some ob/\ob.cls=.ref C/\ob.dict=some dx/\ob.data=.fields vs/\StT h H n z r a vs/\E (.ref C) (some dx) H
noncomputable def CXX (P:Program) (w:World):CXT:=fun outer H s E e s'=>∃ a H',e=.ref a/\s'.os=s.os/\AllBare s'.gens/\Un (frs outer) [] H H' s.heap s'.heap/\HOk P w H' s'.heap/\Flo s'.heap H' (s.heap.objs.size<=·) E False (·=.none) a
noncomputable def New (X:Cx) (pins:List (Addr × Obj)) (b:Addr):Prop:=X.s₀.heap.objs.size<=b/\∀ p∈X.pn++pins,p.1≠b
noncomputable def FlyT (X:Cx) (pins:List (Addr × Obj)) (σ:St) (E:XK) (z:Prop) (r:Value->Prop) (a:Addr) (s:Shared):Prop:=∃ H,Inv X pins σ H s/\Flo s.heap H (New X pins) E z r a
noncomputable def rAny (X:Cx):Value->Prop:=fun v=>v=.none\/v=rawInt X.env.locals
noncomputable def XF (X:Cx) (E:XK):Value->Shared->Prop:=fun e s=>∃ a σ,e=.ref a/\FlyT X [] σ E True (rAny X) a s
structure Bod (X:Cx):Prop where
  st:X.stack=X.env::X.outer
  fr:X.env.frame=some X.env.locals
section
variable {X:Cx} {pins:List (Addr × Obj)} {σ:St} {H:Hp} {s:Shared} {E:XK} {z:Prop} {r:Value->Prop} {a:Addr}
theorem Flo.weak {h:Heap} {n m:Addr->Prop} {z':Prop} {r':Value->Prop} (f:Flo h H n E z r a) (hm:∀ b,n b->m b) (hz:z->z') (hr:∀ v,r v->r' v):Flo h H m E z' r' a:=by
  obtain ⟨C,dx,ob,vs,f1,f2,f3,f4,f5,f6,st,q⟩:=f
  refine ⟨C,dx,ob,vs,hm _ f1,f2,f3,f4,f5,f6,?_,q⟩
  rcases st with ⟨x,y⟩ | ⟨T,oT,ts,v,t1,t2,t3,t4,t5,t6,t7,t8⟩
  . exact .inl ⟨hz x,y⟩
  . exact .inr ⟨T,oT,ts,v,t1,t2,hm _ t3,t4,t5,t6,t7,hr v t8⟩
theorem FlyT.xf {b:Prop} (f:FlyT X [] σ E z r a s) (hr:∀ v,r v->rAny X v):XF X E (.ref a) s:=by
  obtain ⟨H,I,f⟩:=f
  exact ⟨a,σ,rfl,H,I,f.weak (fun _ z=>z) (fun _=>trivial) hr⟩
theorem Inv.unpin (I:Inv X pins σ H s):Inv X [] σ H s:=I.pins_of fun p hp=>absurd hp (by simp)
theorem Inv.newA (I:Inv X pins σ H s) {b:Addr} (h:s.heap.objs.size<=b):New X pins b:=⟨Nat.le_trans I.sz h,fun p hp e=>absurd (Heap.lt_size (I.pin p hp).1) (by rw [e];exact Nat.not_lt.mpr h)⟩
theorem fly_step (B:Bod X) (I:Inv X pins σ H s) {C dx T:Addr} {ob:Obj} {vs:Array Value} {h':Heap} {v':Value} (f1:New X pins a) (f2:H a=none) (f3:s.heap.get? a=some ob) (f4:ob.cls=.ref C) (f5:ob.dict=some dx) (f6:ob.data=.fields vs)
    (st:StT s.heap H (New X pins) z r a vs) (q:E (.ref C) (some dx) H) (l:Lft (frs X.stack) s.heap h' a ob vs T v'):FlyT X pins σ E False (·=v') a { s with heap:=h' }:=by
  have hT0:∀ T0,vs[1]? = some (.ref T0)->T0≠a/\New X pins T0/\H T0=none/\∃ o ts,s.heap.get? T0=some o/\o.data=.fields ts:=fun T0 h0=>by
    rcases st with ⟨_,y⟩ | ⟨T,oT,ts,v,t1,t2,t3,t4,t5,t6,t7,t8⟩
    . rw [y] at h0;cases h0
    . rw [t1] at h0;cases h0;exact ⟨t2,t3,t7,oT,ts,t4,t5⟩
  obtain ⟨ch,hch⟩:∃ ch:List Addr,∀ b,b∈ch ↔ (b=a\/vs[1]? = some (.ref b)):=by
    rcases st with ⟨_,y⟩ | ⟨T,oT,ts,v,t1,t2,t3,t4,t5,t6,t7,t8⟩
    . exact ⟨[a],fun b=>by rw [y];simp⟩
    . exact ⟨[a,T],fun b=>by rw [t1];simp [eq_comm]⟩
  have nfld:∀ b o ts,s.heap.get? b=some o->o.data=.fields ts->b≠X.env.locals/\∀ x c,X.env.cells.lookup x=some c->c≠b:=fun b o ts hb hd=>by
    refine ⟨fun e=>?_,fun x c hc e=>?_⟩
    . obtain ⟨m,⟨o',es,ep,ho,rr⟩,_⟩:=I.loc
      rw [<- e,hb] at ho
      cases ho
      rw [rr.1] at hd
      cases hd
    . obtain ⟨v,o',ho,hv⟩:=I.cell x c hc
      rw [e,hb] at ho
      cases ho
      rw [hv] at hd
      cases hd
  have hok:HOk X.prog X.w H h':=fun c v hcv=>by
    have tr:∀ b v,H b=some v->∀ o,s.heap.get? b=some o->h'.get? b=some o:=fun b v hbv o ho=>by
      refine l.oth b o (fun e=>by rw [e,f2] at hbv;cases hbv) (fun m=>?_) (fun T0 h0 e=>by rw [e,(hT0 T0 h0).2.2.1] at hbv;cases hbv) ho
      rw [I.stkFree b m] at hbv
      cases hbv
    exact (I.hok c v hcv).stay (fun b u hb ho=>hb.elim (fun e=>tr b v (e ▸ hcv) u ho) fun e=>tr b _ e u ho) (fun _ z=>z) fun _ _ z=>z
  have nch:∀ b,b ∉ ch->b≠a/\∀ T0,vs[1]? = some (.ref T0)->b≠T0:=fun b hb=>⟨fun e=>hb ((hch b).mpr (.inl e)),fun T0 h0 e=>hb ((hch b).mpr (.inr (e ▸ h0)))⟩
  have u:Un (frs X.stack) ch H H s.heap h':=⟨fun b o hb _ hf hc=>l.oth b o (nch b hc).1 hf (nch b hc).2 hb,fun b o hb _ _ hc=>l.frm b o (nch b hc).1 (nch b hc).2 hb,fun _ _ _ n _=>n,fun b o hb hc=>?_,fun _ _ e=>e,fun _ _ _ e=>e,fun b ps e=>⟨#[],by rw [e];simp⟩⟩
  . have J:Inv X pins σ H { s with heap:=h' }:=I.call (g':=s.gens) (d':=s.drawn) (t':=s.toks) u hok I.bare fun b hb=>?_
    . obtain ⟨oe',vs',g1,g2,g3,g4,g5⟩:=l.exc
      obtain ⟨t1,t2,oT,ts,t3,t4,t5⟩:=l.tb
      refine ⟨H,J,C,dx,oe',vs',f1,f2,g1,g2.trans f4,g3.trans f5,g4,.inr ⟨T,oT,ts,v',g5,t1,?_,t3,t4,t5,?_,rfl⟩,q⟩
      . exact t2.elim (fun x=>I.newA x) fun x=>(hT0 T x).2.1
      . exact t2.elim (fun x=>I.hok.fresh x) fun x=>(hT0 T x).2.2.1
    . rcases (hch b).mp hb with e | e
      . have:=nfld a ob vs f3 f6
        subst e
        exact ⟨.inr f1.1,this.1,this.2,f1.2⟩
      . obtain ⟨y1,y2,y3,o,ts,y4,y5⟩:=hT0 b e
        have:=nfld b o ts y4 y5
        exact ⟨.inr y2.1,this.1,this.2,y2.2⟩
  . obtain ⟨sl,x⟩:=l.frm b o (nch b hc).1 (nch b hc).2 hb
    exact ⟨_,x⟩
theorem fly_note {R:Value->Shared->Prop} {Q:Unit->Shared->Prop} (B:Bod X) (f:FlyT X pins σ E z (rAny X) a s) (k:∀ s',FlyT X pins σ E False (·=rawInt X.env.locals) a s'->Q () s'):wpAny (model X.prog X.w) X.A (noteFrame (.ref a) X.env) Q R s:=by
  obtain ⟨H,I,C,dx,ob,vs,f1,f2,f3,f4,f5,f6,st,q⟩:=f
  have hF:=I.stack
  rw [B.st] at hF
  refine note_any (B:=X.base) (I.ok.frames.trans (by rw [B.st])) hF B.fr f3 f6 ?_ fun h' T l=>k _ (fly_step B I f1 f2 f3 f4 f5 f6 st q (by rw [B.st];exact l))
  rcases st with ⟨_,y⟩ | ⟨T,oT,ts,v,t1,t2,t3,t4,t5,t6,t7,t8⟩
  . exact .inl y
  . exact .inr ⟨T,oT,ts,v,t1,t2,t4,t5,t6,t8⟩
theorem fly_set {R:Value->Shared->Prop} {Q:Unit->Shared->Prop} {fr:Option Addr} {A:Around} (B:Bod X) (f:FlyT X pins σ E False r a s) (k:∀ s',FlyT X pins σ E False (·=fr.elim .none fun f=>rawInt f) a s'->Q () s'):wpAny (model X.prog X.w) A (setFlight (.ref a) fr) Q R s:=by
  obtain ⟨H,I,C,dx,ob,vs,f1,f2,f3,f4,f5,f6,st,q⟩:=f
  have st':=st
  rcases st with ⟨y,_⟩ | ⟨T,oT,ts,v,t1,t2,t3,t4,t5,t6,t7,t8⟩
  . exact y.elim
  . exact flight_any f3 f6 t1 t2 t4 t5 t6 fun h' l=>k _ (fly_step B I f1 f2 f3 f4 f5 f6 st' q l)
theorem own_pass (B:Bod X):PassesOwn (model X.prog X.w) X.A X.env (XF X E):=by
  rintro e s ⟨a,σ,rfl,f⟩
  refine fly_note B f fun s1 f1=>?_
  have f1':=f1
  obtain ⟨H,I,C,dx,ob,vs,_,_,f3,_,_,f6,st,_⟩:=f1
  rcases st with ⟨y,_⟩ | ⟨T,oT,ts,v,t1,t2,t3,t4,t5,t6,t7,t8⟩
  . exact y.elim
  . refine wpAny_bind (wpAny_field f3 f6 t1 ?_)
    rw [if_neg (by simp)]
    refine fly_set B f1' fun s2 f2=>f2.xf (b:=True) fun v hv=>.inr ?_
    rw [hv,B.fr]
    rfl
end
section
variable {P:Program} {w:World} {K:PySem.W.Frag} {mg:Str->Option Value} {base:Heap} {N:List Str} {qual:Str} {scope:Scope} {f:Addr} {cd:Value} {A:Around} {outer:List Env} {s0 s:Shared} {H0:Hp} {E:XK}
theorem bod_of {CX:CXT}:Bod (cxOf CX P w K mg base N qual scope f cd A outer s0 H0 E):=⟨rfl,rfl⟩
theorem fly_end {e:Value} (h:XF (cxOf (CXX P w) P w K mg base N qual scope f cd A outer s0 H0 E) E e s):(cxOf (CXX P w) P w K mg base N qual scope f cd A outer s0 H0 E).xe e s:=by
  obtain ⟨a,σ,rfl,h⟩:=h
  refine wpAny_bind (fly_note bod_of h fun s1 h1=>fly_set (A:=A.deeper (envOfC qual scope s0.heap.objs.size f cd)) bod_of h1 fun s2 h2=>?_)
  obtain ⟨H,I,q⟩:=h2
  exact ⟨a,H,rfl,I.os,I.bare,I.base,I.hok,q.weak (fun b h=>h.1) (fun z=>z) fun _ z=>z⟩
theorem pss_fly {st:List Stmt} {t:TS} (h:PSs ((cxOf (CXX P w) P w K mg base N qual scope f cd A outer s0 H0 E).wish (XF (cxOf (CXX P w) P w K mg base N qual scope f cd A outer s0 H0 E) E)) st t):PSs (cxOf (CXX P w) P w K mg base N qual scope f cd A outer s0 H0 E) st t:=fun pins s σ H D I hw =>
  wpAny_mono (h pins s σ H D (I.wish _) hw) (fun _ _ q=>q.unwish) fun _ _ q=>fly_end q
end
end L2
namespace L2
open PySem PySem.Spec PyProof.Rows
theorem Un.kp {K:PySem.W.Frag} {fs ex:List Addr} {H H':Hp} {h h':Heap} (u:Un fs ex H H' h h'):Kp K H H':=⟨fun a xs q=>by
  rcases q with (q | ⟨o,q⟩) | q
  . exact .inl (.inl (u.tups _ _ q))
  . exact .inl (.inr ⟨o,u.frzs _ _ _ q⟩)
  . exact .inr q,fun a xs q=>by
  rcases q with ⟨o,q⟩ | q
  . exact .inl ⟨o,u.frzs _ _ _ q⟩
  . exact .inr q,fun a o v q=>u.frzs _ _ _ q⟩
noncomputable def tRaise (K:PySem.W.Frag) (H0:Hp) (C:Addr) (sp:Sp) (E:XK) (t:TA):TS:=fun _ σ H=>t σ H fun vs H1=>Kp K H0 H1->∀ x,H1 x=none ->
  sp (.ref x::vs) (upd H1 x (XO x C none)) (fun v H2=>v=.non/\∃ dx,H2 x=some (XO x C (some dx))/\E (.ref C) (some dx) (rmH H2 x)) E0
section
variable {X:Cx} {k:Nat} {f C:Addr} {fd:FuncData} {ps:List Str} {sp:Sp} {E:XK} {x:Str} {p pos pos':Pos} {e:Expr} {es:List Expr} {t:TA}
theorem Inv.madeX {pins:List (Addr × Obj)} {σ:St} {H:Hp} {s:Shared} {us:List Value} (I:Inv X pins σ H s):Inv X pins σ (upd H (s.heap.objs.size + 1) (XO (s.heap.objs.size + 1) C none)) { s with heap:=(s.heap.push (tupO us)).push (excO C s.heap.objs.size) }:=by
  have e2:((s.heap.push (tupO us)).push (excO C s.heap.objs.size)).get? (s.heap.objs.size + 1)=some (excO C s.heap.objs.size):=by
    have:=Heap.get?_push_size (s.heap.push (tupO us)) (o:=excO C s.heap.objs.size) rfl
    rwa [Heap.size_push] at this
  refine I.laid (a:=s.heap.objs.size + 1) (o:=XO (s.heap.objs.size + 1) C none) (t':=s.toks) (fun b u q=>Heap.get?_push_of_some _ (Heap.get?_push_of_some _ q)) (Nat.le_succ _) ?_
  exact XO.ok e2 rfl rfl rfl (t0:=s.heap.objs.size) rfl rfl
theorem ps_raiseX (hc:X.calm=true) (M:XCl X.K C f) (F:FnOk X.prog X.w X.K X.mg X.base CX0 k f fd ps sp) (hr:Room (k + 1) X.A) (hg:Gl X x) (hm:X.mg x=some (.ref C)) (hb:Binds X.K fd ps []) (ha:PA (X.wish (XF X E)) (e::es) t)
    (hp:ps.length<=1000:=by decide) (hdb:(x == ("__debug__":Str))=false:=by decide) (he:starEach (e::es) X.env=(false,eval e X.env)::starEach es X.env:=by rfl) (hpl:(backTo pos (starEach es X.env)).any (·.1)=false:=by rfl) :
    PS (X.wish (XF X E)) (.Raise (some (.Call (.Name x p) (e::es) [] pos)) none pos') (tRaise X.K X.H₀ C sp E t):=by
  intro pins s σ H D I h
  refine raise_own (I.ok.hd hc) (wpAny_Call_Name_kw (ld_glob I hg hm ?_ hdb))
  refine PySem.W.callWith_K (h₀:=X.base) I.ok.mod.kin M.kp (thn (ha pos pins s σ H _ I h) fun us s1 ⟨vs,H1,I1,r,q⟩=>⟨I1.kIn,?_⟩) he hpl
  have hq:=q I1.base.kp (s1.heap.objs.size + 1) (I1.hok.fresh (Nat.le_succ _))
  have I2:=Inv.madeX (C:=C) (us:=us) I1
  have r2:Vals (V.ref (s1.heap.objs.size + 1)::vs) (Value.ref (s1.heap.objs.size + 1)::us):=.cons rfl r
  have hl:(Value.ref (s1.heap.objs.size + 1)::us).length=ps.length:=by
    have e:=r2.length
    rw [F.len _ _ _ _ hq] at e
    exact e.symm
  have hl':us.length<=1000:=by
    rw [List.length_cons] at hl
    lia
  refine wpAny_call (make_exc (f:=f) I1.kIn M.makes M.init (beq_iff_eq.mp M.fn) hl' (codeAny_mono (F.run _ X.stack _ _ ⟨Value.ref (s1.heap.objs.size + 1)::us,[]⟩ (Value.ref (s1.heap.objs.size + 1)::us) _ _ E0 (hr.make C us [])
    (I2.env0.make C us []) (by have:=hb _ (Value.ref (s1.heap.objs.size + 1)::us) I2.kIn (by rw [List.append_nil];exact hl);rwa [List.append_nil] at this) r2 hq) fun r s' hq'=>?_))
  cases r with
  | error e=>exact hq'.elim
  | ok fl =>
    cases fl with
    | ret u =>
      obtain ⟨v,H',I3,rv,ev,dx,hx,hE⟩:=I2.after hq'
      subst ev
      refine ⟨rv,?_⟩
      obtain ⟨ob,fs,t0,ho,hcl,hd,hf,h0,h1⟩:=XO.get I3.hok hx
      refine ⟨_,C,ob,fs,rfl,ho,hcl,hf,h1,PySem.W.looks_mroIn I3.kIn M.up,PySem.W.looks_typeIn I3.kIn M.ty,?_⟩
      exact ⟨_,σ,rfl,_,I3.unwish.unpin.forget hx,C,dx,ob,fs,I1.unwish.unpin.newA (Nat.le_succ _),rmH_same,ho,hcl,hd,hf,.inl ⟨trivial,h1⟩,hE⟩
    | next=>exact False.elim hq'
    | brk=>exact False.elim hq'
    | cont=>exact False.elim hq'
end
noncomputable abbrev AXK:=Addr->List (Str × U)->AHp->Prop
noncomputable abbrev ASpX:=List U->AHp->AVK->AXK->Prop
noncomputable def AftX (K:PySem.W.Frag) (H:Hp) (X':AXK) (E:XK):Prop:=∀ C dx fs gs A' H',Kp K H H'->HR K H' A'->A' dx=none->H' dx=some (.xd gs)->RFs K H' fs gs->X' C fs A'->E (.ref C) (some dx) H'
theorem AftX.same {K:PySem.W.Frag} {H H1:Hp} {X':AXK} {E:XK} (h:AftX K H X' E) (k:Kp K H H1):AftX K H1 X' E:=fun C dx fs gs A' H' k1=>h C dx fs gs A' H' (k.trans k1)
noncomputable def spOfX (K:PySem.W.Frag) (asp:ASpX):Sp:=fun vs H Q E=>∃ us A Q' X',RUs K H us vs/\HR K H A/\asp us A Q' X'/\Aft K H Q' Q/\AftX K H X' E
noncomputable def spInit (C:Addr) (f:Str) (ok:V->Prop):Sp:=fun vs H Q _=>∃ x v,vs=[.ref x,v]/\ok v/\H x=some (XO x C none)/\∀ dx,H dx=none->dx≠x->Q .non (upd (upd H dx (.xd [(f,v)])) x (XO x C (some dx)))
noncomputable def aRaise (C:Addr) (f:Str) (ok:U->Prop) (X':AXK) (l:AA):AS:=fun _ ρ A=>l ρ A fun us A1=>∃ u,us=[u]/\ok u/\X' C [(f,u)] A1
section
variable {K:PySem.W.Frag}
theorem ab_raise {H0:Hp} {C:Addr} {f:Str} {okV:V->Prop} {ok:U->Prop} {E:XK} {X':AXK} {t:TA} {l:AA} (hE:AftX K H0 X' E) (ho:∀ u v H,RU K H u v->ok u->okV v) (hl:AbA K t l):AbS K (tRaise K H0 C (spInit C f okV) E t) (aRaise C f ok X' l):=fun ρ A σ H D' D hs g h k=>by
  refine hl ρ A σ H _ _ hs g h fun us A1 vs H1 k1 g1 r1 ⟨u,e,hu,hx⟩ k0 x hn=>?_
  subst e
  cases r1 with
  | @cons _ v _ _ rv r1 =>
  cases r1
  refine ⟨x,v,rfl,ho _ _ _ rv hu,upd_same,fun dx hd hne=>⟨rfl,dx,upd_same,?_⟩⟩
  rw [upd_ne hne] at hd
  have e:rmH (upd (upd (upd H1 x (XO x C none)) dx (.xd [(f,v)])) x (XO x C (some dx))) x=upd H1 dx (.xd [(f,v)]):=by
    funext b
    by_cases h1:b=x
    . rw [h1,rmH_same,upd_ne hne.symm,hn]
    . rw [rmH_ne h1,upd_ne h1]
      by_cases h2:b=dx
      . rw [h2,upd_same,upd_same]
      . rw [upd_ne h2,upd_ne h1,upd_ne h2]
  rw [e]
  have sm:=Same.upd_new (o:=.xd [(f,v)]) hd
  exact hE C dx [(f,u)] [(f,v)] A1 _ (k0.trans sm.kp) (g1.grow sm) (g1.none hd) upd_same ⟨rfl,.one (rv.same sm.kp)⟩ hx
noncomputable def aCallX (asp:ASpX) (X':AXK) (l:AA):AE:=fun ρ A Q=>l ρ A fun us A1=>asp us A1 Q X'
end
section
variable {P:Program} {w:World} {K:PySem.W.Frag} {mg:Str->Option Value} {base:Heap}
theorem Fun.okX {x qual:Str} {st:Stmt} {f:Addr} {fd:FuncData} {N ps:List Str} {k:Nat} {asp:ASpX} {sc:Scope} {body:List Stmt} {as:AXK->AS} (F:Fun K x qual st f fd) (hs:defScope st=sc) (hb:defBody st=body) (S:FnScope N ps (defScope st))
    (hbody:FnScope N ps sc->∀ (cdv:Value) (A:Around) (outer:List Env) (s:Shared) (H:Hp) (E:XK) (X':AXK),Room k (A.deeper (envOfC qual sc s.heap.objs.size f cdv))->AftX K H X' E ->
      ∃ t,PSs ((cxOf (CXX P w) P w K mg base N qual sc f cdv A outer s H E).wish (XF (cxOf (CXX P w) P w K mg base N qual sc f cdv A outer s H E) E)) body t/\AbS K t (as X'))
    (hsp:∀ us A Q X',asp us A Q X'->us.length=ps.length/\as X' { nx:=fun _ A'=>Fg Q .non A',rt:=Fg Q } (aStart N us) A):FnOk P w K mg base (CXX P w) (k + 1) f fd ps (spOfX K asp):=by
  subst hs hb
  obtain ⟨oc,od,kV,doc,pm,an,cdv,ct,osl,rfl,lk,hcd⟩:=F.ex
  refine fn_of lk hcd S (fun vs H Q E ⟨us,A,Q',X',r,g,h,_⟩=>?_) fun A outer s H vs Q E hr ⟨us,A',Q',X',r,g,h,k,kx⟩=>?_
  . rw [<- r.length];exact (hsp us A Q' X' h).1
  . obtain ⟨t,ht,ha⟩:=hbody S cdv A outer s H E X' hr kx
    exact ⟨t,pss_fly ht,ha _ _ _ _ _ _ (RSt.start N r) g (hsp us A' Q' X' h).2 ⟨fun ρ A σ H' k' g' s' ⟨A3,e,q'⟩=>k _ _ _ _ k' (g'.ext e) .non q',fun u A v H' k' g' r' ⟨A3,e,q'⟩=>k _ _ _ _ k' (g'.ext e) r' q',fun _ _ _ _ _ _ _ q=>q.elim,fun _ _ _ _ _ _ _ q=>q.elim⟩⟩
end
end L2
namespace L2
open PySem PySem.Spec PyProof.Rows
theorem CatchIn.at {K:PySem.W.Frag} {M:Model} {h:Heap} {C D:Addr} {b:Bool} (c:CatchIn K C D b) (x:K.In h):Catch M h C D b:=by
  refine ⟨PySem.W.looks_instIn x c.nt,?_,PySem.W.looks_mroIn x c.ex,PySem.W.looks_mroIn x c.sb⟩
  intro A Q E s k q
  have t:=c.ty
  unfold PySem.W.isClsIn PySem.W.clsIn at t
  split at t
  . rename_i oc od cd sl hl
    simp only [isType,loadHead]
    refine wpAny_bind (wpAny_loadPart (k _ _ (x _ _ hl)) ?_)
    exact wpAny_pure q
  . cases t
noncomputable abbrev Cx.mkd (X:Cx) (a:Addr):Cx:={ X with A:=X.A.mark (some (.ref a)),calm:=false,xe:=fun _ _=>False }
noncomputable def XE (X:Cx) (pins:List (Addr × Obj)) (σ:St) (E:XK):Value->Shared->Prop:=fun ev s'=>∃ H1 s1,Inv X pins σ H1 s1/\CXX X.prog X.w X.stack H1 s1 E ev s'
noncomputable abbrev TX:=St->Hp->VK->XK->Prop
noncomputable def PEX (X:Cx) (e:Expr) (tx:TX):Prop :=
  ∀ (pins:List (Addr × Obj)) (s:Shared) (σ:St) (H:Hp) (Q:VK) (E:XK),Inv X pins σ H s->tx σ H Q E->wpAny (model X.prog X.w) X.A (eval e X.env) (EP X pins σ Q) (XE X pins σ E) s
noncomputable def txCall (sp:Sp) (t:TA):TX:=fun σ H Q E=>t σ H fun vs H1=>sp vs H1 Q E
section
variable {X:Cx} {pins:List (Addr × Obj)} {σ:St} {H:Hp} {s:Shared} {a D f:Addr} {i k:Nat} {x y:Str} {e e1:Expr} {es:List Expr} {p px p1 pos1 hp pos:Pos} {b0:Stmt} {su:List Stmt} {tx:TX} {th:TS} {t:TA} {fd:FuncData} {ps:List Str} {sp:Sp}
theorem Inv.mkd (I:Inv X pins σ H s):Inv (X.mkd a) pins σ H s:=⟨{ I.ok with hd:=fun z=>nomatch z },I.os,I.bare,I.base,I.loc,I.cell,I.free,I.freeC,I.pin,I.hok,I.len⟩
theorem Inv.unmkd (I:Inv (X.mkd a) pins σ H s) (ok:X.Ok):Inv X pins σ H s:=⟨ok,I.os,I.bare,I.base,I.loc,I.cell,I.free,I.freeC,I.pin,I.hok,I.len⟩
theorem SP.unmkd {Dn:Ends} {fl:Flow} {s':Shared} (ok:X.Ok) (h:SP (X.mkd a) pins Dn fl s'):SP X pins Dn fl s':=by
  cases fl with
  | next=>obtain ⟨σ',H',I,q⟩:=h;exact ⟨σ',H',I.unmkd ok,q⟩
  | brk=>obtain ⟨σ',H',I,q⟩:=h;exact ⟨σ',H',I.unmkd ok,q⟩
  | cont=>obtain ⟨σ',H',I,q⟩:=h;exact ⟨σ',H',I.unmkd ok,q⟩
  | ret u=>obtain ⟨v,σ',H',I,r,q⟩:=h;exact ⟨v,σ',H',I.unmkd ok,r,q⟩
theorem pex_call (F:FnOk X.prog X.w X.K X.mg X.base (CXX X.prog X.w) k f fd ps sp) (hr:Room k X.A) (hg:Gl X x) (hm:X.mg x=some (.ref f)) (hk:PySem.W.keepIn X.K (.ref f)=true) (hb:Binds X.K fd ps []) (ha:PA X.nox (e1::es) t)
    (hdb:(x == ("__debug__":Str))=false:=by decide) (he:starEach (e1::es) X.env=(false,eval e1 X.env)::starEach es X.env:=by rfl) (hpl:(backTo pos (starEach es X.env)).any (·.1)=false:=by rfl) :
    PEX X (.Call (.Name x p) (e1::es) [] pos) (txCall sp t):=by
  intro pins s σ H Q E I h
  refine wpAny_Call_Name_kw (ld_glob I hg hm ?_ hdb)
  refine PySem.W.callWith_K (h₀:=X.base) I.ok.mod.kin hk (wpAny_mono (ha pos pins s σ H _ (I.wish _) h) (fun us s1 ⟨vs,H1,I1,r,q⟩=>⟨I1.kIn,?_⟩) fun _ _ z=>False.elim z) he hpl
  have I1:=I1.unwish
  have hl:us.length=ps.length:=by rw [<- r.length];exact F.len _ _ _ _ q
  refine wpAny_call (codeAny_mono (F.run X.A X.stack s1 H1 ⟨us,[]⟩ us vs Q E hr I1.env0 (by have:=hb s1 us I1.kIn (by rw [List.append_nil];exact hl);rwa [List.append_nil] at this) r q) fun r s' hq=>?_)
  cases r with
  | error e=>exact ⟨H1,s1,I1,hq⟩
  | ok fl =>
    cases fl with
    | ret u=>exact I1.after hq
    | next=>exact False.elim hq
    | brk=>exact False.elim hq
    | cont=>exact False.elim hq
end
noncomputable abbrev AX:=ASt->AHp->AVK->AXK->Prop
noncomputable def AbX (K:PySem.W.Frag) (tx:TX) (ax:AX):Prop:=∀ ρ A σ H Q' X' Q E,RSt K H ρ σ->HR K H A->ax ρ A Q' X'->Aft K H Q' Q->AftX K H X' E->tx σ H Q E
noncomputable def axCall (asp:ASpX) (l:AA):AX:=fun ρ A Q X'=>l ρ A fun us A1=>asp us A1 Q X'
noncomputable def aTry0 (K:PySem.W.Frag) (D:Addr) (i:Nat) (ax:AX) (ah:AS):AS:=fun Dn ρ A=>ax ρ A (fun u A'=>Dn.nx (ρ.set i (some u)) A') fun C _ A'=>CatchIn K C D true/\ah Dn ρ A'
section
variable {K:PySem.W.Frag}
theorem abx_call {asp:ASpX} {tl:TA} {l:AA} (hl:AbA K tl l):AbX K (txCall (spOfX K asp) tl) (axCall asp l):=fun ρ A σ H Q' X' Q E hs g w k kx =>
  hl ρ A σ H _ _ hs g w fun us A1 vs H1 k1 g1 r1 q1=>⟨us,A1,Q',X',r1,g1,q1,fun z A3 v3 H3 k3 h3 r3 q3=>k _ _ _ _ (k1.trans k3) h3 r3 q3,kx.same k1⟩
end
end L2
namespace L2
open PySem PySem.Spec PyProof.Rows
noncomputable def okI:V->Prop:=fun v=>∃ n:Int,v=.int n/\n.natAbs.log2 < 1920
noncomputable def okIU:U->Prop:=fun u=>∃ n:Int,u=.int n/\n.natAbs.log2 < 1920
section
variable {K:PySem.W.Frag}
theorem xok (u:U) (v:V) (H:Hp) (r:RU K H u v) (h:okIU u):okI v:=by
  obtain ⟨n,rfl,h⟩:=h
  cases r
  exact ⟨n,rfl,h⟩
theorem q_raise {C:Addr} {f:Str} {ok:U->Prop} {X':AXK} {l:AA} {D:AEnds} {ρ:ASt} {A:AHp}:aRaise C f ok X' l D ρ A=l ρ A fun us A1=>∃ u,us=[u]/\ok u/\X' C [(f,u)] A1:=rfl
theorem q_try0 {D:Addr} {i:Nat} {ax:AX} {ah:AS} {Dn:AEnds} {ρ:ASt} {A:AHp}:aTry0 K D i ax ah Dn ρ A=ax ρ A (fun u A'=>Dn.nx (ρ.set i (some u)) A') fun C _ A'=>CatchIn K C D true/\ah Dn ρ A':=rfl
theorem q_callX {asp:ASpX} {X':AXK} {l:AA} {ρ:ASt} {A:AHp} {Q:AVK}:aCallX asp X' l ρ A Q=l ρ A fun us A1=>asp us A1 Q X':=rfl
theorem q_axCall {asp:ASpX} {l:AA} {ρ:ASt} {A:AHp} {Q:AVK} {X':AXK}:axCall asp l ρ A Q X'=l ρ A fun us A1=>asp us A1 Q X':=rfl
end
section
variable {P:Program} {w:World} {K:PySem.W.Frag} {mg:Str->Option Value} {base:Heap}
theorem init_ok {x qual:Str} {st:Stmt} {f C g:Addr} {fd:FuncData} {N ps:List Str} {fl:Str} {sc:Scope} {t1 t2:Str} (X:XCl K C g) (n:NoAttr K C fl) (hp:ps.length=2) (hN:N=ps) (h1:t1.length<=4000) (h2:t2.length<=4000)
    (h : ∀ cdv A outer s H E,Room 0 (A.deeper (envOfC qual sc s.heap.objs.size f cdv))->PSs (cxOf CX0 P w K mg base N qual sc f cdv A outer s H E).nox (defBody st)
      (tSeq (tDrop (tSup K (tCons (tVar 0) (tCons (tFs (tjCons (tC (.str t1)) (tjCons (tFmtI (tVar 1)) (tjCons (tC (.str t2)) tjNil)))) tNil)))) (sXset K (tVar 0) (tVar 1) fl))) (Fn:Fun K x qual st f fd) (hs:defScope st=sc) (S:FnScope N ps (defScope st)) :
    FnOk P w K mg base CX0 1 f fd ps (spInit C fl okI):=by
  have hσ:∀ a b:V,L2.start N [a,b]=[some a,some b]:=fun a b=>by
    unfold L2.start
    rw [hN,hp]
    rfl
  refine Fn.ok2 hs rfl S (fun vs H Q E hq0=>by obtain ⟨x,v,e,_⟩:=hq0;rw [e,hp];rfl) fun _ cdv A outer s H vs Q E hr ⟨y,v,e,⟨m,ev,hm⟩,hx,q⟩=>⟨_,h cdv A outer s H E hr,?_⟩
  subst e ev
  rw [hσ]
  refine ⟨_,rfl,?_⟩
  have L:∀ {z:Str},z.length<=13000->z.length<=sizeLine:=fun h=>Nat.le_trans h (by rw [sizeLine_eq];decide)
  have e0:Str.empty.length=0:=rfl
  refine ⟨_,rfl,L (by rw [Str.length_append];lia),?_⟩
  refine ⟨_,rfl,m,rfl,hm,fun z hz=>⟨_,rfl,L (by rw [Str.length_append,Str.length_append];lia),?_⟩⟩
  refine ⟨_,rfl,L (by rw [Str.length_append,Str.length_append,Str.length_append];lia),L (by rw [Str.length_append,Str.length_append,Str.length_append];lia),?_⟩
  refine ⟨y,C,g,_,rfl,hx,X,?_⟩
  exact ⟨_,rfl,_,rfl,y,C,g,rfl,hx,X,n,fun dx hd hne=>q dx hd hne⟩
end
end L2
namespace L2
open PySem PySem.Spec PyProof.Rows
noncomputable def insL {α:Type} (xs:List α) (k:Nat) (y:α):List α:=xs.take k++y::xs.drop k
section
variable {K:PySem.W.Frag}
noncomputable def mIns:U->List U->AHp->AVK->Prop:=fun u us A Q=>match u,us with
  | .ref a,[.int i,w]=>∃ xs,A a=some (.lst xs)/\0<=i/\i<=xs.length/\xs.length < 1000/\Q .non (updA A a (.lst (insL xs i.toNat w)))
  | _,_=>False
theorem q_ins {p:Addr} {i:Int} {u:U} {A:AHp} {Q:AVK}:(mIns (.ref p) [.int i,u] A Q)=(∃ xs,A p=some (.lst xs)/\0<=i/\i<=xs.length/\xs.length < 1000/\Q .non (updA A p (.lst (insL xs i.toNat u)))):=rfl
noncomputable def mPopAt:U->List U->AHp->AVK->Prop:=fun u us A Q=>match u,us with
  | .ref a,[.int i]=>∃ xs y,A a=some (.lst xs)/\0<=i/\i < xs.length/\xs.length < 1000/\xs[i.toNat]? = some y/\Q y (updA A a (.lst (xs.eraseIdx i.toNat)))
  | _,_=>False
theorem q_popAt {p:Addr} {i:Int} {A:AHp} {Q:AVK}:(mPopAt (.ref p) [.int i] A Q)=(∃ xs y,A p=some (.lst xs)/\0<=i/\i < xs.length/\xs.length < 1000/\xs[i.toNat]? = some y/\Q y (updA A p (.lst (xs.eraseIdx i.toNat)))):=rfl
end
end L2
set_option maxHeartbeats 4000000
namespace L2
open PySem PySem.Spec PyProof.Rows
theorem gx_kind:builtinKind "BaseException.__getattribute__"=some .slot:=by kernel_rfl
theorem gx_split:splitId "BaseException.__getattribute__"=some ("BaseException","__getattribute__"):=by kernel_rfl
theorem slot1 (x y:Value):slotArgs "__getattribute__" 1 ⟨[x,y],[]⟩=pure (x,[y]):=by
  unfold slotArgs
  simp
section
variable {prog:Program} {w:World} {K:PySem.W.Frag} {A:Around} {E:Value->Shared->Prop} {s:Shared} {x C:Addr} {ox:Obj} {od:Option Obj} {name:Str} {tk:Tok} {v g a:Value} {R:Result->Shared->Prop}
theorem gaX_open (X:K.In s.heap) (I:PySem.W.InstAt s.heap x ox C od) (hup:PySem.W.mroIn K C (.type "BaseException")=some true)
    (h:wpAny (model prog w) A.in1 (Builtin.«object.__getattribute__» ⟨[.ref x,.str name tk],[]⟩) (fun fin s'=>match fin with | .done f=>R (.ok f) s' | .again c'=>c'.quiet=true/\codeAny (model prog w) A c' R s') (fun e s'=>R (.error e) s') s) :
    codeAny (model prog w) A (.call (.builtin "BaseException.__getattribute__") ⟨[.ref x,.str name tk],[]⟩) R s:=by
  have sub:PySem.W.Looks (model prog w) s.heap (isInstance (.ref x) (.type "BaseException")) true:=I.type.andThen (PySem.W.looks_mroIn X hup)
  exact codeAny_call_builtin F.excAttr_ValueError.ga.plain F.entry_bexc_ga (@PySem.W.check_slot (model prog w) _ _ s "BaseException.__getattribute__" "BaseException" "__getattribute__" (.ref x) [.str name tk] [] _ gx_kind gx_split sub (F.args_bexc_ga (.ref x) (.str name tk)) h)
theorem gaX_value (X:K.In s.heap) (I:PySem.W.InstAt s.heap x ox C od) (hup:PySem.W.mroIn K C (.type "BaseException")=some true) (hf:PySem.W.findObj K C od name=some (.value v)) (h:R (.ok (.ret v)) s) :
    codeAny (model prog w) A (.call (.builtin "BaseException.__getattribute__") ⟨[.ref x,.str name tk],[]⟩) R s:=by
  refine gaX_open X I hup ?_
  obtain ⟨hh,gg,d,t,os⟩:=s
  have L0:=I.type (M:=model prog w)
  have L1:=PySem.W.looks_find (M:=model prog w) X I hf
  unfold Builtin.«object.__getattribute__»
  rw [slot1]
  refine wpAny_bind (wpAny_pure ?_)
  dsimp only
  refine wpAny_bind (wpAny_pure (wpAny_bind (L0.at (wpAny_bind (L1.at ?_)))))
  exact wpAny_pure h
theorem gaX_get {expr fill:Bool} {Q:Value->Shared->Prop} (X:K.In s.heap) (I:PySem.W.InstAt s.heap x ox C od) (hga:PySem.W.findIn K (.ref C) "__getattribute__"=some (some (.builtin "BaseException.__getattribute__"))) (hk:PySem.W.findIn K (.ref C) "__getattr__"=some none)
    (h:codeAny (model prog w) A (.call (.builtin "BaseException.__getattribute__") ⟨[.ref x,.str name tk],[]⟩) (fun r s'=>match r with | .ok (.ret v)=>wpAny (model prog w) A (handedOut v) Q E s' | _=>False) s) :
    wpAny (model prog w) A (getAttrBy (.ref x) (.str name tk) fill expr) Q E s:=by
  obtain ⟨hh,gg,d,t,os⟩:=s
  have L0:=I.type (M:=model prog w)
  have L1:=PySem.W.looks_findIn (M:=model prog w) X hga
  have L2:=PySem.W.looks_findIn (M:=model prog w) X hk
  have f3:=F.excAttr_ValueError.ga.bind (.ref x)
  have hx0:(expr && onTheHeap (Value.builtin "BaseException.__getattribute__"))=false:=by cases expr <;> rfl
  have hx2:(Value.builtin "BaseException.__getattribute__" == Value.builtin "object.__getattribute__")=false:=by decide +kernel
  have hx1:(onTheHeap (Value.ref C) && Value.builtin "BaseException.__getattribute__" == Value.builtin "object.__getattribute__")=false:=by rw [hx2];rfl
  unfold getAttrBy
  refine wpAny_holding (wpAny_bind (L0.at (wpAny_bind (L1.at ?_))))
  dsimp only
  rw [hx1]
  simp only [Bool.false_eq_true,if_false]
  unfold getAttrByItsOwn hookBefore
  rw [show onTheHeap (Value.ref C)=true from rfl,if_pos rfl]
  refine wpAny_bind (L2.at (wpAny_bind ?_))
  unfold callGetattribute
  rw [hx0]
  simp only [Bool.false_eq_true,if_false]
  unfold boundAndCalled
  rw [f3]
  refine wpAny_attempt (wpAny_holding (wpAny_bind (wpAny_pure ?_)))
  show wpAny _ _ (call (.builtin "BaseException.__getattribute__") [.ref x,.str name tk]) _ _ _
  refine wpAny_call (codeAny_mono h fun r s' z=>?_)
  rcases r with e | (v | _ | _ | _) <;> first | exact z | exact z.elim
theorem getX_value {expr:Bool} {Q:Value->Shared->Prop} (X:K.In s.heap) (I:PySem.W.InstAt s.heap x ox C od) (hga:PySem.W.findIn K (.ref C) "__getattribute__"=some (some (.builtin "BaseException.__getattribute__"))) (hk:PySem.W.findIn K (.ref C) "__getattr__"=some none)
    (hup:PySem.W.mroIn K C (.type "BaseException")=some true) (hf:PySem.W.findObj K C od name=some (.value v)) (hh:PySem.W.handedIn v=true) (h:Q v { s with toks:=s.toks + 1 }):wpAny (model prog w) A (getAttr (.ref x) name expr) Q E s:=by
  unfold getAttr
  refine wpAny_bind (wpAny_mkText (gaX_get (s:={ s with toks:=s.toks + 1 }) X I hga hk (gaX_value (s:={ s with toks:=s.toks + 1 }) X I hup hf ?_)))
  show wpAny _ _ (handedOut v) _ _ _
  rw [PySem.W.handedOut_of hh]
  exact wpAny_pure h
theorem getX_class {Q:Option Value->Shared->Prop} {od:Obj} (X:K.In s.heap) (I:PySem.W.InstAt s.heap x ox C (some od)) (hga:PySem.W.findIn K (.ref C) "__getattribute__"=some (some (.builtin "BaseException.__getattribute__"))) (hk:PySem.W.findIn K (.ref C) "__getattr__"=some none)
    (hup:PySem.W.mroIn K C (.type "BaseException")=some true) (hdct:PySem.W.hasDictIn K C=true) (ha:PySem.W.findIn K (.ref C) "__class__"=some (some (.builtin "object.__class__")))
    (hn:PySem.W.specialIn K (.builtin "object.__class__") "__get__"=some (some (.builtin "getset_descriptor.__get__"))) (htk:PySem.W.takesIn K (.builtin "object.__class__")=some true) (hm:PySem.W.mroIn K C (.type "object")=some true)
    (h:Q (some (.ref C)) { s with toks:=s.toks + 1 }):wpAny (model prog w) A (getAttr? (.ref x) "__class__") Q E s:=by
  have hf:PySem.W.findObj K C (some od) "__class__"=some (.bind (.builtin "getset_descriptor.__get__") (.builtin "object.__class__")):=PySem.W.findObj_data (by obtain ⟨cd,hc,_⟩:=PySem.W.any_some hdct;rw [hc];rfl) ha hn htk
  unfold getAttr? getAttrBy?
  refine wpAny_bind (wpAny_mkText (wpAny_bind (wpAny_attempt (gaX_get (s:={ s with toks:=s.toks + 1 }) X I hga hk ?_))))
  refine gaX_open (s:={ s with toks:=s.toks + 1 }) X I hup ?_
  obtain ⟨hh,gg,d,t,os⟩:=s
  have L0:=I.type (M:=model prog w)
  have L1:=PySem.W.looks_find (M:=model prog w) X I hf
  unfold Builtin.«object.__getattribute__»
  rw [slot1]
  refine wpAny_bind (wpAny_pure ?_)
  dsimp only
  refine wpAny_bind (wpAny_pure (wpAny_bind (L0.at (wpAny_bind (L1.at ?_)))))
  show wpAny _ _ (holding [_] (call (.builtin "getset_descriptor.__get__") [.builtin "object.__class__",.ref x,.ref C]) >>= ret) _ _ _
  refine wpAny_bind (wpAny_holding (wpAny_call (PySem.W.class_get (s:=⟨hh,gg,d,t + 1,os⟩) (ox:=ox) (od:=some od) X I hm ?_)))
  refine wpAny_pure ?_
  show wpAny _ _ (handedOut (.ref C)) _ _ _
  rw [PySem.W.handedOut_of rfl]
  exact wpAny_pure (wpAny_pure h)
end
end L2
namespace L2
open PySem PySem.Spec PyProof.Rows
structure XGet (K:PySem.W.Frag) (C:Addr):Prop where
  ga:PySem.W.findIn K (.ref C) "__getattribute__"=some (some (.builtin "BaseException.__getattribute__"))
  gk:PySem.W.findIn K (.ref C) "__getattr__"=some none
  up:PySem.W.mroIn K C (.type "BaseException")=some true
  hd:PySem.W.hasDictIn K C=true
  cl:PySem.W.findIn K (.ref C) "__class__"=some (some (.builtin "object.__class__"))
  cg:PySem.W.specialIn K (.builtin "object.__class__") "__get__"=some (some (.builtin "getset_descriptor.__get__"))
  ct:PySem.W.takesIn K (.builtin "object.__class__")=some true
  ob:PySem.W.mroIn K C (.type "object")=some true
theorem kitx_exc {K:PySem.W.Frag} {x C:Addr} {ox od:Obj} (g:XGet K C):PySem.W.KitX K (.ref x) (.ref C) (fun h=>PySem.W.InstAt h x ox C (some od)) where
  ty:=fun _ _ _ I=>I.type
  it := fun _ _ X _=>by
    obtain ⟨cdD,hcD,_⟩:=PySem.W.any_some g.hd
    unfold PySem.W.clsIn at hcD
    split at hcD
    . rename_i c' d' cd' sl' ho
      intro A' Q' E' s' k q
      unfold isType loadHead
      exact wpAny_bind (wpAny_loadPart (k _ _ (X _ _ ho)) (wpAny_pure q))
    . cases hcD
  ne := fun h tp dd its n sl X htp=>by
    obtain ⟨cdD,hcD,_⟩:=PySem.W.any_some g.hd
    refine Bool.eq_false_iff.mpr fun q=>?_
    have e:C=tp:=Value.ref.inj (beq_iff_eq.mp q)
    subst e
    unfold PySem.W.clsIn at hcD
    split at hcD
    . rename_i c' d' cd' sl' ho
      have z:=(X _ _ ho).symm.trans htp
      cases z
    . cases hcD
  ca:=fun X I k=>getX_class X I g.ga g.gk g.up g.hd g.cl g.cg g.ct g.ob k
noncomputable def XT (a C dx:Addr):HO:=.ext fun h=>∃ ob vs,h.get? a=some ob/\ob.cls=.ref C/\ob.dict=some dx/\ob.data=.fields vs
section
variable {P:Program} {w:World} {H:Hp} {h:Heap} {a C dx:Addr}
theorem XT.ok {ob:Obj} {vs:Array Value} (h1:h.get? a=some ob) (h2:ob.cls=.ref C) (h3:ob.dict=some dx) (h4:ob.data=.fields vs):ObjOk P w H h a (XT a C dx) :=
  ⟨⟨ob,vs,h1,h2,h3,h4⟩,⟨ob,h1⟩,fun h1 h2 ⟨ob,vs,q1,q⟩ k=>⟨ob,vs,k _ q1,q⟩⟩
theorem XT.get (hk:HOk P w H h) (e:H a=some (XT a C dx)):∃ ob vs,h.get? a=some ob/\ob.cls=.ref C/\ob.dict=some dx/\ob.data=.fields vs:=(hk a _ e).1
theorem XT.inst {fs:List (Str × V)} (hk:HOk P w H h) (e:H a=some (XT a C dx)) (d:H dx=some (.xd fs)):∃ (ob od:Obj) (mA:Str->Option Value),PySem.W.InstAt h a ob C (some od)/\(∀ name,PySem.W.lookIn name od=some (mA name))/\∀ f,RelO (fs.lookup f) (mA f):=by
  obtain ⟨ob,vs,h1,h2,h3,h4⟩:=XT.get hk e
  obtain ⟨mA,n,r⟩:=hk dx _ d
  obtain ⟨od,ho,hl⟩:=lookIn_ns n
  refine ⟨ob,od,mA,⟨h1,h2,?_,?_⟩,hl,r⟩
  . unfold PySem.W.notCls;rw [h4]
  . rw [h3];exact ho
end
noncomputable def tXfld (K:PySem.W.Frag) (ta:TE) (f:Str):TE:=fun σ H Q=>ta σ H fun x H1=>∃ a C dx fs v,x=.ref a/\H1 a=some (XT a C dx)/\H1 dx=some (.xd fs)/\XGet K C/\NoAttr K C f/\fs.lookup f=some v/\Q v H1
noncomputable def rIsX (K:PySem.W.Frag):List V->Hp->VK->Prop:=fun xs H Q=>∃ a C dx fs c b,xs=[.ref a,c]/\H a=some (XT a C dx)/\H dx=some (.xd fs)/\XGet K C /\
  ((∃ D,c=.ref D/\PySem.W.kitOne K (.ref C) (.ref D)=some b)\/(∃ T,c=.ty T/\PySem.W.kitOne K (.ref C) (.type T)=some b)\/∃ (p:Addr) (cs:List Addr),c=.ref p/\SqT K H p (cs.map V.ref)/\PySem.W.kitAny K (.ref C) (cs.map Value.ref)=some b)/\Q (.bl b) H
section
variable {X:Cx} {e:Expr} {ta:TE} {f:Str} {pos:Pos}
theorem pe_xfld (he:PE X e ta) (hb:attributeBase e f X.env (eval e X.env)=eval e X.env):PE X (.Attribute e f pos) (tXfld X.K ta f):=by
  intro pins s σ H Q I h
  refine attr_of hb (thn (he pins s σ H _ I h) fun u s1 h_q=>?_)
  obtain ⟨x,H1,I1,rx,a,C,dx,fs,v,ex,ea,ed,g,n,l,q⟩:=h_q
  subst ex
  obtain rfl:u=Value.ref a:=rx
  obtain ⟨ob,od,mA,J,hl,r⟩:=XT.inst I1.hok ea ed
  obtain ⟨u,hu,ru⟩:=RelO.some_of (v:=v) (o:=mA f) (by rw [<- l];exact r f)
  exact getX_value I1.kIn J g.ga g.gk g.up (PySem.W.findObj_own g.hd n rfl (by rw [hl,hu])) (handed_of ru) ⟨v,H1,I1.tok _,ru,q⟩
theorem c_isX:CallR X (.builtin "isinstance") (rIsX X.K):=by
  intro pins s σ H xs us Q I r h
  obtain ⟨a,C,dx,fs,c,b,rfl,ea,ed,g,hc,q⟩:=h
  obtain ⟨u,v,rfl,ru,rv⟩:=r.two
  cases ru
  obtain ⟨ob,od,mA,J,hl,_⟩:=XT.inst I.hok ea ed
  rcases hc with ⟨D,rfl,hc⟩ | ⟨T,rfl,hc⟩ | ⟨p,cs,rfl,ht,hc⟩
  . cases rv
    exact PySem.W.kia_one (kitx_exc g) I.kIn J hc (fun z=>nomatch z) fun tk=>⟨.bl b,H,I.tok tk,rfl,q⟩
  . cases rv
    exact PySem.W.kia_one (kitx_exc g) I.kIn J hc (fun z=>nomatch z) fun tk=>⟨.bl b,H,I.tok tk,rfl,q⟩
  . cases rv
    obtain ⟨its,r',pl,_⟩:=I.tuple ht
    have e:=vals_refs r'
    subst e
    have hp:∃ dd n sl,s.heap.get? p=some ⟨.type "tuple",dd,.seq (cs.map Value.ref).toArray n,sl⟩:=by
      obtain ⟨⟨oc,od',da,sl⟩,ho,hc,n,hd⟩:=(show IsTup s.heap p (cs.map Value.ref).toArray from by first | exact pl | exact pl.isTup | (obtain ⟨o,n,e,c,_,d,_⟩:=pl;exact ⟨o,e,c,n,d⟩))
      cases hc
      cases hd
      exact ⟨_,n,_,ho⟩
    obtain ⟨dd,n,sl,hp⟩:=hp
    exact PySem.W.kia_tup (kitx_exc g) I.kIn J hp hc (fun z=>nomatch z) fun tk=>⟨.bl b,H,I.tok tk,rfl,q⟩
end
noncomputable def oX (C dx:Addr):AO:=.oth fun K H a=>H a=some (XT a C dx)
noncomputable def oXd (fs:List (Str × U)):AO:=.oth fun K H a=>∃ gs,H a=some (.xd gs)/\RFs K H fs gs
section
variable {K:PySem.W.Frag}
theorem oX_ro {H:Hp} {a C dx:Addr} (h:H a=some (XT a C dx)):RO K H a (oX C dx):=⟨⟨_,h⟩,h,fun H1 H2 h1 _ e=>e.trans h1⟩
theorem oXd_ro {H:Hp} {a:Addr} {fs:List (Str × U)} {gs:List (Str × V)} (h:H a=some (.xd gs)) (r:RFs K H fs gs):RO K H a (oXd fs):=⟨⟨_,h⟩,⟨gs,h,r⟩,fun H1 H2 ⟨gs,h1,r1⟩ k e=>⟨gs,e.trans h1,r1.same k⟩⟩
noncomputable def aXfld (K:PySem.W.Frag) (ae:AE) (f:Str):AE:=fun ρ A Q=>ae ρ A fun x A1=>∃ a C dx fs u,x=.ref a/\A1 a=some (oX C dx)/\A1 dx=some (oXd fs)/\XGet K C/\NoAttr K C f/\fs.lookup f=some u/\Q u A1
theorem ab_xfld {te:TE} {ae:AE} {f:Str} (he:AbE K te ae):AbE K (tXfld K te f) (aXfld K ae f):=fun ρ A σ H Q' Q hs g w k =>
  he ρ A σ H _ _ hs g w fun x A1 v H1 k1 g1 r1 hq0=>by
    obtain ⟨a,C,dx,fs,u,e,h1,h2,h3,h4,h5,q⟩:=hq0
    subst e
    cases r1
    obtain ⟨_,q1,_⟩:=g1 a _ h1
    obtain ⟨_,⟨gs,q2,rf⟩,_⟩:=g1 dx _ h2
    obtain ⟨v,hv,rv⟩:=rf.look h5
    exact ⟨a,C,dx,gs,v,rfl,q1,q2,h3,h4,hv,k _ _ _ _ k1 g1 rv q⟩
noncomputable def xIsX (K:PySem.W.Frag):List U->AHp->AVK->Prop:=fun us A Q=>∃ a C dx fs c b,us=[.ref a,c]/\A a=some (oX C dx)/\A dx=some (oXd fs)/\XGet K C /\
  ((∃ D,c=.ref D/\PySem.W.kitOne K (.ref C) (.ref D)=some b)\/(∃ T,c=.ty T/\PySem.W.kitOne K (.ref C) (.type T)=some b)\/∃ cs:List Addr,c=.tup (cs.map U.ref)/\PySem.W.kitAny K (.ref C) (cs.map Value.ref)=some b)/\Q (.bl b) A
theorem ab_isX:AbL K (rIsX K) (xIsX K):=fun xs us A H Q' Q r g h k=>by
  obtain ⟨a,C,dx,fs,c,b,rfl,h1,h2,h3,hc,q⟩:=h
  cases r with
  | cons r1 r=>cases r with
    | @cons _ v _ _ r2 r =>
      cases r;cases r1
      obtain ⟨_,q1,_⟩:=g a _ h1
      obtain ⟨_,⟨gs,q2,rf⟩,_⟩:=g dx _ h2
      refine ⟨a,C,dx,gs,v,b,rfl,q1,q2,h3,?_,k _ _ _ _ (.refl H) g (.bl b) q⟩
      rcases hc with ⟨D,rfl,hc⟩ | ⟨T,rfl,hc⟩ | ⟨cs,rfl,hc⟩
      . cases r2;exact .inl ⟨D,rfl,hc⟩
      . cases r2;exact .inr (.inl ⟨T,rfl,hc⟩)
      . cases r2 with
        | tup ht hs =>
          have:=hs.refs
          subst this
          exact .inr (.inr ⟨_,cs,rfl,ht,hc⟩)
end
end L2
namespace L2
open PySem PySem.Spec PyProof.Rows
section
variable {X:Cx} {pins:List (Addr × Obj)} {σ:St} {H:Hp} {s:Shared} {a C dx:Addr}
theorem Inv.remember {ob:Obj} {vs:Array Value} (I:Inv X pins σ H s) (hn:H a=none) (nw:New X pins a) (ho:s.heap.get? a=some ob) (h2:ob.cls=.ref C) (h3:ob.dict=some dx) (hd:ob.data=.fields vs):Inv X pins σ (upd H a (XT a C dx)) s:=by
  have ne:∀ b o,H b=some o->b≠a:=fun b o h e=>by rw [e,hn] at h;cases h
  have kp:∀ b o,H b=some o->upd H a (XT a C dx) b=some o:=fun b o h=>by rw [upd_ne (ne b o h)];exact h
  have u:=I.base
  have nL:X.env.locals≠a:=fun e=>by
    obtain ⟨m,⟨o',es,ep,ho',rr⟩,_⟩:=I.loc
    rw [e,ho] at ho'
    cases ho'
    rw [rr.1] at hd
    cases hd
  have nC:∀ x c,X.env.cells.lookup x=some c->c≠a:=fun x c hc e=>by
    obtain ⟨v,o',ho',hv⟩:=I.cell x c hc
    rw [e,ho] at ho'
    cases ho'
    rw [hv] at hd
    cases hd
  refine ⟨I.ok,I.os,I.bare,⟨u.keep,u.slot,fun b o x y z=>?_,u.there,fun b xs z=>kp b _ (u.tups b xs z),fun b o v z=>kp b _ (u.frzs b o v z),fun b ps z=>?_⟩,I.loc,I.cell,by rw [upd_ne nL];exact I.free,fun x c z=>by rw [upd_ne (nC x c z)];exact I.freeC x c z,fun p hp=>?_,fun c v hc=>?_,I.len⟩
  . rw [upd_ne fun e=>absurd (Heap.lt_size x) (by rw [e];exact Nat.not_lt.mpr nw.1)]
    exact u.free b o x y z
  . obtain ⟨m,y⟩:=u.tbls b ps z
    exact ⟨m,kp b _ y⟩
  . obtain ⟨p1,p2,p3⟩:=I.pin p hp
    exact ⟨p1,by rw [upd_ne (nw.2 p hp)];exact p2,p3⟩
  . by_cases e:c=a
    . subst e
      rw [upd_same] at hc
      cases hc
      exact XT.ok ho h2 h3 hd
    . rw [upd_ne e] at hc
      exact (I.hok c v hc).stay (fun _ _ _ z=>z) (fun b z=>kp b _ z) fun b xs z=>kp b _ z
theorem gone_ok {M:Model} {A:Around} {E:Value->Shared->Prop} {i:Nat} {x:Str} {pos:Pos} {Q:Unit->Shared->Prop} (I:Inv X pins σ H s) (hN:X.N.Nodup) (hi:X.N[i]? = some x) (hk:X.env.kindOf x=some .local)
    (h:∀ s',Inv X pins (σ.set i none) H s'->Q () s'):wpAny M A (do bindName X.env x .none;unbindBehindTheSuite X.env x pos) Q E s:=by
  obtain ⟨m,hn,hl⟩:=id I.loc
  have hcls:(X.env.scope.kind == .class || (X.env.scope.kind == .module && X.env.locals != X.env.globals))=false:=by rw [I.ok.kind];rfl
  have hiσ:i < σ.length:=by rw [I.len];exact (List.getElem?_eq_some_iff.mp hi).1
  have cne:=I.cne
  refine wpAny_nameGoes_keeps hk hn hcls fun h' v hn' hs=>?_
  obtain ⟨oL,_,_,hoL,_⟩:=id hn
  refine h _ ⟨I.ok,I.os,I.bare,⟨fun b o e n hb hx=>?_,fun b o e n hb hx=>?_,I.base.free,fun b o e hx=>?_,I.base.tups,I.base.frzs,I.base.tbls⟩,⟨_,hn',fun j y v' e1 e2 e3=>?_⟩,fun y c e=>?_,I.free,I.freeC,fun p hp=>?_,fun b ob e=>?_,by simpa using I.len⟩
  . exact (hs.2 b (Nat.ne_of_lt (Nat.lt_of_lt_of_le (Heap.lt_size e) I.ok.above))).trans (I.base.keep b o e n hb hx)
  . obtain ⟨sl,e1⟩:=I.base.slot b o e n hb hx
    exact ⟨sl,(hs.2 b (Nat.ne_of_lt (Nat.lt_of_lt_of_le (Heap.lt_size e) I.ok.above))).trans e1⟩
  . obtain ⟨o',e1⟩:=I.base.there b o e hx
    exact ⟨o',(hs.2 b (Nat.ne_of_lt (Nat.lt_of_lt_of_le (Heap.lt_size e) I.ok.above))).trans e1⟩
  . by_cases hj:j=i
    . subst hj
      rw [List.getElem?_set_self hiσ] at e2
      cases e2
    . rw [List.getElem?_set_ne (Ne.symm hj)] at e2
      obtain ⟨u',r',q⟩:=hl j y v' e1 e2 e3
      refine ⟨u',r',?_⟩
      rcases q with ⟨k,e⟩ | ⟨k,c,e,z⟩
      . refine .inl ⟨k,?_⟩
        have:y≠x:=fun e=>hj (nodup_ix hN e1 (e ▸ hi))
        simp [this,e]
      . exact .inr ⟨k,c,e,z.sameBut hs (cne y c e)⟩
  . obtain ⟨w',z⟩:=I.cell y c e
    exact ⟨w',z.sameBut hs (cne y c e)⟩
  . obtain ⟨e,n,ne,nf,d⟩:=I.pin p hp
    exact ⟨(hs.2 p.1 ne).trans e,n,ne,nf,d⟩
  . refine (I.hok b ob e).stay (fun c w' hc q=>(hs.2 c ?_).trans q) (fun _ q=>q) fun _ _ q=>q
    rintro rfl
    rcases hc with rfl | hc
    . rw [I.free] at e;cases e
    . rw [I.free] at hc;cases hc
end
noncomputable def Ends.goes (D:Ends) (j:Nat):Ends:={ nx:=fun σ H=>D.nx (σ.set j none) H,rt:=D.rt,bk:=fun σ H=>D.bk (σ.set j none) H,ct:=fun σ H=>D.ct (σ.set j none) H }
noncomputable def tTryA (K:PySem.W.Frag) (D:Addr) (i j:Nat) (tx:TX) (th:TS):TS:=fun Dn σ H=>tx σ H (fun v H'=>Dn.nx (σ.set i (some v)) H') fun c dxo H'=>∃ C dx,c=.ref C/\dxo=some dx/\CatchIn K C D true /\
  ∀ a,H' a=none->th (Dn.goes j) (σ.set j (some (.ref a))) (upd H' a (XT a C dx))
noncomputable def txTup2 (tx:TX) (t:TA):TX:=fun σ H Q E=>tx σ H (fun x H1=>t σ H1 fun xs H2=>(x::xs).length<=sizeLine/\∀ p,H2 p=none->Q (.ref p) (upd H2 p (.tup (x::xs)))) E
section
variable {X:Cx} {pins:List (Addr × Obj)} {σ:St} {H:Hp} {s:Shared} {a D:Addr} {i j:Nat} {x y n:Str} {e:Expr} {es:List Expr} {px p1 pos1 hp pos:Pos} {b0:Stmt} {su:List Stmt} {tx:TX} {th:TS} {t:TA}
theorem pex_tup {x1} (he:PEX X e tx) (hr:PA X.nox es t) (hs:starEach (e::es) X.env=(false,eval e X.env)::starEach es X.env:=by rfl):PEX X (.Tuple (e::es) x1 pos) (txTup2 tx t):=by
  intro pins s σ H Q E I h
  refine wpAny_Tuple_spliced ?_
  rw [hs]
  show wpAny _ _ (spliced ((false,eval e X.env)::backTo pos (starEach es X.env))) _ _ s
  refine Calls.spliced_cons (thn (he pins s σ H _ E I h) fun u s1 h_q=>?_)
  obtain ⟨x,H1,I1,r1,q1⟩:=h_q
  refine wpAny_mono (hr pos pins s1 σ H1 _ (I1.wish _) q1) (fun us s2 ⟨xs,H2,I2,r2,z,q⟩=>?_) fun _ _ z=>False.elim z
  have I2:=I2.unwish
  have r:Vals (x::xs) (u::us):=.cons r1 r2
  refine ⟨by rw [<- r.length];exact z,?_⟩
  have hf:H2 s2.heap.objs.size=none:=I2.hok.fresh (Nat.le_refl _)
  refine ⟨.ref s2.heap.objs.size,upd H2 s2.heap.objs.size (.tup (x::xs)),I2.laid (t':=s2.toks) (fun b u e=>Heap.get?_push_of_some _ e) (Nat.le_refl _) ?_,rfl,q _ hf⟩
  exact ⟨z,u::us,r,⟨_,Heap.get?_push_size _ rfl,rfl,_,rfl⟩⟩
theorem SP.goes {M:Model} {A:Around} {E:Value->Shared->Prop} {Dn:Ends} {fl:Flow} {s':Shared} (hN:X.N.Nodup) (hj:X.N[j]? = some n) (hk:X.env.kindOf n=some .local) (h:SP X pins (Dn.goes j) fl s') :
    wpAny M A (do bindName X.env n .none;unbindBehindTheSuite X.env n hp) (fun _ s5=>SP X pins Dn fl s5) E s':=by
  cases fl with
  | next=>obtain ⟨σ',H',I,q⟩:=h;exact gone_ok I hN hj hk fun s5 I5=>⟨_,H',I5,q⟩
  | brk=>obtain ⟨σ',H',I,q⟩:=h;exact gone_ok I hN hj hk fun s5 I5=>⟨_,H',I5,q⟩
  | cont=>obtain ⟨σ',H',I,q⟩:=h;exact gone_ok I hN hj hk fun s5 I5=>⟨_,H',I5,q⟩
  | ret u=>obtain ⟨v,σ',H',I,r,q⟩:=h;exact gone_ok I hN hj hk fun s5 I5=>⟨v,_,H',I5,r,q⟩
theorem ps_tryA (B:Bod X) (hN:X.N.Nodup) (hi:X.N[i]? = some y) (hy:Loc X.env.scope y) (hj:X.N[j]? = some n) (hk:X.env.kindOf n=some .local) (he:PEX X e tx) (hg:Gl X x) (hm:X.mg x=some (.ref D)) (hsu:∀ a,PSs (X.mkd a) (b0::su) th) (hdb:(x == ("__debug__":Str))=false:=by decide)
    (hs:swapsWith e (some (.Name y p1)) pos1.line X.env=pure false:=by rfl) (hf:X.fn y=true\/X.env.scope.names.lookup y=some .local:=by first | exact .inl rfl | exact .inr rfl | assumption) :
    PS X (.Try [.Assign [.Name y p1] e pos1] [.ExceptHandler (some (.Name x px)) (some n) (b0::su) hp] [] [] pos) (tTryA X.K D i j tx th):=by
  intro pins s σ H Dn I h
  refine wpAny_Try_except (wpAny_execs_cons (wpAny_Assign_Name (wpAny_mono (he pins s σ H _ _ I h) (fun v s1 ⟨y,H1,I1,r1,q1⟩=>?_) fun ev s1 hx=>?_) hs))
  . exact store_ok I1 hN hi hy r1 (fun s2 I2=>wpAny_execs_nil (wpAny_execs_nil ⟨_,H1,I2,q1⟩)) hf
  . obtain ⟨H1,s0,I0,a,H',rfl,hos,hg',u,hok,f⟩:=hx
    have I1:=I0.call' (ch:=[]) hos u hok hg' fun b hb=>absurd hb (by simp)
    have f1:FlyT X pins σ _ False (rAny X) a s1:=⟨H',I1,f.weak (fun b hb=>I0.newA hb) (fun z=>z) fun v hv=>.inl hv⟩
    refine fly_note B f1 fun s2 f2=>fly_set B f2 fun s3 f3=>?_
    have f3':=f3
    obtain ⟨H3,I3,C,dx,ob,vs,g1,g2,g3,g4,g5,g6,st,C',dx',ec,ed,hcc,q⟩:=f3
    cases ec
    cases ed
    refine handle_as (C:=C) (ld_glob (X:=X.mkd a) I3.mkd hg hm ⟨rfl,⟨ob,g3,g4⟩,hcc.at I3.kIn,?_⟩ hdb)
    refine fly_set B f3' fun s4 f4=>?_
    obtain ⟨H4,I4,C4,dx4,ob4,vs4,n4,hn4,o4,c4,d4,w4,_,C'',dx'',ec',ed',_,q⟩:=f4
    cases ec'
    cases ed'
    have I5:=I4.remember hn4 n4 o4 c4 d4 w4
    refine store_ok (v:=.ref a) I5 hN hj (.inl hk) rfl (fun s5 I6=>?_) (.inr hk)
    exact wpAny_mono (hsu a pins s5 _ _ (Dn.goes j) I6.mkd (q a hn4)) (fun f s' z=>(z.unmkd I.ok).goes hN hj hk) fun _ _ z=>False.elim z
end
noncomputable def AEnds.goes (D:AEnds) (j:Nat):AEnds:={ nx:=fun ρ A=>D.nx (ρ.set j none) A,rt:=D.rt,bk:=fun ρ A=>D.bk (ρ.set j none) A,ct:=fun ρ A=>D.ct (ρ.set j none) A }
noncomputable def aTryA (K:PySem.W.Frag) (D:Addr) (i j:Nat) (ax:AX) (ah:AS):AS:=fun Dn ρ A=>ax ρ A (fun u A'=>Dn.nx (ρ.set i (some u)) A') fun C fs A'=>CatchIn K C D true /\
  ∀ a dx,A' a=none->A' dx=none->a≠dx->ah (Dn.goes j) (ρ.set j (some (.ref a))) (updA (updA A' dx (oXd fs)) a (oX C dx))
noncomputable def axTup2 (ax:AX) (l:AA):AX:=fun ρ A Q X'=>ax ρ A (fun x A1=>l ρ A1 fun xs A2=>(x::xs).length<=sizeLine/\Q (.tup (x::xs)) A2) X'
section
variable {K:PySem.W.Frag}
theorem RSt.unset {H:Hp}:∀ {ρ:ASt} {σ:St} (i:Nat),RSt K H ρ σ->RSt K H (ρ.set i none) (σ.set i none)
  | _,_,_,.nil=>.nil
  | _,_,0,.skip r=>.skip r
  | _,_,i + 1,.skip r=>.skip (RSt.unset i r)
  | _,_,0,.cons h r=>.skip r
  | _,_,i + 1,.cons h r=>.cons h (RSt.unset i r)
theorem AftS.goes {H:Hp} {D':AEnds} {D:Ends} (h:AftS K H D' D) (j:Nat):AftS K H (D'.goes j) (D.goes j) :=
  ⟨fun _ _ _ _ k g r q=>h.nx _ _ _ _ k g (RSt.unset j r) q,h.rt,fun _ _ _ _ k g r q=>h.bk _ _ _ _ k g (RSt.unset j r) q,fun _ _ _ _ k g r q=>h.ct _ _ _ _ k g (RSt.unset j r) q⟩
theorem abx_tup {tx:TX} {ax:AX} {tl:TA} {l:AA} (hx:AbX K tx ax) (hl:AbA K tl l):AbX K (txTup2 tx tl) (axTup2 ax l):=fun ρ A σ H Q' X' Q E hs g w k kx =>
  hx ρ A σ H _ _ _ _ hs g w (fun u A1 v H1 k1 g1 r1 q1=>hl ρ A1 σ H1 _ _ (hs.same k1) g1 q1 fun xs A2 vs H2 k2 g2 r2 ⟨hz,q2⟩=>⟨by
    have:=r2.length
    simp only [List.length_cons] at hz ⊢
    lia,fun p hp=>by
    have s:=Same.upd_new (o:=.tup (v::vs)) hp
    exact k _ _ _ _ (k1.trans (k2.trans s.kp)) (g2.grow s) (.tup (SqT.of upd_same) (.cons ((r1.same k2).same s.kp) (r2.same s.kp))) q2⟩) kx
theorem HR.newX {H:Hp} {A:AHp} {a C dx:Addr} {fs:List (Str × U)} {gs:List (Str × V)} (g:HR K H A) (hd:H dx=some (.xd gs)) (r:RFs K H fs gs) (ha:H a=Option.none):HR K (upd H a (XT a C dx)) (updA (updA A dx (oXd fs)) a (oX C dx)):=by
  have g1:HR K H (updA A dx (oXd fs)):=fun b o e=>by
    by_cases h:b=dx
    . subst h
      rw [updA_same] at e
      cases e
      exact oXd_ro hd r
    . rw [updA_ne h] at e
      exact g b o e
  exact g1.putO (Same.upd_new ha).kp (oX_ro upd_same)
theorem ab_tryA {D:Addr} {i j:Nat} {tx:TX} {ax:AX} {th:TS} {ah:AS} (hx:AbX K tx ax) (hh:AbS K th ah):AbS K (tTryA K D i j tx th) (aTryA K D i j ax ah):=fun ρ A σ H D' Dn hs g w k =>
  hx ρ A σ H _ _ _ _ hs g w (fun u A' v H' k' g' r' q=>k.nx _ _ _ _ k' g' (RSt.set r' i (hs.same k')) q) fun C dx fs gs A' H' k' g' n' d' rf ⟨c,q⟩=>⟨C,dx,rfl,rfl,c,fun a ha=>by
    have hne:a≠dx:=fun e=>by rw [e,d'] at ha;cases ha
    have sm:=Same.upd_new (o:=XT a C dx) ha
    have k2:=k'.trans (sm.kp (K:=K))
    exact hh _ _ _ _ _ _ (RSt.set (.ref a) j (hs.same k2)) (g'.newX d' rf ha) (q a dx (g'.none ha) n' hne) ((k.same k2).goes j)⟩
theorem q_tryA {D:Addr} {i j:Nat} {ax:AX} {ah:AS} {Dn:AEnds} {ρ:ASt} {A:AHp}:aTryA K D i j ax ah Dn ρ A=(ax ρ A (fun u A'=>Dn.nx (ρ.set i (some u)) A') fun C fs A'=>CatchIn K C D true /\
  ∀ a dx,A' a=none->A' dx=none->a≠dx->ah (Dn.goes j) (ρ.set j (some (.ref a))) (updA (updA A' dx (oXd fs)) a (oX C dx))):=rfl
theorem q_axTup {ax:AX} {l:AA} {ρ:ASt} {A:AHp} {Q:AVK} {X':AXK}:axTup2 ax l ρ A Q X'=ax ρ A (fun x A1=>l ρ A1 fun xs A2=>(x::xs).length<=sizeLine/\Q (.tup (x::xs)) A2) X':=rfl
theorem q_goes {D:AEnds} {j:Nat}:D.goes j={ nx:=fun ρ A=>D.nx (ρ.set j none) A,rt:=D.rt,bk:=fun ρ A=>D.bk (ρ.set j none) A,ct:=fun ρ A=>D.ct (ρ.set j none) A }:=rfl
theorem q_xfld {ae:AE} {f:Str} {ρ:ASt} {A:AHp} {Q:AVK}:aXfld K ae f ρ A Q=ae ρ A fun x A1=>∃ a C dx fs u,x=.ref a/\A1 a=some (oX C dx)/\A1 dx=some (oXd fs)/\XGet K C/\NoAttr K C f/\fs.lookup f=some u/\Q u A1:=rfl
noncomputable def aCallN (asp:ASpX) (l:AA):AE:=fun ρ A Q=>l ρ A fun us A1=>asp us A1 Q fun _ _ _=>False
theorem ab_callN {asp:ASpX} {tl:TA} {l:AA} (hl:AbA K tl l):AbE K (tCall (spOfX K asp) [] E0 tl) (aCallN asp l):=fun ρ A σ H Q' Q hs hh h k =>
  hl ρ A σ H _ _ hs hh h fun us A1 vs H1 k1 g1 r1 q1=>⟨us,A1,Q',_,by rw [List.append_nil];exact r1,g1,q1,fun z A3 v3 H3 k3 h3 r3 q3=>k _ _ _ _ (k1.trans k3) h3 r3 q3,fun _ _ _ _ _ _ _ _ _ _ _ z=>z.elim⟩
theorem q_callN {asp:ASpX} {l:AA} {ρ:ASt} {A:AHp} {Q:AVK}:aCallN asp l ρ A Q=l ρ A fun us A1=>asp us A1 Q fun _ _ _=>False:=rfl
end
theorem passN {X:Cx}:Passes (CXX X.prog X.w) X E0:=by
  rintro pins σ H s e s' I ⟨a,H',rfl,_,_,_,_,C,dx,ob,vs,_,_,_,_,_,_,_,z⟩
  exact z.elim
end L2
namespace My
open PySem L2
local macro_rules | `(tactic| walk_at "qd") => do
  let ls <- ("q_var0 q_nm0 q_get0 q_varS q_nmS q_getS q_c q_op q_un q_tb q_bl q_int q_and q_or q_not q_andv q_if q_chain q_true q_nil q_cons q_const q_tup q_lst q_cb q_call q_nopart q_part q_sl q_bm0 q_bm q_next q_seq q_drop q_ret q_ifs q_asg q_par q_two q_for q_jof q_jargs q_ylr q_ylo q_yt q_yr1 q_yer q_yeo q_yet q_jrev q_comp q_gtup q_gcons q_gnil q_addi q_adds q_addt q_addr q_xi q_xi2 q_mul q_rep q_lti q_lts q_eqi q_eqs q_eqb q_eqt q_eqr q_eqtn q_eqnt q_eqnn q_eqns q_eqsn q_nei q_nes q_neb q_net q_ner q_netn q_nent q_nenn q_nens q_nesn q_isn q_notn q_int_ q_nint_ q_inr_ q_ninr_ q_ins_ q_nins_ q_ixs q_ix0 q_ix1 q_ix2 q_ixo q_ixr q_sls q_slt1 q_slo q_slr q_lens q_lent q_leno q_lenr q_min2 q_max2 q_minl q_maxl q_sum q_lot q_loo q_lor q_tot q_tor q_xint q_isl q_ist q_app q_pop q_setl q_tuprev q_neg q_tru q_trul q_trut q_trub q_isi q_ysr q_yso q_yst q_yesr q_yeso q_yest q_tryA q_axTup q_goes q_xfld q_callN q_ins q_popAt q_raise q_try0 q_callX q_axCall".splitOn " ").toArray.mapM fun s => `(Lean.Parser.Tactic.simpLemma| ↓$(Lean.mkIdent (.mkSimple s)):ident)
  `(tactic| (try simp only [$ls,*,List.set_cons_zero,List.set_cons_succ,List.cons_append,List.nil_append]))
local macro_rules | `(tactic| walk_at "qg") => `(tactic| (walk_at "qd"; (try simp only [↓q_ixt, ↓q_slt]); walk_at "qd"))
local macro_rules | `(tactic| walk_at "qs") => `(tactic| (simp only [L2.aStart, List.map_cons, List.map_nil, List.length_cons, List.length_nil, List.replicate, List.cons_append, List.nil_append, Nat.reduceAdd, Nat.reduceSub]))
local macro_rules | `(tactic| walk_at "qc") => `(tactic| (try simp only [L2.aCompStart, List.replicate, List.map_cons, List.map_nil, List.getElem?_cons_zero, List.getElem?_cons_succ, Option.join_some, List.cons_append, List.nil_append]))
noncomputable def top (i:Nat):Stmt:=PySem.Challenge.pw_figurebook_k39_steps_walked.main.body.getD i (.Pass ⟨0,0,0,0⟩)
noncomputable abbrev s_NoFit___init__:Stmt:=inClass (top 2) 0
noncomputable abbrev s_NoStep___init__:Stmt:=inClass (top 4) 0
noncomputable abbrev s_parts_of:Stmt:=top 7
noncomputable abbrev s_made_of:Stmt:=top 8
noncomputable abbrev s_part_at:Stmt:=top 9
noncomputable abbrev s_walked:Stmt:=top 11
noncomputable abbrev s_after_step:Stmt:=top 12
noncomputable abbrev s_swapped:Stmt:=top 13
noncomputable abbrev s_turned:Stmt:=top 14
noncomputable abbrev s_put_at:Stmt:=top 15
noncomputable abbrev s_w_mix:Stmt:=top 17
noncomputable abbrev s_w_cell:Stmt:=top 18
noncomputable abbrev s_w_tuples:Stmt:=top 19
noncomputable abbrev s_w_put:Stmt:=top 20
noncomputable abbrev s_w_any:Stmt:=top 21
noncomputable abbrev s_w_parts:Stmt:=top 22
noncomputable abbrev s_w_with:Stmt:=top 23
noncomputable abbrev s_w_at_top:Stmt:=top 24
noncomputable abbrev s_w_done:Stmt:=top 25
noncomputable abbrev s_w_paths:Stmt:=top 26
noncomputable abbrev s_w_step:Stmt:=top 27
noncomputable abbrev s_w_walked:Stmt:=top 28
noncomputable abbrev s_law:Stmt:=top 29
theorem sc_NoFit___init__:FnScope ["self","path"] ["self","path"] (defScope s_NoFit___init__):=⟨rfl,rfl,rfl,by decide +kernel,rfl,by decide +kernel,by decide +kernel⟩
theorem sc_NoStep___init__:FnScope ["self","at"] ["self","at"] (defScope s_NoStep___init__):=⟨rfl,rfl,rfl,by decide +kernel,rfl,by decide +kernel,by decide +kernel⟩
theorem sc_parts_of:FnScope ["writing","kind"] ["writing"] (defScope s_parts_of):=⟨rfl,rfl,rfl,by decide +kernel,rfl,by decide +kernel,by decide +kernel⟩
theorem sc_made_of:FnScope ["kind","parts"] ["kind","parts"] (defScope s_made_of):=⟨rfl,rfl,rfl,by decide +kernel,rfl,by decide +kernel,by decide +kernel⟩
theorem sc_part_at:FnScope ["writing","path","part","number","parts"] ["writing","path"] (defScope s_part_at):=⟨rfl,rfl,rfl,by decide +kernel,rfl,by decide +kernel,by decide +kernel⟩
theorem sc_walked:FnScope ["writing","steps","at","step"] ["writing","steps"] (defScope s_walked):=⟨rfl,rfl,rfl,by decide +kernel,rfl,by decide +kernel,by decide +kernel⟩
theorem sc_after_step:FnScope ["writing","step","word","path","i","part","moved"] ["writing","step"] (defScope s_after_step):=⟨rfl,rfl,rfl,by decide +kernel,rfl,by decide +kernel,by decide +kernel⟩
theorem sc_swapped:FnScope ["part","i","parts"] ["part","i"] (defScope s_swapped):=⟨rfl,rfl,rfl,by decide +kernel,rfl,by decide +kernel,by decide +kernel⟩
theorem sc_turned:FnScope ["part","i","parts"] ["part","i"] (defScope s_turned):=⟨rfl,rfl,rfl,by decide +kernel,rfl,by decide +kernel,by decide +kernel⟩
theorem sc_put_at:FnScope ["writing","path","part","wholes","whole","number","parts"] ["writing","path","part"] (defScope s_put_at):=⟨rfl,rfl,rfl,by decide +kernel,rfl,by decide +kernel,by decide +kernel⟩
theorem sc_w_mix:FnScope ["_law_script","_law_made","_law_k","_law_cell_here"] ["_law_script"] (defScope s_w_mix):=⟨rfl,rfl,rfl,by decide +kernel,rfl,by decide +kernel,by decide +kernel⟩
theorem sc_w_cell:FnScope ["_law_script","_law_k"] ["_law_script","_law_k"] (defScope s_w_cell):=⟨rfl,rfl,rfl,by decide +kernel,rfl,by decide +kernel,by decide +kernel⟩
theorem sc_w_tuples:FnScope ["_law_figure","_law_parts_here"] ["_law_figure"] (defScope s_w_tuples):=⟨rfl,rfl,rfl,by decide +kernel,rfl,by decide +kernel,by decide +kernel⟩
theorem sc_w_put:FnScope ["_law_stack","_law_cell_here","_law_room","_law_kind","_law_turn","_law_many","_law_other","_law_twin","_law_parts_here"] ["_law_stack","_law_cell_here","_law_room"] (defScope s_w_put):=⟨rfl,rfl,rfl,by decide +kernel,rfl,by decide +kernel,by decide +kernel⟩
theorem sc_w_any:FnScope ["_law_cells","_law_stack","_law_k","_law_cell_here"] ["_law_cells"] (defScope s_w_any):=⟨rfl,rfl,rfl,by decide +kernel,rfl,by decide +kernel,by decide +kernel⟩
theorem sc_w_parts:FnScope ["_law_figure"] ["_law_figure"] (defScope s_w_parts):=⟨rfl,rfl,rfl,by decide +kernel,rfl,by decide +kernel,by decide +kernel⟩
theorem sc_w_with:FnScope ["_law_figure","_law_parts_here"] ["_law_figure","_law_parts_here"] (defScope s_w_with):=⟨rfl,rfl,rfl,by decide +kernel,rfl,by decide +kernel,by decide +kernel⟩
theorem sc_w_at_top:FnScope ["_law_figure","_law_word","_law_at","_law_parts_here"] ["_law_figure","_law_word","_law_at"] (defScope s_w_at_top):=⟨rfl,rfl,rfl,by decide +kernel,rfl,by decide +kernel,by decide +kernel⟩
theorem sc_w_done:FnScope ["_law_figure","_law_word","_law_path","_law_at","_law_parts_here","_law_inner"] ["_law_figure","_law_word","_law_path","_law_at"] (defScope s_w_done):=⟨rfl,rfl,rfl,by decide +kernel,rfl,by decide +kernel,by decide +kernel⟩
theorem sc_w_paths:FnScope ["_law_figure","_law_path","_law_found","_law_k","_law_part"] ["_law_figure","_law_path"] (defScope s_w_paths):=⟨rfl,rfl,rfl,by decide +kernel,rfl,by decide +kernel,by decide +kernel⟩
theorem sc_w_step:FnScope ["_law_figure","_law_cell_here","_law_wild","_law_spots","_law_good","_law_spot","_law_word","_law_at","_law_up"] ["_law_figure","_law_cell_here","_law_wild"] (defScope s_w_step):=⟨rfl,rfl,rfl,by decide +kernel,rfl,by decide +kernel,by decide +kernel⟩
theorem sc_w_walked:FnScope ["_law_writing","_law_steps","_law_found","e"] ["_law_writing","_law_steps"] (defScope s_w_walked):=⟨rfl,rfl,rfl,by decide +kernel,rfl,by decide +kernel,by decide +kernel⟩
theorem sc_law:FnScope ["_law_script","_law_whole","_law_wild","_law_here","_law_steps","_law_bad","_law_k","_law_cell_here","_law_step_here","_law_made","_law_due","_law_handed","_law_found"] ["_law_script"] (defScope s_law):=⟨rfl,rfl,rfl,by decide +kernel,rfl,by decide +kernel,by decide +kernel⟩
/-- what the top has written: each def of the text,its names;what is not the text's own -/
structure TX (K:PySem.W.Frag) (mg:Str->Option Value) (f_NoStep___init__ f_parts_of f_made_of f_part_at f_walked f_after_step f_swapped f_turned f_put_at f_w_mix f_w_cell f_w_tuples f_w_put f_w_any f_w_parts f_w_with f_w_at_top f_w_done f_w_paths f_w_step f_w_walked f_law a_NoStep a_FigureError a_NoFit a_TooMany a_MANY:Addr) (d_NoStep___init__ d_parts_of d_made_of d_part_at d_walked d_after_step d_swapped d_turned d_put_at d_w_mix d_w_cell d_w_tuples d_w_put d_w_any d_w_parts d_w_with d_w_at_top d_w_done d_w_paths d_w_step d_w_walked d_law:FuncData):Prop where
  F_NoStep___init__:Fun K "__init__" "NoStep.__init__" s_NoStep___init__ f_NoStep___init__ d_NoStep___init__
  B_NoStep___init__:Binds K d_NoStep___init__ ["self","at"] []
  K_NoStep:XCl K a_NoStep f_NoStep___init__
  F_parts_of:Fun K "parts_of" "parts_of" s_parts_of f_parts_of d_parts_of
  B_parts_of:Binds K d_parts_of ["writing"] []
  M_parts_of:mg "parts_of"=some (.ref f_parts_of)
  F_made_of:Fun K "made_of" "made_of" s_made_of f_made_of d_made_of
  B_made_of:Binds K d_made_of ["kind","parts"] []
  M_made_of:mg "made_of"=some (.ref f_made_of)
  F_part_at:Fun K "part_at" "part_at" s_part_at f_part_at d_part_at
  B_part_at:Binds K d_part_at ["writing","path"] []
  M_part_at:mg "part_at"=some (.ref f_part_at)
  F_walked:Fun K "walked" "walked" s_walked f_walked d_walked
  B_walked:Binds K d_walked ["writing","steps"] []
  M_walked:mg "walked"=some (.ref f_walked)
  F_after_step:Fun K "after_step" "after_step" s_after_step f_after_step d_after_step
  B_after_step:Binds K d_after_step ["writing","step"] []
  M_after_step:mg "after_step"=some (.ref f_after_step)
  F_swapped:Fun K "swapped" "swapped" s_swapped f_swapped d_swapped
  B_swapped:Binds K d_swapped ["part","i"] []
  M_swapped:mg "swapped"=some (.ref f_swapped)
  F_turned:Fun K "turned" "turned" s_turned f_turned d_turned
  B_turned:Binds K d_turned ["part","i"] []
  M_turned:mg "turned"=some (.ref f_turned)
  F_put_at:Fun K "put_at" "put_at" s_put_at f_put_at d_put_at
  B_put_at:Binds K d_put_at ["writing","path","part"] []
  M_put_at:mg "put_at"=some (.ref f_put_at)
  F_w_mix:Fun K "_law_mix" "_law_mix" s_w_mix f_w_mix d_w_mix
  B_w_mix:Binds K d_w_mix ["_law_script"] []
  M_w_mix:mg "_law_mix"=some (.ref f_w_mix)
  F_w_cell:Fun K "_law_cell" "_law_cell" s_w_cell f_w_cell d_w_cell
  B_w_cell:Binds K d_w_cell ["_law_script","_law_k"] []
  M_w_cell:mg "_law_cell"=some (.ref f_w_cell)
  F_w_tuples:Fun K "_law_tuples" "_law_tuples" s_w_tuples f_w_tuples d_w_tuples
  B_w_tuples:Binds K d_w_tuples ["_law_figure"] []
  M_w_tuples:mg "_law_tuples"=some (.ref f_w_tuples)
  F_w_put:Fun K "_law_put" "_law_put" s_w_put f_w_put d_w_put
  B_w_put:Binds K d_w_put ["_law_stack","_law_cell_here","_law_room"] []
  M_w_put:mg "_law_put"=some (.ref f_w_put)
  F_w_any:Fun K "_law_any" "_law_any" s_w_any f_w_any d_w_any
  B_w_any:Binds K d_w_any ["_law_cells"] []
  M_w_any:mg "_law_any"=some (.ref f_w_any)
  F_w_parts:Fun K "_law_parts" "_law_parts" s_w_parts f_w_parts d_w_parts
  B_w_parts:Binds K d_w_parts ["_law_figure"] []
  M_w_parts:mg "_law_parts"=some (.ref f_w_parts)
  F_w_with:Fun K "_law_with" "_law_with" s_w_with f_w_with d_w_with
  B_w_with:Binds K d_w_with ["_law_figure","_law_parts_here"] []
  M_w_with:mg "_law_with"=some (.ref f_w_with)
  F_w_at_top:Fun K "_law_at_top" "_law_at_top" s_w_at_top f_w_at_top d_w_at_top
  B_w_at_top:Binds K d_w_at_top ["_law_figure","_law_word","_law_at"] []
  M_w_at_top:mg "_law_at_top"=some (.ref f_w_at_top)
  F_w_done:Fun K "_law_done" "_law_done" s_w_done f_w_done d_w_done
  B_w_done:Binds K d_w_done ["_law_figure","_law_word","_law_path","_law_at"] []
  M_w_done:mg "_law_done"=some (.ref f_w_done)
  F_w_paths:Fun K "_law_paths" "_law_paths" s_w_paths f_w_paths d_w_paths
  B_w_paths:Binds K d_w_paths ["_law_figure","_law_path"] []
  M_w_paths:mg "_law_paths"=some (.ref f_w_paths)
  F_w_step:Fun K "_law_step" "_law_step" s_w_step f_w_step d_w_step
  B_w_step:Binds K d_w_step ["_law_figure","_law_cell_here","_law_wild"] []
  M_w_step:mg "_law_step"=some (.ref f_w_step)
  F_w_walked:Fun K "_law_walked" "_law_walked" s_w_walked f_w_walked d_w_walked
  B_w_walked:Binds K d_w_walked ["_law_writing","_law_steps"] []
  M_w_walked:mg "_law_walked"=some (.ref f_w_walked)
  F_law:Fun K "law" "law" s_law f_law d_law
  B_law:Binds K d_law ["_law_script"] []
  M_law:mg "law"=some (.ref f_law)
  m_NoStep:mg "NoStep"=some (.ref a_NoStep)
  m_FigureError:mg "FigureError"=some (.ref a_FigureError)
  m_NoFit:mg "NoFit"=some (.ref a_NoFit)
  m_TooMany:mg "TooMany"=some (.ref a_TooMany)
  XB:XBase K a_FigureError
  N_NoStep_at:NoAttr K a_NoStep "at"
  Y_NoStep_FigureError:CatchIn K a_NoStep a_FigureError true
  X_NoStep:XGet K a_NoStep
  XI_0:PySem.W.kitOne K (.ref a_NoStep) (.ref a_NoStep)=some true
  XI_1:PySem.W.kitOne K (.ref a_NoStep) (.type "ValueError")=some true
  XI_2:PySem.W.kitAny K (.ref a_NoStep) [.ref a_NoFit,.ref a_TooMany]=some false
  n_ValueError:mg "ValueError"=none
  n_all:mg "all"=none
  n_any:mg "any"=none
  n_bool:mg "bool"=none
  n_enumerate:mg "enumerate"=none
  n_int:mg "int"=none
  n_isinstance:mg "isinstance"=none
  n_len:mg "len"=none
  n_list:mg "list"=none
  n_max:mg "max"=none
  n_min:mg "min"=none
  n_range:mg "range"=none
  n_reversed:mg "reversed"=none
  n_sorted:mg "sorted"=none
  n_str:mg "str"=none
  n_sum:mg "sum"=none
  n_tuple:mg "tuple"=none
  n_zip:mg "zip"=none
  c_MANY:∃ u,mg "MANY"=some u/\RelV (.ref a_MANY) u
  q_MANY:∀ H,SqT K H a_MANY [.str "row",.str "bag",.str "choice",.str "ring"]
  y_MANY:∀ H,tyV K "tuple" (.ref a_MANY) H
variable {P:Program} {w:World} {K:PySem.W.Frag} {mg:Str->Option Value} {base:Heap} {f_NoStep___init__ f_parts_of f_made_of f_part_at f_walked f_after_step f_swapped f_turned f_put_at f_w_mix f_w_cell f_w_tuples f_w_put f_w_any f_w_parts f_w_with f_w_at_top f_w_done f_w_paths f_w_step f_w_walked f_law a_NoStep a_FigureError a_NoFit a_TooMany a_MANY:Addr} {d_NoStep___init__ d_parts_of d_made_of d_part_at d_walked d_after_step d_swapped d_turned d_put_at d_w_mix d_w_cell d_w_tuples d_w_put d_w_any d_w_parts d_w_with d_w_at_top d_w_done d_w_paths d_w_step d_w_walked d_law:FuncData} (T:TX K mg f_NoStep___init__ f_parts_of f_made_of f_part_at f_walked f_after_step f_swapped f_turned f_put_at f_w_mix f_w_cell f_w_tuples f_w_put f_w_any f_w_parts f_w_with f_w_at_top f_w_done f_w_paths f_w_step f_w_walked f_law a_NoStep a_FigureError a_NoFit a_TooMany a_MANY d_NoStep___init__ d_parts_of d_made_of d_part_at d_walked d_after_step d_swapped d_turned d_put_at d_w_mix d_w_cell d_w_tuples d_w_put d_w_any d_w_parts d_w_with d_w_at_top d_w_done d_w_paths d_w_step d_w_walked d_law)
noncomputable def asp_parts:ASp:=fun us A Q=>∃ w:Wr,us=[w.toU]/\Q (.tup (w.parts.map Wr.toU)) A
section
include T
theorem ok_parts_of:FnOk P w K mg base CX0 1 f_parts_of d_parts_of ["writing"] (spOf K asp_parts):=by
  refine' Fun.okA T.F_parts_of (sc:=?sc) (body:=?bd) ?hs ?hb sc_parts_of ?hB ?hS
  case hs=>conv=>lhs;whnf
  case hb=>conv=>lhs;whnf
  case hB=>exact fun S cdv A outer s H E hr=>⟨_,(pss_cons (ps_set (i:=1) S.nd rfl (Or.inl rfl) (pe_ix o_ix (pv 0) pe_int (fun _ _=>rfl)))
      (pss_cons (ps_if (pt_cmpR o_in (pv 1) (pe_gv (by rfl) T.c_MANY) (by with_unfolding_all rfl)) (pss_one (ps_ret (pe_ix o_ix (pv 0) pe_int (fun _ _=>rfl)))) pss_nil)
      (pss_cons (ps_if (pt_cmpR (o_eqD hr) (pv 1) pe_str (nomark _)) (pss_one (ps_ret (pe_tup pa_nil))) pss_nil)
      (pss_one (ps_ret (pe_slice o_slW (pv 0) (po_some pe_int) po_none)))))),(ab_seq (ab_asg (ab_op ab_ix ab_var ab_int) ab_name)
      (ab_seq (ab_ifs (ab_test (ab_op ab_in ab_var (ab_c fun H=>.tup (T.q_MANY H) (.cons (.str _) (.cons (.str _) (.cons (.str _) (.cons (.str _) .nil))))))) (ab_ret (ab_op ab_ix ab_var ab_int)) ab_next)
      (ab_seq (ab_ifs (ab_test (ab_op ab_eq ab_var ab_str)) (ab_ret (ab_tup ab_nil)) ab_next)
      (ab_ret (ab_sl ab_xsl ab_var (ab_part ab_int) ab_nopart)))))⟩
  rintro us A Q ⟨w,rfl,q⟩
  refine ⟨rfl,?_⟩
  walk_at "qs"
  rcases w.kinds with ⟨c,rfl⟩ | ⟨k,ps,rfl⟩ | hf
  . rw [Wr.toU]
    walk_at "qd"
    refine ⟨rfl,rfl,iteFf rfl ?_⟩
    walk_at "qd"
    refine iteTt rfl ⟨by decide,fg q⟩
  . rw [Wr.toU_many]
    walk_at "qd"
    exact ⟨rfl,rfl,iteTt (in_manyU k) (fg q)⟩
  . rw [Wr.toU_few hf]
    walk_at "qd"
    refine ⟨rfl,rfl,iteFf (nin_manyU hf.2) ?_⟩
    walk_at "qd"
    exact iteFf (nb_name hf.1) (fg q)
end
noncomputable def asp_with:ASp:=fun us A Q=>∃ (w:Wr) (x:U) (ps:List U),us=[w.toU,x]/\(x=.tup ps\/∃ l,x=.ref l/\A l=some (.lst ps))/\ps.length<=1000/\(∀ c,w≠.bead c)/\Q (w.wthU ps) A
section
include T
theorem ok_lparts:FnOk P w K mg base CX0 1 f_w_parts d_w_parts ["_law_figure"] (spOf K asp_parts):=by
  refine' Fun.okA T.F_w_parts (sc:=?sc2) (body:=?bd2) ?hs2 ?hb2 sc_w_parts ?hB2 ?hS2
  case hs2=>conv=>lhs;whnf
  case hb2=>conv=>lhs;whnf
  case hB2=>exact fun S cdv A outer s H E hr=>⟨_,(pss_cons (ps_if (pt_cmpR (o_eqD hr) (pe_ix o_ix (pv 0) pe_int (fun _ _=>rfl)) pe_str (nomark _)) (pss_one (ps_ret (pe_tup pa_nil))) pss_nil)
      (pss_cons (ps_if (pt_cmpR o_in (pe_ix o_ix (pv 0) pe_int (fun _ _=>rfl)) (pe_tup (pa_strs (xs:=["row","bag","choice","ring"]) rfl)) (by with_unfolding_all rfl)) (pss_one (ps_ret (pe_ix o_ix (pv 0) pe_int (fun _ _=>rfl)))) pss_nil)
      (pss_one (ps_ret (pe_slice o_slW (pv 0) (po_some pe_int) po_none))))),(ab_seq (ab_ifs (ab_test (ab_op ab_eq (ab_op ab_ix ab_var ab_int) ab_str)) (ab_ret (ab_tup ab_nil)) ab_next)
      (ab_seq (ab_ifs (ab_test (ab_op ab_in (ab_op ab_ix ab_var ab_int) (ab_tup ab_strs))) (ab_ret (ab_op ab_ix ab_var ab_int)) ab_next)
      (ab_ret (ab_sl ab_xsl ab_var (ab_part ab_int) ab_nopart))))⟩
  rintro us A Q ⟨w,rfl,q⟩
  refine ⟨rfl,?_⟩
  walk_at "qs"
  rcases w.kinds with ⟨c,rfl⟩ | ⟨k,ps,rfl⟩ | hf
  . rw [Wr.toU]
    walk_at "qd"
    exact iteTt rfl ⟨by decide,fg q⟩
  . rw [Wr.toU_many]
    walk_at "qd"
    refine iteFf (nbm k) ?_
    walk_at "qd"
    exact ⟨by decide,rfl,rfl,iteTt (in_manyU k) (fg q)⟩
  . rw [Wr.toU_few hf]
    walk_at "qd"
    refine iteFf (nb_name hf.1) ?_
    walk_at "qd"
    exact ⟨by decide,rfl,rfl,iteFf (nin_manyU hf.2) (fg q)⟩
theorem ok_with:FnOk P w K mg base CX0 1 f_w_with d_w_with ["_law_figure","_law_parts_here"] (spOf K asp_with):=by
  refine' Fun.okA T.F_w_with (sc:=?sc3) (body:=?bd3) ?hs3 ?hb3 sc_w_with ?hB3 ?hS3
  case hs3=>conv=>lhs;whnf
  case hb3=>conv=>lhs;whnf
  case hB3=>exact fun S cdv A outer s H E hr=>⟨_,(pss_cons (ps_if (pt_cmpR o_in (pe_ix o_ix (pv 0) pe_int (fun _ _=>rfl)) (pe_tup (pa_strs (xs:=["row","bag","choice","ring"]) rfl)) (by with_unfolding_all rfl)) (pss_one (ps_ret (pe_tup (pa_cons (pe_ix o_ix (pv 0) pe_int (fun _ _=>rfl)) (pa_cons (pe_callTy c_tuple (by rfl) T.n_tuple (by decide +kernel) (pa_cons (pv 1) pa_nil)) pa_nil))))) pss_nil)
      (pss_one (ps_ret (pe_op o_addW (pe_tup (pa_cons (pe_ix o_ix (pv 0) pe_int (fun _ _=>rfl)) pa_nil)) (pe_callTy c_tuple (by rfl) T.n_tuple (by decide +kernel) (pa_cons (pv 1) pa_nil)))))),(ab_seq (ab_ifs (ab_test (ab_op ab_in (ab_op ab_ix ab_var ab_int) (ab_tup ab_strs))) (ab_ret (ab_tup (ab_cons (ab_op ab_ix ab_var ab_int) (ab_cons (ab_cb ab_tupof (ab_cons ab_var ab_nil)) ab_nil)))) ab_next)
      (ab_ret (ab_op ab_add (ab_tup (ab_cons (ab_op ab_ix ab_var ab_int) ab_nil)) (ab_cb ab_tupof (ab_cons ab_var ab_nil)))))⟩
  rintro us A Q ⟨w,x,ps,rfl,hx,hn,hb,q⟩
  refine ⟨rfl,?_⟩
  walk_at "qs"
  have hT:∀ R:AVK,R (.tup ps) A->xTupOf [x] A R:=fun R h=>by
    rcases hx with rfl | ⟨l,rfl,hl⟩
    . exact h
    . exact ⟨ps,hl,h⟩
  rcases w.kinds with ⟨c,rfl⟩ | ⟨k,qs,rfl⟩ | hf
  . exact absurd rfl (hb c)
  . rw [Wr.toU_many]
    walk_at "qd"
    refine ⟨by decide,rfl,rfl,iteTt (in_manyU k) ?_⟩
    walk_at "qd"
    exact hT _ ⟨tup2,fg q⟩
  . rw [Wr.toU_few hf]
    walk_at "qd"
    refine ⟨by decide,rfl,rfl,iteFf (nin_manyU hf.2) ?_⟩
    walk_at "qd"
    refine ⟨tup1,hT _ ?_⟩
    walk_at "qd"
    rw [wthU_few hf] at q
    exact ⟨line1000 (by simp only [List.length_cons,List.length_nil];lia),fg q⟩
end
noncomputable def optU:Option Wr->U
  | some v=>v.toU
  | none=>.non
noncomputable def asp_top:ASp:=fun us A Q=>∃ (w:Wr) (wd:Str) (i:Int),us=[w.toU,.str wd,.int i]/\w.gd=true/\Q (optU (topAct w wd i)) A
noncomputable def asp_done (n:Nat):ASp:=fun us A Q=>∃ (w:Wr) (wd:Str) (p:List Int) (i:Int),us=[w.toU,.str wd,.tup (p.map U.int),.int i]/\w.gd=true/\w.tups<=96/\p.length < n/\Q (optU (w.act wd i p)) A
theorem many_or (w:Wr):(∃ k ps,w=.many k ps)\/∀ k ps,w≠.many k ps:=by
  cases w with
  | many k ps=>exact .inl ⟨k,ps,rfl⟩
  | _=>exact .inr fun k ps h=>by cases h
theorem nm_bcr {w : Wr} (h:∀ k ps,w≠.many k ps):inU (.str w.name) [.str "bag",.str "choice"]=false/\decide (w.name=Str.ofString "ring")=false:=by
  have key:∀ x∈[Str.ofString "nothing",Str.ofString "left",Str.ofString "right",Str.ofString "pair",Str.ofString "bead"],inU (.str x) [.str "bag",.str "choice"]=false/\decide (x=Str.ofString "ring")=false:=by decide +kernel
  cases w with
  | nothing=>exact key _ (.head _)
  | bead c=>exact key _ (.tail _ (.tail _ (.tail _ (.tail _ (.head _)))))
  | side b f => cases b
                . exact key _ (.tail _ (.head _))
                . exact key _ (.tail _ (.tail _ (.head _)))
  | pair f g=>exact key _ (.tail _ (.tail _ (.tail _ (.head _))))
  | many k ps=>exact absurd rfl (h k ps)
theorem cutFrom {xs:List U} {k:Nat} (h:k<=xs.length):cutU xs (some (k:Int)) none=xs.drop k:=by
  unfold cutU
  rw [HT.sIx_nat,HT.sIx_none,Nat.min_eq_left h,List.take_of_length_le (by rw [List.length_drop];lia)]
theorem cutTo {xs:List U} {k:Nat} (h:k<=xs.length):cutU xs none (some (k:Int))=xs.take k:=by
  unfold cutU
  rw [HT.sIx_nat,HT.sIx_none,Nat.min_eq_left h,List.drop_zero,Nat.sub_zero]
section
include T
theorem ok_top : FnOk P w K mg base CX0 3 f_w_at_top d_w_at_top ["_law_figure","_law_word","_law_at"] (spOf K asp_top):=by
  have G_w_parts:=ok_lparts (P:=P) (w:=w) (base:=base) T
  refine' Fun.okA T.F_w_at_top (sc:=?sc4) (body:=?bd4) ?hs4 ?hb4 sc_w_at_top ?hB4 ?hS4
  case hs4=>conv=>lhs;whnf
  case hb4=>conv=>lhs;whnf
  case hB4=>exact fun S cdv A outer s H E hr=>⟨_,(pss_cons (ps_set (i:=3) S.nd rfl (Or.inl rfl) (pe_call (G_w_parts.mono (by first | decide | lia)) hr (by rfl) T.M_w_parts T.F_w_parts.kp T.B_w_parts .nil pass0 (pa_cons (pv 0) pa_nil)))
      (pss_cons (ps_if ((pw_and (pt_cmpR (o_eqD hr) (pv 1) pe_str (nomark _)) (pw_and (pt_cmpR (o_eqD hr) (pe_ix o_ix (pv 0) pe_int (fun _ _=>rfl)) pe_str (nomark _)) (pw_and1 (pt_chain o_le o_lt pe_int (pv 2) (pe_callB c_len (by rfl) T.n_len (by decide +kernel) (pa_cons (pv 3) pa_nil))))))).pt (pss_one (ps_ret (pe_tup (pa_cons (pe_ix o_ix (pv 0) pe_int (fun _ _=>rfl)) (pa_cons (pe_op o_addW (pe_slice o_slW (pv 3) (po_some (pv 2)) po_none) (pe_slice o_slW (pv 3) po_none (po_some (pv 2)))) pa_nil))))) pss_nil)
      (pss_cons (ps_if ((pw_and (pt_cmpR (o_eqD hr) (pv 1) pe_str (nomark _)) (pw_and (pt_cmpR o_in (pe_ix o_ix (pv 0) pe_int (fun _ _=>rfl)) (pe_tup (pa_cons pe_str (pa_cons pe_str pa_nil))) (by with_unfolding_all rfl)) (pw_and1 (pt_chain o_le o_lt pe_int (pv 2) (pe_op o_sub (pe_callB c_len (by rfl) T.n_len (by decide +kernel) (pa_cons (pv 3) pa_nil)) pe_int)))))).pt (pss_one (ps_ret (pe_tup (pa_cons (pe_ix o_ix (pv 0) pe_int (fun _ _=>rfl)) (pa_cons (pe_op o_addW (pe_op o_addW (pe_slice o_slW (pv 3) po_none (po_some (pv 2))) (pe_tup (pa_cons (pe_ix o_ix (pv 3) (pe_op o_addW (pv 2) pe_int) (fun _ _=>rfl)) (pa_cons (pe_ix o_ix (pv 3) (pv 2) (fun _ _=>rfl)) pa_nil)))) (pe_slice o_slW (pv 3) (po_some (pe_op o_addW (pv 2) pe_int)) po_none)) pa_nil))))) pss_nil)
      (pss_one (ps_ret pe_non))))),(ab_seq (ab_asg (ab_call (ab_cons ab_var ab_nil)) ab_name)
      (ab_seq (ab_ifs (ab_and (ab_test (ab_op ab_eq ab_var ab_str)) (ab_and (ab_test (ab_op ab_eq (ab_op ab_ix ab_var ab_int) ab_str)) (ab_test (ab_chain ab_le ab_lt ab_int ab_var (ab_cb ab_len (ab_cons ab_var ab_nil)))))) (ab_ret (ab_tup (ab_cons (ab_op ab_ix ab_var ab_int) (ab_cons (ab_op ab_add (ab_sl ab_xsl ab_var (ab_part ab_var) ab_nopart) (ab_sl ab_xsl ab_var ab_nopart (ab_part ab_var))) ab_nil)))) ab_next)
      (ab_seq (ab_ifs (ab_and (ab_test (ab_op ab_eq ab_var ab_str)) (ab_and (ab_test (ab_op ab_in (ab_op ab_ix ab_var ab_int) (ab_tup (ab_cons ab_str (ab_cons ab_str ab_nil))))) (ab_test (ab_chain ab_le ab_lt ab_int ab_var (ab_op ab_sub (ab_cb ab_len (ab_cons ab_var ab_nil)) ab_int))))) (ab_ret (ab_tup (ab_cons (ab_op ab_ix ab_var ab_int) (ab_cons (ab_op ab_add (ab_op ab_add (ab_sl ab_xsl ab_var ab_nopart (ab_part ab_var)) (ab_tup (ab_cons (ab_op ab_ix ab_var (ab_op ab_add ab_var ab_int)) (ab_cons (ab_op ab_ix ab_var ab_var) ab_nil)))) (ab_sl ab_xsl ab_var (ab_part (ab_op ab_add ab_var ab_int)) ab_nopart)) ab_nil)))) ab_next)
      (ab_ret ab_non))))⟩
  rintro us A Q ⟨w,wd,i,rfl,hg,q⟩
  refine ⟨rfl,?_⟩
  walk_at "qs"
  walk_at "qd"
  refine ⟨w,rfl,?_⟩
  rcases many_or w with ⟨k,ps,rfl⟩ | hn
  . have hk3 : k <= 3/\ps.length < 64:=by simp only [Wr.gd,Bool.and_eq_true,decide_eq_true_eq] at hg;exact hg.1
    rw [Wr.toU_many]
    simp only [Wr.parts]
    walk_at "qd"
    rw [List.length_map]
    by_cases hw:wd="turn"
    . have hw2:wd≠"swap":=by rw [hw];decide
      have none_:∀ A1:AHp,topAct (.many k ps) wd i=none->A1=A->Fg Q .non A1:=fun A1 h e=>by rw [h] at q;rw [e];exact fg q
      refine iteTt (decide_eq_true hw) ?_
      by_cases k3:k=3
      . refine iteTt (by subst k3;decide +kernel) ?_
        by_cases h0:0<=i
        . refine iteTt (decide_eq_true h0) ?_
          by_cases hl:i < (ps.length:Int)
          . refine iteTt (decide_eq_true hl) ?_
            obtain ⟨j,rfl⟩:=Int.eq_ofNat_of_zero_le h0
            walk_at "qg"
            rw [cutTo (by rw [List.length_map];lia),cutFrom (by rw [List.length_map];lia)]
            refine ⟨line1000 (by simp;lia),tup2,fg ?_⟩
            have e:topAct (.many k ps) wd (j:Nat)=some (.many k (turnL ps j)):=if_pos ⟨hw,k3,h0,hl⟩
            rw [e,optU,Wr.toU_many,turnL,List.map_append,List.map_drop,List.map_take] at q
            exact q
          . exact iteFf (decide_eq_false hl) (iteFf (decide_eq_false hw2) (iteFf rfl (none_ _ (top_none (fun h=>hl h.2.2.2) (fun h=>hw2 h.1)) rfl)))
        . exact iteFf (decide_eq_false h0) (iteFf rfl (iteFf (decide_eq_false hw2) (iteFf rfl (none_ _ (top_none (fun h=>h0 h.2.2.1) (fun h=>hw2 h.1)) rfl))))
      . refine iteFf (by obtain h | h | h:k=0\/k=1\/k=2:=(by lia);all_goals (subst h;decide +kernel)) (iteFf rfl (iteFf (decide_eq_false hw2) (iteFf rfl (none_ _ (top_none (fun h=>k3 h.2.1) (fun h=>hw2 h.1)) rfl))))
    . have none_ : topAct (.many k ps) wd i=none->Fg Q .non A:=fun h=>by rw [h] at q;exact fg q
      have ht0:∀ {P:Prop},¬ (wd="turn"/\P):=fun h=>hw h.1
      refine iteFf (decide_eq_false hw) (iteFf rfl ?_)
      by_cases hs:wd="swap"
      . refine iteTt (decide_eq_true hs) ⟨tup2,rfl,rfl,?_⟩
        by_cases k12:k=1\/k=2
        . refine iteTt (by rcases k12 with h | h;all_goals (subst h;decide +kernel)) ?_
          by_cases h0:0<=i
          . refine iteTt (decide_eq_true h0) ?_
            by_cases hl:i < (ps.length:Int) - 1
            . refine iteTt (decide_eq_true hl) ?_
              obtain ⟨j,rfl⟩:=Int.eq_ofNat_of_zero_le h0
              have hj1:j + 1 < ps.length:=by lia
              obtain ⟨x,hx⟩:∃ x,ps[j]? = some x:=⟨_,List.getElem?_eq_getElem (by lia)⟩
              obtain ⟨y,hy⟩:∃ y,ps[j + 1]? = some y:=⟨_,List.getElem?_eq_getElem hj1⟩
              have hxU:(ps.map Wr.toU)[j]? = some x.toU:=by rw [List.getElem?_map,hx];rfl
              have hyU:(ps.map Wr.toU)[j + 1]? = some y.toU:=by rw [List.getElem?_map,hy];rfl
              walk_at "qg"
              rw [cutTo (by rw [List.length_map];lia),show (j:Int) + 2=((j + 2:Nat):Int) from rfl,cutFrom (by rw [List.length_map];lia)]
              refine ⟨_,atI_nat (j:=j + 1) hyU,_,atI_nat hxU,tup2,line1000 (by simp;lia),line1000 (by simp;lia),tup2,fg ?_⟩
              have es:swAt ps j=ps.take j++[y,x]++ps.drop (j + 2):=by
                have e1:(ps.drop (j + 1)).take 1=[y]:=by rw [List.take_one,List.head?_drop,hy];rfl
                have e2:(ps.drop j).take 1=[x]:=by rw [List.take_one,List.head?_drop,hx];rfl
                unfold swAt;rw [e1,e2];simp
              have e:topAct (.many k ps) wd (j:Nat)=some (.many k (swAt ps j)):=top_swap ht0 ⟨hs,k12,h0,hl⟩
              rw [e,optU,Wr.toU_many,es] at q
              simpa using q
            . exact iteFf (decide_eq_false hl) (none_ (top_none ht0 (fun h=>hl h.2.2.2)))
          . exact iteFf (decide_eq_false h0) (iteFf rfl (none_ (top_none ht0 (fun h=>h0 h.2.2.1))))
        . refine iteFf (by obtain h | h:k=0\/k=3:=(by lia);all_goals (subst h;decide +kernel)) (iteFf rfl (none_ (top_none ht0 (fun h=>k12 h.2.1))))
      . exact iteFf (decide_eq_false hs) (iteFf rfl (none_ (top_none ht0 (fun h=>hs h.1))))
  . obtain ⟨rest,e⟩:∃ rest,w.toU=.tup (.str w.name::rest):=by
      rcases w.kinds with ⟨c,rfl⟩ | ⟨k,ps,rfl⟩ | hf
      . exact ⟨_,rfl⟩
      . exact absurd rfl (hn k ps)
      . exact ⟨_,Wr.toU_few hf⟩
    have hno:topAct w wd i=none:=by
      cases w with
      | many k ps=>exact absurd rfl (hn k ps)
      | _=>rfl
    rw [hno] at q
    obtain ⟨b1,b2⟩:=nm_bcr hn
    rw [e]
    walk_at "qd"
    by_cases hw:wd="turn"
    . have hw2:wd≠"swap":=by rw [hw];decide
      exact iteTt (decide_eq_true hw) (iteFf b2 (iteFf rfl (iteFf (decide_eq_false hw2) (iteFf rfl (fg q)))))
    . refine iteFf (decide_eq_false hw) (iteFf rfl ?_)
      by_cases hs:wd="swap"
      . exact iteTt (decide_eq_true hs) ⟨tup2,rfl,rfl,iteFf b1 (iteFf rfl (fg q))⟩
      . exact iteFf (decide_eq_false hs) (iteFf rfl (fg q))
theorem ok_done : ∀ n:Nat,FnOk P w K mg base CX0 (n + 4) f_w_done d_w_done ["_law_figure","_law_word","_law_path","_law_at"] (spOf K (asp_done n)):=by
  intro n
  induction n with
  | zero=>exact none_yet T.F_w_done sc_w_done fun us A Q hq0=>by obtain ⟨w,_,_,_,_,_,_,hd,_⟩:=hq0;lia
  | succ n ih =>
    have G_w_done:=ih
    have G_w_parts:=ok_lparts (P:=P) (w:=w) (base:=base) T
    have G_w_with:=ok_with (P:=P) (w:=w) (base:=base) T
    have G_w_at_top:=ok_top (P:=P) (w:=w) (base:=base) T
    refine' Fun.okA T.F_w_done (sc:=?sc5) (body:=?bd5) ?hs5 ?hb5 sc_w_done ?hB5 ?hS5
    case hs5=>conv=>lhs;whnf
    case hb5=>conv=>lhs;whnf
    case hB5=>exact fun S cdv A outer s H E hr=>⟨_,(pss_cons (ps_if (pt_cmpR (o_eqD hr) (pe_callB c_len (by rfl) T.n_len (by decide +kernel) (pa_cons (pv 2) pa_nil)) pe_int (nomark _)) (pss_one (ps_ret (pe_call (G_w_at_top.mono (by first | decide | lia)) hr (by rfl) T.M_w_at_top T.F_w_at_top.kp T.B_w_at_top .nil pass0 (pa_cons (pv 0) (pa_cons (pv 1) (pa_cons (pv 3) pa_nil)))))) pss_nil)
      (pss_cons (ps_set (i:=4) S.nd rfl (Or.inl rfl) (pe_call (G_w_parts.mono (by first | decide | lia)) hr (by rfl) T.M_w_parts T.F_w_parts.kp T.B_w_parts .nil pass0 (pa_cons (pv 0) pa_nil)))
      (pss_cons (ps_if ((pw_or (pt_cmpR o_lt (pe_ix o_ix (pv 2) pe_int (fun _ _=>rfl)) pe_int (nomark _)) (pw_or1 (pt_cmpR o_ge (pe_ix o_ix (pv 2) pe_int (fun _ _=>rfl)) (pe_callB c_len (by rfl) T.n_len (by decide +kernel) (pa_cons (pv 4) pa_nil)) (nomark _))))).pt (pss_one (ps_ret pe_non)) pss_nil)
      (pss_cons (ps_set (i:=5) S.nd rfl (Or.inl rfl) (pe_call (G_w_done.mono (by first | decide | lia)) hr (by rfl) T.M_w_done T.F_w_done.kp T.B_w_done .nil pass0 (pa_cons (pe_ix o_ix (pv 4) (pe_ix o_ix (pv 2) pe_int (fun _ _=>rfl)) (fun _ _=>rfl)) (pa_cons (pv 1) (pa_cons (pe_slice o_slW (pv 2) (po_some pe_int) po_none) (pa_cons (pv 3) pa_nil))))))
      (pss_cons (ps_if (pt_cmpR op_isN (pv 5) pe_non (nomark _)) (pss_one (ps_ret pe_non)) pss_nil)
      (pss_one (ps_ret (pe_call (G_w_with.mono (by first | decide | lia)) hr (by rfl) T.M_w_with T.F_w_with.kp T.B_w_with .nil pass0 (pa_cons (pv 0) (pa_cons (pe_op o_addW (pe_op o_addW (pe_slice o_slW (pv 4) po_none (po_some (pe_ix o_ix (pv 2) pe_int (fun _ _=>rfl)))) (pe_tup (pa_cons (pv 5) pa_nil))) (pe_slice o_slW (pv 4) (po_some (pe_op o_addW (pe_ix o_ix (pv 2) pe_int (fun _ _=>rfl)) pe_int)) po_none)) pa_nil)))))))))),(ab_seq (ab_ifs (ab_test (ab_op ab_eq (ab_cb ab_len (ab_cons ab_var ab_nil)) ab_int)) (ab_ret (ab_call (ab_cons ab_var (ab_cons ab_var (ab_cons ab_var ab_nil))))) ab_next)
      (ab_seq (ab_asg (ab_call (ab_cons ab_var ab_nil)) ab_name)
      (ab_seq (ab_ifs (ab_or (ab_test (ab_op ab_lt (ab_op ab_ix ab_var ab_int) ab_int)) (ab_test (ab_op ab_ge (ab_op ab_ix ab_var ab_int) (ab_cb ab_len (ab_cons ab_var ab_nil))))) (ab_ret ab_non) ab_next)
      (ab_seq (ab_asg (ab_call (ab_cons (ab_op ab_ix ab_var (ab_op ab_ix ab_var ab_int)) (ab_cons ab_var (ab_cons (ab_sl ab_xsl ab_var (ab_part ab_int) ab_nopart) (ab_cons ab_var ab_nil))))) ab_name)
      (ab_seq (ab_ifs (ab_test (ab_op ab_isN ab_var ab_non)) (ab_ret ab_non) ab_next)
      (ab_ret (ab_call (ab_cons ab_var (ab_cons (ab_op ab_add (ab_op ab_add (ab_sl ab_xsl ab_var ab_nopart (ab_part (ab_op ab_ix ab_var ab_int))) (ab_tup (ab_cons ab_var ab_nil))) (ab_sl ab_xsl ab_var (ab_part (ab_op ab_add (ab_op ab_ix ab_var ab_int) ab_int)) ab_nopart)) ab_nil)))))))))⟩
    rintro us A Q ⟨w,wd,p,i,rfl,hg,ht,hn,q⟩
    refine ⟨rfl,?_⟩
    walk_at "qs"
    walk_at "qd"
    rw [List.length_map]
    cases p with
    | nil=>exact iteTt rfl ⟨w,wd,i,rfl,hg,fg q⟩
    | cons k p =>
      refine iteFf (decide_eq_false (by simp only [List.length_cons];lia)) ⟨w,rfl,?_⟩
      rw [List.map_cons]
      have hno:w.prt k=none->Q .non A:=fun h=>by
        have e:w.act wd i (k::p)=none:=by show (match w.prt k with | some v=>(v.act wd i p).map (w.setP k) | none=>none)=_;rw [h]
        rw [e] at q;exact q
      walk_at "qd"
      by_cases h0:k < 0
      . refine iteTt (decide_eq_true h0) ?_
        walk_at "qd"
        exact fg (hno (by unfold Wr.prt;rw [if_neg (by lia)]))
      . refine iteFf (decide_eq_false h0) ?_
        rw [List.length_map]
        by_cases hl:(w.parts.length:Int)<=k
        . exact iteTt (decide_eq_true hl) (fg (hno (by unfold Wr.prt;rw [if_neg (by lia)])))
        . refine iteFf (decide_eq_false hl) ?_
          obtain ⟨j,rfl⟩:=Int.eq_ofNat_of_zero_le (show 0<=k by lia)
          have hj:j < w.parts.length:=by lia
          obtain ⟨v,hv⟩:∃ v,w.parts[j]? = some v:=⟨_,List.getElem?_eq_getElem hj⟩
          have hvU:(w.parts.map Wr.toU)[j]? = some v.toU:=by rw [List.getElem?_map,hv];rfl
          have hvm:=List.mem_of_getElem? hv
          have hpt:=w.parts_tups
          have hvt:=tupsL_mem hvm
          have hpl:=len_tups w.parts
          have hwb:∀ c,w≠.bead c:=fun c h=>by subst h;simp [Wr.parts] at hj
          have e:w.act wd i ((j:Int)::p)=(v.act wd i p).map (w.setP j):=by show (match w.prt j with | some v=>(v.act wd i p).map (w.setP j) | none=>none)=_;rw [prt_nat hv]
          rw [e] at q
          walk_at "qg"
          refine ⟨_,atI_nat hvU,v,wd,p,i,rfl,gdL_mem (w.gd_parts hg).1 hvm,by lia,by simp only [List.length_cons] at hn;lia,?_⟩
          cases hr:v.act wd i p with
          | none =>
            rw [hr] at q
            exact iteTt rfl (fg q)
          | some x =>
            rw [hr] at q
            obtain ⟨xs,ex⟩:=x.toU_tup
            simp only [optU]
            refine iteFf (by rw [ex];rfl) ?_
            walk_at "qg"
            rw [cutTo (by rw [List.length_map];lia),show (j:Int) + 1=((j + 1:Nat):Int) from rfl,cutFrom (by rw [List.length_map];lia)]
            refine ⟨tup1,line1000 (by simp;lia),line1000 (by simp;lia),w,_,_,rfl,.inl rfl,by simp;lia,hwb,fg ?_⟩
            have es:(w.setP j x).toU=w.wthU ((w.parts.map Wr.toU).take j++[x.toU]++(w.parts.map Wr.toU).drop (j + 1)):=by
              unfold Wr.setP
              rw [wth_toU hwb (by rw [List.length_set])]
              congr 1
              rw [Int.toNat_natCast,List.set_eq_take_append_cons_drop,if_pos hj,List.map_append,List.map_cons,List.map_take,List.map_drop]
              simp
            rw [<- es]
            exact q
end
noncomputable def asp_made:ASp:=fun us A Q=>∃ (w:Wr) (x:U) (ps:List U),us=[.str w.name,x]/\(x=.tup ps\/∃ l,x=.ref l/\A l=some (.lst ps))/\ps.length<=1000/\(∀ c,w≠.bead c)/\Q (w.wthU ps) A
noncomputable def asp_at:ASp:=fun us A Q=>∃ (w:Wr) (p:List Int),us=[w.toU,.tup (p.map U.int)]/\Q (optU (w.at p)) A
noncomputable def asp_sw:ASp:=fun us A Q=>∃ (w:Wr) (i:Int),us=[w.toU,.int i]/\w.gd=true/\Q (optU (topAct w "swap" i)) A
noncomputable def asp_tn:ASp:=fun us A Q=>∃ (w:Wr) (i:Int),us=[w.toU,.int i]/\w.gd=true/\Q (optU (topAct w "turn" i)) A
noncomputable def asp_putat:ASp:=fun us A Q=>∃ (w v x:Wr) (p:List Int),us=[w.toU,.tup (p.map U.int),x.toU]/\w.gd=true/\w.at p=some v/\p.length<=200/\Q (w.put p x).toU A
noncomputable def asp_after:ASp:=fun us A Q=>∃ (w:Wr) (s:Stq),us=[w.toU,s.toU]/\w.gd=true/\w.tups<=96/\s.p.length<=200/\Q (optU (w.act s.wd s.i s.p)) A
section
include T
theorem ok_made:FnOk P w K mg base CX0 1 f_made_of d_made_of ["kind","parts"] (spOf K asp_made):=by
  refine' Fun.okA T.F_made_of (sc:=?sc6) (body:=?bd6) ?hs6 ?hb6 sc_made_of ?hB6 ?hS6
  case hs6=>conv=>lhs;whnf
  case hb6=>conv=>lhs;whnf
  case hB6=>exact fun S cdv A outer s H E hr=>⟨_,(pss_cons (ps_if (pt_cmpR o_in (pv 0) (pe_gv (by rfl) T.c_MANY) (by with_unfolding_all rfl)) (pss_one (ps_ret (pe_tup (pa_cons (pv 0) (pa_cons (pe_callTy c_tuple (by rfl) T.n_tuple (by decide +kernel) (pa_cons (pv 1) pa_nil)) pa_nil))))) pss_nil)
      (pss_one (ps_ret (pe_op o_addW (pe_tup (pa_cons (pv 0) pa_nil)) (pe_callTy c_tuple (by rfl) T.n_tuple (by decide +kernel) (pa_cons (pv 1) pa_nil)))))),(ab_seq (ab_ifs (ab_test (ab_op ab_in ab_var (ab_c fun H=>.tup (T.q_MANY H) (.cons (.str _) (.cons (.str _) (.cons (.str _) (.cons (.str _) .nil))))))) (ab_ret (ab_tup (ab_cons ab_var (ab_cons (ab_cb ab_tupof (ab_cons ab_var ab_nil)) ab_nil)))) ab_next)
      (ab_ret (ab_op ab_add (ab_tup (ab_cons ab_var ab_nil)) (ab_cb ab_tupof (ab_cons ab_var ab_nil)))))⟩
  rintro us A Q ⟨w,x,ps,rfl,hx,hn,hb,q⟩
  refine ⟨rfl,?_⟩
  walk_at "qs"
  have hT:∀ R:AVK,R (.tup ps) A->xTupOf [x] A R:=fun R h=>by
    rcases hx with rfl | ⟨l,rfl,hl⟩
    . exact h
    . exact ⟨ps,hl,h⟩
  walk_at "qd"
  rcases w.kinds with ⟨c,rfl⟩ | ⟨k,qs,rfl⟩ | hf
  . exact absurd rfl (hb c)
  . refine ⟨rfl,rfl,iteTt (in_manyU k) ?_⟩
    exact hT _ ⟨tup2,fg q⟩
  . refine ⟨rfl,rfl,iteFf (nin_manyU hf.2) ⟨tup1,hT _ ?_⟩⟩
    rw [wthU_few hf] at q
    exact ⟨line1000 (by simp only [List.length_cons,List.length_nil];lia),fg q⟩
theorem ok_at:FnOk P w K mg base CX0 3 f_part_at d_part_at ["writing","path"] (spOf K asp_at):=by
  have G_parts_of:=ok_parts_of (P:=P) (w:=w) (base:=base) T
  refine' Fun.okA T.F_part_at (sc:=?sc7) (body:=?bd7) ?hs7 ?hb7 sc_part_at ?hB7 ?hS7
  case hs7=>conv=>lhs;whnf
  case hb7=>conv=>lhs;whnf
  case hB7=>exact fun S cdv A outer s H E hr=>⟨_,(pss_cons (ps_set (i:=2) S.nd rfl (Or.inl rfl) (pv 0))
      (pss_cons (ps_for PassesOwn.never rfl (pj_seq (pv 1)) (pg_name (i:=3) S.nd rfl (Or.inl rfl))
      (pss_cons (ps_set (i:=4) S.nd rfl (Or.inl rfl) (pe_call (G_parts_of.mono (by first | decide | lia)) hr (by rfl) T.M_parts_of T.F_parts_of.kp T.B_parts_of .nil pass0 (pa_cons (pv 2) pa_nil)))
      (pss_cons (ps_if ((pw_or (pt_cmpR o_lt (pv 3) pe_int (nomark _)) (pw_or1 (pt_cmpR o_ge (pv 3) (pe_callB c_len (by rfl) T.n_len (by decide +kernel) (pa_cons (pv 4) pa_nil)) (nomark _))))).pt (pss_one (ps_ret pe_non)) pss_nil)
      (pss_one (ps_set (i:=2) S.nd rfl (Or.inl rfl) (pe_ix o_ix (pv 4) (pv 3) (fun _ _=>rfl)))))))
      (pss_one (ps_ret (pv 2))))),(ab_seq (ab_asg ab_var ab_name)
      (ab_seq (ab_for (ab_jof ab_yseq ab_var) ab_name
      (ab_seq (ab_asg (ab_call (ab_cons ab_var ab_nil)) ab_name)
      (ab_seq (ab_ifs (ab_or (ab_test (ab_op ab_lt ab_var ab_int)) (ab_test (ab_op ab_ge ab_var (ab_cb ab_len (ab_cons ab_var ab_nil))))) (ab_ret ab_non) ab_next)
      (ab_asg (ab_op ab_ix ab_var ab_var) ab_name))))
      (ab_ret ab_var)))⟩
  rintro us A Q ⟨w,p,rfl,q⟩
  refine ⟨rfl,?_⟩
  walk_at "qs"
  walk_at "qd"
  refine for_fix (fun k ρ A2=>A2=A/\∃ v r3 r4,ρ=[some w.toU,some (.tup (p.map U.int)),some v.toU,r3,r4]/\w.at (p.take k)=some v) ⟨rfl,w,none,none,rfl,rfl⟩ (fun k u ρ A2 hu h=>?_) (fun ρ A2 h=>?_)
  . obtain ⟨rfl,v,r3,r4,rfl,hv⟩:=h
    obtain ⟨m,hm,rfl⟩:=map_get hu
    obtain ⟨c1,c2⟩:=at_cut hv hm
    walk_at "qd"
    refine ⟨v,rfl,?_⟩
    walk_at "qd"
    have hno:v.prt m=none->Fg Q .non A2:=fun h=>by rw [c2 h] at q;exact fg q
    by_cases h0:m < 0
    . exact iteTt (decide_eq_true h0) (hno (by unfold Wr.prt;rw [if_neg (by lia)]))
    . refine iteFf (decide_eq_false h0) ?_
      rw [List.length_map]
      by_cases hl:(v.parts.length:Int)<=m
      . exact iteTt (decide_eq_true hl) (hno (by unfold Wr.prt;rw [if_neg (by lia)]))
      . refine iteFf (decide_eq_false hl) ?_
        obtain ⟨j,rfl⟩:=Int.eq_ofNat_of_zero_le (show 0<=m by lia)
        obtain ⟨x,hx⟩:∃ x,v.parts[j]? = some x:=⟨_,List.getElem?_eq_getElem (by lia)⟩
        walk_at "qg"
        refine ⟨_,atI_nat (by rw [List.getElem?_map,hx];rfl),?_⟩
        exact ⟨trivial,x,_,_,rfl,by rw [c1];exact prt_nat hx⟩
  . obtain ⟨rfl,v,r3,r4,rfl,hv⟩:=h
    rw [List.length_map,List.take_length] at hv
    rw [hv] at q
    walk_at "qd"
    exact fg q
theorem ok_sw : FnOk P w K mg base CX0 3 f_swapped d_swapped ["part","i"] (spOf K asp_sw):=by
  have G_parts_of:=ok_parts_of (P:=P) (w:=w) (base:=base) T
  have G_made_of:=ok_made (P:=P) (w:=w) (base:=base) T
  refine' Fun.okA T.F_swapped (sc:=?sc8) (body:=?bd8) ?hs8 ?hb8 sc_swapped ?hB8 ?hS8
  case hs8=>conv=>lhs;whnf
  case hb8=>conv=>lhs;whnf
  case hB8=>exact fun S cdv A outer s H E hr=>⟨_,(pss_cons (ps_set (i:=2) S.nd rfl (Or.inl rfl) (pe_call (G_parts_of.mono (by first | decide | lia)) hr (by rfl) T.M_parts_of T.F_parts_of.kp T.B_parts_of .nil pass0 (pa_cons (pv 0) pa_nil)))
      (pss_cons (ps_if ((pw_or (pt_cmpR o_nin (pe_ix o_ix (pv 0) pe_int (fun _ _=>rfl)) (pe_tup (pa_cons pe_str (pa_cons pe_str pa_nil))) (by with_unfolding_all rfl)) (pw_or (pt_cmpR o_lt (pv 1) pe_int (nomark _)) (pw_or1 (pt_cmpR o_gt (pv 1) (pe_op o_sub (pe_callB c_len (by rfl) T.n_len (by decide +kernel) (pa_cons (pv 2) pa_nil)) pe_int) (nomark _)))))).pt (pss_one (ps_ret pe_non)) pss_nil)
      (pss_one (ps_ret (pe_call (G_made_of.mono (by first | decide | lia)) hr (by rfl) T.M_made_of T.F_made_of.kp T.B_made_of .nil pass0 (pa_cons (pe_ix o_ix (pv 0) pe_int (fun _ _=>rfl)) (pa_cons (pe_op o_addW (pe_op o_addW (pe_slice o_slW (pv 2) po_none (po_some (pv 1))) (pe_tup (pa_cons (pe_ix o_ix (pv 2) (pe_op o_addW (pv 1) pe_int) (fun _ _=>rfl)) (pa_cons (pe_ix o_ix (pv 2) (pv 1) (fun _ _=>rfl)) pa_nil)))) (pe_slice o_slW (pv 2) (po_some (pe_op o_addW (pv 1) pe_int)) po_none)) pa_nil))))))),(ab_seq (ab_asg (ab_call (ab_cons ab_var ab_nil)) ab_name)
      (ab_seq (ab_ifs (ab_or (ab_test (ab_op ab_nin (ab_op ab_ix ab_var ab_int) (ab_tup (ab_cons ab_str (ab_cons ab_str ab_nil))))) (ab_or (ab_test (ab_op ab_lt ab_var ab_int)) (ab_test (ab_op ab_gt ab_var (ab_op ab_sub (ab_cb ab_len (ab_cons ab_var ab_nil)) ab_int))))) (ab_ret ab_non) ab_next)
      (ab_ret (ab_call (ab_cons (ab_op ab_ix ab_var ab_int) (ab_cons (ab_op ab_add (ab_op ab_add (ab_sl ab_xsl ab_var ab_nopart (ab_part ab_var)) (ab_tup (ab_cons (ab_op ab_ix ab_var (ab_op ab_add ab_var ab_int)) (ab_cons (ab_op ab_ix ab_var ab_var) ab_nil)))) (ab_sl ab_xsl ab_var (ab_part (ab_op ab_add ab_var ab_int)) ab_nopart)) ab_nil))))))⟩
  rintro us A Q ⟨w,i,rfl,hg,q⟩
  refine ⟨rfl,?_⟩
  walk_at "qs"
  walk_at "qd"
  refine ⟨w,rfl,?_⟩
  have none_:topAct w "swap" i=none->Fg Q .non A:=fun h=>by rw [h] at q;exact fg q
  have nt:∀ {P:Prop},¬ (("swap":Str)="turn"/\P):=fun h=>absurd h.1 (by decide)
  rcases many_or w with ⟨k,ps,rfl⟩ | hn
  . have hk3 : k<=3/\ps.length < 64:=by simp only [Wr.gd,Bool.and_eq_true,decide_eq_true_eq] at hg;exact hg.1
    rw [Wr.toU_many]
    simp only [Wr.parts]
    walk_at "qd"
    refine ⟨tup2,rfl,rfl,?_⟩
    by_cases k12:k=1\/k=2
    . refine iteFf (by rcases k12 with h | h;all_goals (subst h;decide +kernel)) ?_
      by_cases h0:i < 0
      . exact iteTt (decide_eq_true h0) (none_ (top_none nt (fun h=>by lia)))
      . refine iteFf (decide_eq_false h0) ?_
        rw [List.length_map]
        by_cases hl:(ps.length:Int) - 2 < i
        . exact iteTt (decide_eq_true hl) (none_ (top_none nt (fun h=>by lia)))
        . refine iteFf (decide_eq_false hl) ?_
          obtain ⟨j,rfl⟩:=Int.eq_ofNat_of_zero_le (show 0<=i by lia)
          have hj1:j + 1 < ps.length:=by lia
          obtain ⟨x,hx⟩:∃ x,ps[j]? = some x:=⟨_,List.getElem?_eq_getElem (by lia)⟩
          obtain ⟨y,hy⟩:∃ y,ps[j + 1]? = some y:=⟨_,List.getElem?_eq_getElem hj1⟩
          have hxU:(ps.map Wr.toU)[j]? = some x.toU:=by rw [List.getElem?_map,hx];rfl
          have hyU:(ps.map Wr.toU)[j + 1]? = some y.toU:=by rw [List.getElem?_map,hy];rfl
          walk_at "qg"
          rw [cutTo (by rw [List.length_map];lia),show (j:Int) + 2=((j + 2:Nat):Int) from rfl,cutFrom (by rw [List.length_map];lia)]
          refine ⟨_,atI_nat (j:=j + 1) hyU,_,atI_nat hxU,tup2,line1000 (by simp;lia),line1000 (by simp;lia),.many k ps,_,_,rfl,.inl rfl,by simp;lia,(fun c h=>by cases h),fg ?_⟩
          have es:swAt ps j=ps.take j++[y,x]++ps.drop (j + 2):=by
            have e1:(ps.drop (j + 1)).take 1=[y]:=by rw [List.take_one,List.head?_drop,hy];rfl
            have e2:(ps.drop j).take 1=[x]:=by rw [List.take_one,List.head?_drop,hx];rfl
            unfold swAt;rw [e1,e2];simp
          have e:topAct (.many k ps) "swap" (j:Nat)=some (.many k (swAt ps j)):=top_swap nt ⟨rfl,k12,by lia,by lia⟩
          rw [e,optU,Wr.toU_many,es] at q
          simpa [Wr.wthU] using q
    . exact iteTt (by obtain h | h:k=0\/k=3:=(by lia);all_goals (subst h;decide +kernel)) (none_ (top_none nt (fun h=>k12 h.2.1)))
  . obtain ⟨rest,e⟩:=w.toU_hd
    have hno:topAct w "swap" i=none:=by
      cases w with
      | many k ps=>exact absurd rfl (hn k ps)
      | _=>rfl
    obtain ⟨b1,b2⟩:=nm_bcr hn
    rw [e]
    walk_at "qd"
    exact ⟨tup2,rfl,rfl,iteTt (by rw [b1];rfl) (none_ hno)⟩
theorem ok_tn:FnOk P w K mg base CX0 3 f_turned d_turned ["part","i"] (spOf K asp_tn):=by
  have G_parts_of:=ok_parts_of (P:=P) (w:=w) (base:=base) T
  have G_made_of:=ok_made (P:=P) (w:=w) (base:=base) T
  refine' Fun.okA T.F_turned (sc:=?sc9) (body:=?bd9) ?hs9 ?hb9 sc_turned ?hB9 ?hS9
  case hs9=>conv=>lhs;whnf
  case hb9=>conv=>lhs;whnf
  case hB9=>exact fun S cdv A outer s H E hr=>⟨_,(pss_cons (ps_set (i:=2) S.nd rfl (Or.inl rfl) (pe_call (G_parts_of.mono (by first | decide | lia)) hr (by rfl) T.M_parts_of T.F_parts_of.kp T.B_parts_of .nil pass0 (pa_cons (pv 0) pa_nil)))
      (pss_cons (ps_if ((pw_or (pt_cmpR (o_neD hr) (pe_ix o_ix (pv 0) pe_int (fun _ _=>rfl)) pe_str (nomark _)) (pw_or (pt_cmpR o_lt (pv 1) pe_int (nomark _)) (pw_or1 (pt_cmpR o_gt (pv 1) (pe_op o_sub (pe_callB c_len (by rfl) T.n_len (by decide +kernel) (pa_cons (pv 2) pa_nil)) pe_int) (nomark _)))))).pt (pss_one (ps_ret pe_non)) pss_nil)
      (pss_one (ps_ret (pe_call (G_made_of.mono (by first | decide | lia)) hr (by rfl) T.M_made_of T.F_made_of.kp T.B_made_of .nil pass0 (pa_cons pe_str (pa_cons (pe_op o_addW (pe_slice o_slW (pv 2) (po_some (pv 1)) po_none) (pe_slice o_slW (pv 2) po_none (po_some (pv 1)))) pa_nil))))))),(ab_seq (ab_asg (ab_call (ab_cons ab_var ab_nil)) ab_name)
      (ab_seq (ab_ifs (ab_or (ab_test (ab_op ab_ne (ab_op ab_ix ab_var ab_int) ab_str)) (ab_or (ab_test (ab_op ab_lt ab_var ab_int)) (ab_test (ab_op ab_gt ab_var (ab_op ab_sub (ab_cb ab_len (ab_cons ab_var ab_nil)) ab_int))))) (ab_ret ab_non) ab_next)
      (ab_ret (ab_call (ab_cons ab_str (ab_cons (ab_op ab_add (ab_sl ab_xsl ab_var (ab_part ab_var) ab_nopart) (ab_sl ab_xsl ab_var ab_nopart (ab_part ab_var))) ab_nil))))))⟩
  rintro us A Q ⟨w,i,rfl,hg,q⟩
  refine ⟨rfl,?_⟩
  walk_at "qs"
  walk_at "qd"
  refine ⟨w,rfl,?_⟩
  have none_:topAct w "turn" i=none->Fg Q .non A:=fun h=>by rw [h] at q;exact fg q
  have nt:∀ {P:Prop},¬ (("turn":Str)="swap"/\P):=fun h=>absurd h.1 (by decide)
  rcases many_or w with ⟨k,ps,rfl⟩ | hn
  . have hk3:k<=3/\ps.length < 64:=by simp only [Wr.gd,Bool.and_eq_true,decide_eq_true_eq] at hg;exact hg.1
    rw [Wr.toU_many]
    simp only [Wr.parts]
    walk_at "qd"
    by_cases k3:k=3
    . refine iteFf (by subst k3;decide +kernel) ?_
      by_cases h0:i < 0
      . exact iteTt (decide_eq_true h0) (none_ (top_none (fun h=>by lia) nt))
      . refine iteFf (decide_eq_false h0) ?_
        rw [List.length_map]
        by_cases hl:(ps.length:Int) - 1 < i
        . exact iteTt (decide_eq_true hl) (none_ (top_none (fun h=>by lia) nt))
        . refine iteFf (decide_eq_false hl) ?_
          obtain ⟨j,rfl⟩:=Int.eq_ofNat_of_zero_le (show 0<=i by lia)
          walk_at "qg"
          rw [cutTo (by rw [List.length_map];lia),cutFrom (by rw [List.length_map];lia)]
          refine ⟨line1000 (by simp;lia),.many k ps,_,_,by subst k3;rfl,.inl rfl,by simp;lia,(fun c h=>by cases h),fg ?_⟩
          have e:topAct (.many k ps) "turn" (j:Nat)=some (.many k (turnL ps j)):=if_pos ⟨rfl,k3,by lia,by lia⟩
          rw [e,optU,Wr.toU_many,turnL,List.map_append,List.map_drop,List.map_take] at q
          exact q
    . exact iteTt (by obtain h | h | h:k=0\/k=1\/k=2:=(by lia);all_goals (subst h;decide +kernel)) (none_ (top_none (fun h=>k3 h.2.1) nt))
  . obtain ⟨rest,e⟩:=w.toU_hd
    have hno:topAct w "turn" i=none:=by
      cases w with
      | many k ps=>exact absurd rfl (hn k ps)
      | _=>rfl
    obtain ⟨b1,b2⟩:=nm_bcr hn
    rw [e]
    walk_at "qd"
    exact iteTt (by rw [b2];rfl) (none_ hno)
theorem ok_putat:FnOk P w K mg base CX0 3 f_put_at d_put_at ["writing","path","part"] (spOf K asp_putat):=by
  have G_parts_of:=ok_parts_of (P:=P) (w:=w) (base:=base) T
  have G_made_of:=ok_made (P:=P) (w:=w) (base:=base) T
  refine' Fun.okA T.F_put_at (sc:=?sc10) (body:=?bd10) ?hs10 ?hb10 sc_put_at ?hB10 ?hS10
  case hs10=>conv=>lhs;whnf
  case hb10=>conv=>lhs;whnf
  case hB10=>exact fun S cdv A outer s H E hr=>⟨_,(pss_cons (ps_set (i:=3) S.nd rfl (Or.inl rfl) (pe_lst pa_nil))
      (pss_cons (ps_set (i:=4) S.nd rfl (Or.inl rfl) (pv 0))
      (pss_cons (ps_for PassesOwn.never rfl (pj_seq (pv 1)) (pg_name (i:=5) S.nd rfl (Or.inl rfl))
      (pss_cons (ps_expr (pe_bm PySem.F.plainAttrs_list PySem.F.slot_list_append PySem.F.type_list_append mt_append (pv 3) (pa_cons (pe_tup (pa_cons (pv 4) (pa_cons (pv 5) pa_nil))) pa_nil)))
      (pss_one (ps_set (i:=4) S.nd rfl (Or.inl rfl) (pe_ix o_ix (pe_call (G_parts_of.mono (by first | decide | lia)) hr (by rfl) T.M_parts_of T.F_parts_of.kp T.B_parts_of .nil pass0 (pa_cons (pv 4) pa_nil)) (pv 5) (fun _ _=>rfl))))))
      (pss_cons (ps_for PassesOwn.never rfl (pj_rev rfl (by rfl) T.n_reversed (pv 3)) (pg_tup (n:=2) rfl (pgs_cons (pg_name (i:=4) S.nd rfl (Or.inl rfl)) (pgs_cons (pg_name (i:=5) S.nd rfl (Or.inl rfl)) pgs_nil)))
      (pss_cons (ps_set (i:=6) S.nd rfl (Or.inl rfl) (pe_callTy c_list (by rfl) T.n_list (by decide +kernel) (pa_cons (pe_call (G_parts_of.mono (by first | decide | lia)) hr (by rfl) T.M_parts_of T.F_parts_of.kp T.B_parts_of .nil pass0 (pa_cons (pv 4) pa_nil)) pa_nil)))
      (pss_cons (ps_asg (pv 2) (pg_sub (pv 6) (pv 5) set_list))
      (pss_one (ps_set (i:=2) S.nd rfl (Or.inl rfl) (pe_call (G_made_of.mono (by first | decide | lia)) hr (by rfl) T.M_made_of T.F_made_of.kp T.B_made_of .nil pass0 (pa_cons (pe_ix o_ix (pv 4) pe_int (fun _ _=>rfl)) (pa_cons (pv 6) pa_nil))))))))
      (pss_one (ps_ret (pv 2))))))),(ab_seq (ab_asg (ab_lst ab_nil) ab_name)
      (ab_seq (ab_asg ab_var ab_name)
      (ab_seq (ab_for (ab_jof ab_yseq ab_var) ab_name
      (ab_seq (ab_drop (ab_bm ab_isLst ab_mapp ab_var (ab_cons (ab_tup (ab_cons ab_var (ab_cons ab_var ab_nil))) ab_nil)))
      (ab_asg (ab_op ab_ix (ab_call (ab_cons ab_var ab_nil)) ab_var) ab_name)))
      (ab_seq (ab_for (ab_jrev ab_var) (ab_gtup (ab_gcons ab_name (ab_gcons ab_name ab_gnil)))
      (ab_seq (ab_asg (ab_cb ab_listof (ab_cons (ab_call (ab_cons ab_var ab_nil)) ab_nil)) ab_name)
      (ab_seq (ab_asg ab_var (ab_setl ab_var ab_var))
      (ab_asg (ab_call (ab_cons (ab_op ab_ix ab_var ab_int) (ab_cons ab_var ab_nil))) ab_name))))
      (ab_ret ab_var)))))⟩
  rintro us A Q ⟨w,v,x,p,rfl,hg,hat,hp,q⟩
  refine ⟨rfl,?_⟩
  walk_at "qs"
  walk_at "qd"
  refine ⟨by decide,fun l0 hl0=>?_⟩
  refine for_fix (fun k ρ A2=>A2=updA A l0 (.lst (whs w p k))/\∃ u r5 r6,ρ=[some w.toU,some (.tup (p.map U.int)),some x.toU,some (.ref l0),some u.toU,r5,r6]/\w.at (p.take k)=some u) ⟨rfl,w,none,none,rfl,rfl⟩ (fun k y ρ A2 hu h=>?_) (fun ρ A2 h=>?_)
  . obtain ⟨rfl,u,r5,r6,rfl,hv⟩:=h
    obtain ⟨m,hm,rfl⟩:=map_get hu
    obtain ⟨c1,c2⟩:=at_cut hv hm
    have hk:=(List.getElem?_eq_some_iff.mp hm).1
    walk_at "qd"
    refine ⟨⟨_,updA_same⟩,tup2,_,updA_same,line1000' (by rw [whs_len];lia),?_⟩
    rw [updA_updA,whs_succ w p k hv hm]
    refine ⟨u,rfl,?_⟩
    cases e:u.prt m with
    | none=>rw [c2 e] at hat;cases hat
    | some z =>
      obtain ⟨h1,h2,h3⟩:=prt_some e
      obtain ⟨j,rfl⟩:=Int.eq_ofNat_of_zero_le h1
      walk_at "qg"
      refine ⟨_,atI_nat (by rw [List.getElem?_map,show u.parts[j]? = some z from h3];rfl),?_⟩
      exact ⟨trivial,z,_,_,rfl,by rw [c1];exact e⟩
  . obtain ⟨rfl,u,r5,r6,rfl,hv⟩:=h
    rw [List.length_map,List.take_length] at hv
    rw [List.length_map]
    have e0:Ext A (updA A l0 (.lst (whs w p p.length))):=Ext.new hl0
    have a0:(updA A l0 (.lst (whs w p p.length))) l0=some (.lst (whs w p p.length)):=updA_same
    generalize updA A l0 (.lst (whs w p p.length))=A1 at e0 a0 ⊢
    walk_at "qd"
    refine ⟨_,_,rfl,a0,?_⟩
    refine for_revA (whs w p p.length) (fun j ρ A2=>Ext A1 A2/\∃ u r4 r5 r6,ρ=[some w.toU,some (.tup (p.map U.int)),some (u.put (p.drop (p.length - j)) x).toU,some (.ref l0),r4,r5,r6]/\w.at (p.take (p.length - j))=some u) ⟨Ext.refl _,u,_,_,_,by rw [Nat.sub_zero,List.drop_length];rfl,by rw [Nat.sub_zero,List.take_length];exact hv⟩ (fun j ρ A2 _ h=>h.1 _ _ a0) (fun j y ρ A2 hu h=>?_) (fun ρ A2 h=>?_)
    . obtain ⟨eA,u2,r4,r5,r6,rfl,hv2⟩:=h
      obtain ⟨hj,rfl⟩:=whs_rev hu
      obtain ⟨m,hm⟩:∃ m,p.length=m + 1 + j:=⟨p.length - 1 - j,by lia⟩
      rw [show p.length - j=m + 1 from by lia] at hv2 ⊢
      rw [show p.length - 1 - j=m from by lia,show p.length - (j + 1)=m from by lia]
      have hpm:p[m]? = some (p.getD m 0):=by rw [List.getD_eq_getElem?_getD,List.getElem?_eq_getElem (show m < p.length by lia)];rfl
      generalize p.getD m 0=n at hpm ⊢
      have et:p.take (m + 1)=p.take m++[n]:=by rw [List.take_succ,hpm];rfl
      cases e1:w.at (p.take m) with
      | none=>rw [et,at_app,e1] at hv2;cases hv2
      | some u' =>
        have e2:u'.prt n=some u2:=by rw [et,at_app,e1] at hv2;rw [<- at_one];exact hv2
        obtain ⟨h1,h2,h3⟩:=prt_some e2
        obtain ⟨hb,es⟩:=setP_toU (x:=u2.put (p.drop (m + 1)) x) e2
        obtain ⟨i,rfl⟩:=Int.eq_ofNat_of_zero_le h1
        have gl:=(u'.gd_parts (at_keeps e1 hg).1).2
        obtain ⟨rest,eh⟩:=u'.toU_hd
        rw [Option.getD_some]
        walk_at "qd"
        refine ⟨rfl,u',rfl,?_⟩
        walk_at "qd"
        intro l1 hl1
        refine ⟨l1,_,_,i,rfl,rfl,updA_same,by rw [List.length_map];unfold ixN;rw [if_pos (by lia),if_pos (by lia)];rfl,?_⟩
        rw [updA_updA,eh]
        walk_at "qd"
        refine ⟨u',_,_,rfl,.inr ⟨l1,rfl,updA_same⟩,by rw [List.length_set,List.length_map];lia,hb,?_⟩
        have es':u'.wthU ((u'.parts.map Wr.toU).set i (u2.put (p.drop (m + 1)) x).toU)=(u'.put (p.drop m) x).toU:=by rw [put_cut e1 hpm e2];exact es.symm
        rw [es']
        exact ⟨eA.trans (Ext.new hl1),u',_,_,_,rfl,rfl⟩
    . obtain ⟨eA,u2,r4,r5,r6,rfl,hv2⟩:=h
      rw [whs_len,Nat.sub_self,List.take_zero] at hv2
      rw [whs_len,Nat.sub_self,List.drop_zero]
      cases hv2
      walk_at "qd"
      exact fgx (e0.trans eA) q
theorem ok_after:FnOk P w K mg base CX0 5 f_after_step d_after_step ["writing","step"] (spOf K asp_after):=by
  have G_part_at:=ok_at (P:=P) (w:=w) (base:=base) T
  have G_swapped:=ok_sw (P:=P) (w:=w) (base:=base) T
  have G_turned:=ok_tn (P:=P) (w:=w) (base:=base) T
  have G_put_at:=ok_putat (P:=P) (w:=w) (base:=base) T
  refine' Fun.okA T.F_after_step (sc:=?sc11) (body:=?bd11) ?hs11 ?hb11 sc_after_step ?hB11 ?hS11
  case hs11=>conv=>lhs;whnf
  case hb11=>conv=>lhs;whnf
  case hB11=>exact fun S cdv A outer s H E hr=>⟨_,(pss_cons (ps_asg (pv 1) (pg_tup (n:=3) rfl (pgs_cons (pg_name (i:=2) S.nd rfl (Or.inl rfl)) (pgs_cons (pg_name (i:=3) S.nd rfl (Or.inl rfl)) (pgs_cons (pg_name (i:=4) S.nd rfl (Or.inl rfl)) pgs_nil)))))
      (pss_cons (ps_set (i:=5) S.nd rfl (Or.inl rfl) (pe_call (G_part_at.mono (by first | decide | lia)) hr (by rfl) T.M_part_at T.F_part_at.kp T.B_part_at .nil pass0 (pa_cons (pv 0) (pa_cons (pv 3) pa_nil))))
      (pss_cons (ps_set (i:=6) S.nd rfl (Or.inl rfl) pe_non)
      (pss_cons (ps_if ((pw_and (pt_cmpR op_notN (pv 5) pe_non (nomark _)) (pw_and1 (pt_cmpR (o_eqD hr) (pv 2) pe_str (nomark _))))).pt (pss_one (ps_set (i:=6) S.nd rfl (Or.inl rfl) (pe_call (G_swapped.mono (by first | decide | lia)) hr (by rfl) T.M_swapped T.F_swapped.kp T.B_swapped .nil pass0 (pa_cons (pv 5) (pa_cons (pv 4) pa_nil))))) pss_nil)
      (pss_cons (ps_if ((pw_and (pt_cmpR op_notN (pv 5) pe_non (nomark _)) (pw_and1 (pt_cmpR (o_eqD hr) (pv 2) pe_str (nomark _))))).pt (pss_one (ps_set (i:=6) S.nd rfl (Or.inl rfl) (pe_call (G_turned.mono (by first | decide | lia)) hr (by rfl) T.M_turned T.F_turned.kp T.B_turned .nil pass0 (pa_cons (pv 5) (pa_cons (pv 4) pa_nil))))) pss_nil)
      (pss_one (ps_ret (pe_ifExp (pt_cmpR op_isN (pv 6) pe_non (nomark _)) pe_non (pe_call (G_put_at.mono (by first | decide | lia)) hr (by rfl) T.M_put_at T.F_put_at.kp T.B_put_at .nil pass0 (pa_cons (pv 0) (pa_cons (pv 3) (pa_cons (pv 6) pa_nil)))))))))))),(ab_seq (ab_asg ab_var (ab_gtup (ab_gcons ab_name (ab_gcons ab_name (ab_gcons ab_name ab_gnil)))))
      (ab_seq (ab_asg (ab_call (ab_cons ab_var (ab_cons ab_var ab_nil))) ab_name)
      (ab_seq (ab_asg ab_non ab_name)
      (ab_seq (ab_ifs (ab_and (ab_test (ab_op ab_notN ab_var ab_non)) (ab_test (ab_op ab_eq ab_var ab_str))) (ab_asg (ab_call (ab_cons ab_var (ab_cons ab_var ab_nil))) ab_name) ab_next)
      (ab_seq (ab_ifs (ab_and (ab_test (ab_op ab_notN ab_var ab_non)) (ab_test (ab_op ab_eq ab_var ab_str))) (ab_asg (ab_call (ab_cons ab_var (ab_cons ab_var ab_nil))) ab_name) ab_next)
      (ab_ret (ab_if (ab_test (ab_op ab_isN ab_var ab_non)) ab_non (ab_call (ab_cons ab_var (ab_cons ab_var (ab_cons ab_var ab_nil)))))))))))⟩
  rintro us A Q ⟨w,⟨wd,p,i⟩,rfl,hg,ht,hs,q⟩
  refine ⟨rfl,?_⟩
  simp only [Stq.toU] at hs q ⊢
  walk_at "qs"
  walk_at "qd"
  refine ⟨rfl,w,p,rfl,?_⟩
  rw [act_at] at q
  cases hat:w.at p with
  | none =>
    rw [hat] at q
    simp only [optU]
    exact iteFf rfl (iteFf rfl (iteFf rfl (iteFf rfl (iteTt rfl (fg q)))))
  | some v =>
    rw [hat] at q
    obtain ⟨g1,g2⟩:=at_keeps hat hg
    obtain ⟨xs,ex⟩:=v.toU_tup
    simp only [optU] at q ⊢
    have nN:(!v.toU.isNon)=true:=by rw [ex];rfl
    have fin:∀ o:Option Wr,o=topAct v wd i->if (optU o).isNon=true then Fg Q .non A else asp_putat [w.toU,.tup (p.map U.int),optU o] A (Fg Q):=fun o e=>by
      rw [<- e] at q
      cases o with
      | none=>exact iteTt rfl (fg q)
      | some z =>
        obtain ⟨zs,ez⟩:=z.toU_tup
        exact iteFf (by simp only [optU];rw [ez];rfl) ⟨w,v,z,p,rfl,hg,hat,hs,fg q⟩
    refine iteTt nN ?_
    by_cases hw:wd="swap"
    . subst hw
      exact iteTt rfl ⟨v,i,rfl,g1,iteTt nN (iteFf rfl (fin _ rfl))⟩
    . refine iteFf (decide_eq_false hw) (iteTt nN ?_)
      by_cases hw2:wd="turn"
      . subst hw2
        exact iteTt rfl ⟨v,i,rfl,g1,fin _ rfl⟩
      . refine iteFf (decide_eq_false hw2) (fin none ?_)
        cases v with
        | many k ps=>exact (top_none (fun h=>hw2 h.1) (fun h=>hw h.1)).symm
        | _=>rfl
end
noncomputable def asp_wt (C:Addr):ASpX:=fun us A Q X=>∃ (w:Wr) (l:Addr) (ss:List Stq),us=[w.toU,.ref l]/\A l=some (.lst (ss.map Stq.toU))/\ss.length<=200/\(∀ s∈ss,s.p.length<=200)/\w.gd=true/\w.tups<=96 /\
  (∀ v,walkS w ss=some v->Q v.toU A)/\(walkS w ss=none->X C [("at",.int (badI w ss:Nat))] A)
section
include T
theorem ok_ninit:FnOk P w K mg base CX0 1 f_NoStep___init__ d_NoStep___init__ ["self","at"] (spInit a_NoStep "at" okI):=init_ok (t1:="the step ") (t2:=" does not fit") T.K_NoStep T.N_NoStep_at rfl rfl (by decide) (by decide) (fun cdv A outer s H E hr=>(pss_cons (ps_expr (pe_sup T.XB (by rfl) T.m_FigureError (pa_cons (pv 0) (pa_cons (pe_fstr (pj_cons pe_str (pj_cons (pe_fmtI (pv 1)) (pj_cons pe_str pj_nil)))) pa_nil))))
      (pss_one (ps_xset (pv 0) (pv 1))))) T.F_NoStep___init__ rfl sc_NoStep___init__
theorem ok_walked:FnOk P w K mg base (CXX P w) 7 f_walked d_walked ["writing","steps"] (spOfX K (asp_wt a_NoStep)):=by
  have G_NoStep___init__:=ok_ninit (P:=P) (w:=w) (base:=base) T
  have G_after_step:=ok_after (P:=P) (w:=w) (base:=base) T
  refine' Fun.okX T.F_walked (sc:=?sc12) (body:=?bd12) ?hs12 ?hb12 sc_walked ?hB12 ?hS12
  case hs12=>conv=>lhs;whnf
  case hb12=>conv=>lhs;whnf
  case hB12=>exact fun S cdv A outer s H E X_ hr hE=>⟨_,(pss_cons (ps_for (own_pass bod_of) rfl (pj_enumS (by rfl) T.n_enumerate (pa_cons (pv 1) pa_nil)) (pg_tup (n:=2) rfl (pgs_cons (pg_name (i:=2) S.nd rfl (Or.inl rfl)) (pgs_cons (pg_name (i:=3) S.nd rfl (Or.inl rfl)) pgs_nil)))
      (pss_cons (ps_set (i:=0) S.nd rfl (Or.inl rfl) (pe_call (G_after_step.mono (by first | decide | lia)) hr (by rfl) T.M_after_step T.F_after_step.kp T.B_after_step .nil pass0 (pa_cons (pv 0) (pa_cons (pv 3) pa_nil))))
      (pss_one (ps_if (pt_cmpR op_isN (pv 0) pe_non (nomark _)) (pss_one (ps_raiseX rfl T.K_NoStep (G_NoStep___init__.mono (by first | decide | lia)) hr (by rfl) T.m_NoStep T.B_NoStep___init__ (pa_cons (pv 2) pa_nil))) pss_nil))))
      (pss_one (ps_ret (pv 0)))),(ab_seq (ab_for (ab_jargs ab_yenumS (ab_cons ab_var ab_nil)) (ab_gtup (ab_gcons ab_name (ab_gcons ab_name ab_gnil)))
      (ab_seq (ab_asg (ab_call (ab_cons ab_var (ab_cons ab_var ab_nil))) ab_name)
      (ab_ifs (ab_test (ab_op ab_isN ab_var ab_non)) (ab_raise hE xok (ab_cons ab_var ab_nil)) ab_next)))
      (ab_ret ab_var))⟩
  rintro us A Q X ⟨w,l,ss,rfl,hl,hn,hn2,hg,ht,q1,q2⟩
  refine ⟨rfl,?_⟩
  walk_at "qs"
  walk_at "qd"
  refine ⟨⟨_,hl⟩,for_enumA (ss.map Stq.toU) (fun k ρ A2=>A2=A/\∃ v r2 r3,ρ=[some v.toU,some (.ref l),r2,r3]/\walkS w (ss.take k)=some v/\v.gd=true/\v.tups<=96) ⟨rfl,w,none,none,rfl,rfl,hg,ht⟩ (fun k ρ A2 _ h=>by rw [h.1];exact hl) (fun k u ρ A2 hu h=>?_) (fun ρ A2 h=>?_)⟩
  . obtain ⟨rfl,v,r2,r3,rfl,hv,g1,g2⟩:=h
    obtain ⟨s,hs,rfl⟩:=map_get hu
    walk_at "qd"
    refine ⟨rfl,v,s,rfl,g1,g2,hn2 s (List.mem_of_getElem? hs),?_⟩
    obtain ⟨c1,c2⟩:=walk_cut hv hs
    cases ha:v.act s.wd s.i s.p with
    | none =>
      refine iteTt rfl ?_
      walk_at "qd"
      have hk:=(List.getElem?_eq_some_iff.mp hs).1
      exact ⟨_,rfl,⟨k,rfl,by have:=Nat.log2_le_self k;simp;lia⟩,by have:=q2 (c2 ha);rw [bad_at hv hs ha] at this;exact this⟩
    | some x =>
      have kx:=act_keeps ha g1
      obtain ⟨xs,ex⟩:=x.toU_tup
      simp only [optU]
      refine iteFf (by rw [ex];rfl) ?_
      exact ⟨trivial,x,_,_,rfl,c1 x ha,kx.1,by rw [kx.2.1];exact g2⟩
  . obtain ⟨rfl,v,r2,r3,rfl,hv,g1,g2⟩:=h
    rw [List.length_map,List.take_length] at hv
    walk_at "qd"
    exact fg (q1 v hv)
end
noncomputable def asp_cell:ASp:=fun us A Q=>∃ (a:Addr) (ns:List Int) (k:Int),us=[.ref a,.int k]/\A a=some (.lst (ns.map U.int))/\0<=k/\∀ z,Q (.int z) A
section
include T
theorem ok_cell:FnOk P w K mg base CX0 1 f_w_cell d_w_cell ["_law_script","_law_k"] (spOf K asp_cell):=by
  refine' Fun.okA T.F_w_cell (sc:=?sc13) (body:=?bd13) ?hs13 ?hb13 sc_w_cell ?hB13 ?hS13
  case hs13=>conv=>lhs;whnf
  case hb13=>conv=>lhs;whnf
  case hB13=>exact fun S cdv A outer s H E hr=>⟨_,(pss_cons (ps_if (pt_cmpR o_lt (pv 1) (pe_callB c_len (by rfl) T.n_len (by decide +kernel) (pa_cons (pv 0) pa_nil)) (nomark _)) (pss_one (ps_ret (pe_ix o_ix (pv 0) (pv 1) (fun _ _=>rfl)))) pss_nil)
      (pss_one (ps_ret pe_int))),(ab_seq (ab_ifs (ab_test (ab_op ab_lt ab_var (ab_cb ab_len (ab_cons ab_var ab_nil)))) (ab_ret (ab_op ab_ix ab_var ab_var)) ab_next)
      (ab_ret ab_int))⟩
  rintro us A Q ⟨a,ns,k,rfl,ha,hk,q⟩
  refine ⟨rfl,?_⟩
  walk_at "qs"
  walk_at "qd"
  refine ⟨_,ha,iteB (fun h=>?_) fun _=>fg (q 0)⟩
  have h':k < ns.length:=by simpa using h
  obtain ⟨z,h1,_⟩:=atI_intsU hk h'
  exact ⟨_,_,ha,h1,fg (q z)⟩
end
noncomputable def asp_mix:ASp:=fun us A Q=>∃ ns:List Int,us=[.rol (ns.map U.int)]/\ns.length<=63/\∀ (l:Addr) (ms:List Int),A l=none->ms.length<=63->Q (.ref l) (updA A l (.lst (ms.map U.int)))
section
include T
theorem ok_mix:FnOk P w K mg base CX0 1 f_w_mix d_w_mix ["_law_script"] (spOf K asp_mix):=by
  refine' Fun.okA T.F_w_mix (sc:=?sc14) (body:=?bd14) ?hs14 ?hb14 sc_w_mix ?hB14 ?hS14
  case hs14=>conv=>lhs;whnf
  case hb14=>conv=>lhs;whnf
  case hB14=>exact fun S cdv A outer s H E hr=>⟨_,(pss_cons (ps_if ((pw_and (pt_cmpR o_gt (pe_callB c_len (by rfl) T.n_len (by decide +kernel) (pa_cons (pv 0) pa_nil)) pe_int (nomark _)) (pw_and1 (pt_cmpR (o_eqD hr) (pe_op o_mod (pe_ix o_ix (pv 0) pe_int (fun _ _=>rfl)) pe_int) pe_int (nomark _))))).pt (pss_one (ps_ret (pe_op o_addW (pe_lst (pa_cons (pe_op o_fdiv (pe_ix o_ix (pv 0) pe_int (fun _ _=>rfl)) pe_int) pa_nil)) (pe_callTy c_list (by rfl) T.n_list (by decide +kernel) (pa_cons (pe_slice o_slW (pv 0) (po_some pe_int) po_none) pa_nil))))) pss_nil)
      (pss_cons (ps_set (i:=1) S.nd rfl (Or.inl rfl) (pe_lst pa_nil))
      (pss_cons (ps_for PassesOwn.never rfl (pj_enumS (by rfl) T.n_enumerate (pa_cons (pv 0) pa_nil)) (pg_tup (n:=2) rfl (pgs_cons (pg_name (i:=2) S.nd rfl (Or.inl rfl)) (pgs_cons (pg_name (i:=3) S.nd rfl (Or.inl rfl)) pgs_nil)))
      (pss_one (ps_expr (pe_bm PySem.F.plainAttrs_list PySem.F.slot_list_append PySem.F.type_list_append mt_append (pv 1) (pa_cons (pe_op o_mod (pe_op o_mulB (pe_op o_mod (pe_op o_addW (pe_op o_mulB (pe_op o_mod (pv 3) (pe_op o_pow pe_int pe_int)) pe_int) (pe_op o_mulB pe_int (pv 2))) pe_int) pe_int) pe_int) pa_nil)))))
      (pss_one (ps_ret (pv 1)))))),(ab_seq (ab_ifs (ab_and (ab_test (ab_op ab_gt (ab_cb ab_len (ab_cons ab_var ab_nil)) ab_int)) (ab_test (ab_op ab_eq (ab_op ab_mod (ab_op ab_ix ab_var ab_int) ab_int) ab_int))) (ab_ret (ab_op ab_add (ab_lst (ab_cons (ab_op ab_div (ab_op ab_ix ab_var ab_int) ab_int) ab_nil)) (ab_cb ab_listof (ab_cons (ab_sl ab_xsl ab_var (ab_part ab_int) ab_nopart) ab_nil)))) ab_next)
      (ab_seq (ab_asg (ab_lst ab_nil) ab_name)
      (ab_seq (ab_for (ab_jargs ab_yenumS (ab_cons ab_var ab_nil)) (ab_gtup (ab_gcons ab_name (ab_gcons ab_name ab_gnil)))
      (ab_drop (ab_bm ab_isLst ab_mapp ab_var (ab_cons (ab_op ab_mod (ab_op ab_mul (ab_op ab_mod (ab_op ab_add (ab_op ab_mul (ab_op ab_mod ab_var (ab_op ab_pow ab_int ab_int)) ab_int) (ab_op ab_mul ab_int ab_var)) ab_int) ab_int) ab_int) ab_nil))))
      (ab_ret ab_var))))⟩
  rintro us A Q ⟨ns,rfl,hk,q⟩
  refine ⟨rfl,?_⟩
  walk_at "qs"
  walk_at "qd"
  rw [List.length_map]
  refine iteB (fun h0=>?_) fun h0=>?_
  . have h0 : 0 < ns.length:=by simpa using h0
    obtain ⟨z,h1,h2⟩:=atI_intsU (Int.le_refl 0) (show (0:Int) < ns.length by lia)
    refine ⟨_,h1,?_⟩
    walk_at "qd"
    refine ⟨by decide,iteB (fun _=>?_) fun _=>?_⟩
    . obtain ⟨n0,ns,rfl⟩:∃ n0 ns',ns=n0::ns':=by
        cases ns with
        | nil=>simp at h0
        | cons n0 ns'=>exact ⟨_,_,rfl⟩
      walk_at "qd"
      refine ⟨_,h1,?_⟩
      walk_at "qd"
      refine ⟨⟨by decide,by decide⟩,tup1,fun p hp p1 hp1=>?_⟩
      walk_at "qd"
      refine ⟨_,updA_same,fun p2 hp2=>?_⟩
      walk_at "qd"
      rw [List.map_cons,cutU_tail] at hp2 ⊢
      have d1:p≠p1:=neA updA_same hp1
      have d2:p≠p2:=fun e=>by rw [<- e,updA_ne d1,updA_same] at hp2;cases hp2
      have e:=(Ext.new (o:=.lst [.int (z / 2)]) hp).trans ((Ext.new (o:=.lst (ns.map U.int)) hp1).trans (Ext.new (o:=.lst (ns.map U.int)) hp2))
      refine ⟨[.int (z / 2)],ns.map U.int,by rw [updA_ne d2,updA_ne d1,updA_same],updA_same,?_,fun p3 hp3=>fgx e.put (q p3 ((z / 2)::ns) (e.none hp3) hk)⟩
      refine line1000 ?_
      simp only [List.length_cons,List.length_nil,List.length_map] at hk ⊢
      lia
    . walk_at "qd"
      refine ⟨by decide,fun p hp=>?_⟩
      walk_at "qd"
      refine for_enumF (us:=ns.map U.int) (fun k ρ A2=>∃ (ms:List Int) (x y:Option U),ρ=[some (.rol (ns.map U.int)),some (.ref p),x,y]/\A2=updA A p (.lst (ms.map U.int))/\ms.length=k) ⟨[],_,_,rfl,rfl,rfl⟩ ?_ ?_
      . rintro k u ρ A2 hu ⟨ms,x,y,rfl,rfl,hm⟩
        have hkl:=(List.getElem?_eq_some_iff.mp hu).1
        rw [List.length_map] at hkl
        obtain ⟨n,_,rfl⟩:=map_get hu
        walk_at "qd"
        exact ⟨rfl,⟨_,updA_same⟩,⟨by decide,by decide,by decide⟩,by decide,mul_small (.inr ⟨by decide,by decide⟩),mul_small (.inl ⟨by decide,by decide⟩),by decide,mul_small (.inr ⟨by decide,by decide⟩),by decide,
          _, updA_same,line1000' (by rw [List.length_map];lia),ms++[_],_,_,rfl,by rw [updA_updA,List.map_append];rfl,by rw [List.length_append,hm];rfl⟩
      . rintro ρ A2 ⟨ms,x,y,rfl,rfl,hm⟩
        walk_at "qd"
        exact fg (q p ms hp (by rw [hm,List.length_map];exact hk))
  . refine iteFf rfl ?_
    walk_at "qd"
    refine ⟨by decide,fun p hp=>?_⟩
    walk_at "qd"
    refine for_enumF (us:=ns.map U.int) (fun k ρ A2=>∃ (ms:List Int) (x y:Option U),ρ=[some (.rol (ns.map U.int)),some (.ref p),x,y]/\A2=updA A p (.lst (ms.map U.int))/\ms.length=k) ⟨[],_,_,rfl,rfl,rfl⟩ ?_ ?_
    . rintro k u ρ A2 hu ⟨ms,x,y,rfl,rfl,hm⟩
      have hkl:=(List.getElem?_eq_some_iff.mp hu).1
      rw [List.length_map] at hkl
      obtain ⟨n,_,rfl⟩:=map_get hu
      walk_at "qd"
      exact ⟨rfl,⟨_,updA_same⟩,⟨by decide,by decide,by decide⟩,by decide,mul_small (.inr ⟨by decide,by decide⟩),mul_small (.inl ⟨by decide,by decide⟩),by decide,mul_small (.inr ⟨by decide,by decide⟩),by decide,
        _, updA_same,line1000' (by rw [List.length_map];lia),ms++[_],_,_,rfl,by rw [updA_updA,List.map_append];rfl,by rw [List.length_append,hm];rfl⟩
    . rintro ρ A2 ⟨ms,x,y,rfl,rfl,hm⟩
      walk_at "qd"
      exact fg (q p ms hp (by rw [hm,List.length_map];exact hk))
end
noncomputable def asp_tuples (n:Nat):ASp:=fun us A Q=>∃ w:Wr,us=[w.toU]/\w.dep<=n/\w.tups<=900/\Q (.int (w.tups:Nat)) A
section
include T
theorem ok_tuples:∀ n:Nat,FnOk P w K mg base CX0 (n + 1) f_w_tuples d_w_tuples ["_law_figure"] (spOf K (asp_tuples n)):=by
  intro n
  induction n with
  | zero=>exact none_yet T.F_w_tuples sc_w_tuples fun us A Q hq0=>by obtain ⟨w,_,hd,_⟩:=hq0;have:=w.dep_pos;lia
  | succ n ih =>
    have G_w_tuples:=ih
    refine' Fun.okA T.F_w_tuples (sc:=?sc15) (body:=?bd15) ?hs15 ?hb15 sc_w_tuples ?hB15 ?hS15
    case hs15=>conv=>lhs;whnf
    case hb15=>conv=>lhs;whnf
    case hB15=>exact fun S cdv A outer s H E hr=>⟨_,(pss_cons (ps_if (pt_cmpR (o_eqD hr) (pe_ix o_ix (pv 0) pe_int (fun _ _=>rfl)) pe_str (nomark _)) (pss_one (ps_ret pe_int)) pss_nil)
      (pss_cons (ps_set (i:=1) S.nd rfl (Or.inl rfl) (pe_slice o_slW (pv 0) (po_some pe_int) po_none))
      (pss_cons (ps_if (pt_cmpR o_in (pe_ix o_ix (pv 0) pe_int (fun _ _=>rfl)) (pe_tup (pa_strs (xs:=["row","bag","choice","ring"]) rfl)) (by with_unfolding_all rfl)) (pss_one (ps_set (i:=1) S.nd rfl (Or.inl rfl) (pe_ix o_ix (pv 0) pe_int (fun _ _=>rfl)))) pss_nil)
      (pss_one (ps_ret (pe_op o_addW pe_int (pe_callB (c_sum rfl) (by rfl) T.n_sum (by decide +kernel) (pa_cons (pe_comp (ts:=["_law_part"]) (frs':=[]) (cl:=[]) rfl ⟨rfl,rfl,(by decide +kernel),(by decide +kernel),(fun _ z=>nomatch z),(noFree_has rfl rfl),(fun _ z=>nomatch z)⟩ (pj_seq (pv 1)) (fun _ _ _ _=>pg_name (i:=0) nd1 rfl (Or.inl rfl) (.inr rfl)) (fun _ _ _ _=>pifs_nil) (fun _ _ _ _=>by exact (pe_call (G_w_tuples.mono (by first | decide | lia)) hr (by rfl) T.M_w_tuples T.F_w_tuples.kp T.B_w_tuples .nil pass0 (pa_cons (pv 0) pa_nil)))) pa_nil)))))))),(ab_seq (ab_ifs (ab_test (ab_op ab_eq (ab_op ab_ix ab_var ab_int) ab_str)) (ab_ret ab_int) ab_next)
      (ab_seq (ab_asg (ab_sl ab_xsl ab_var (ab_part ab_int) ab_nopart) ab_name)
      (ab_seq (ab_ifs (ab_test (ab_op ab_in (ab_op ab_ix ab_var ab_int) (ab_tup ab_strs))) (ab_asg (ab_op ab_ix ab_var ab_int) ab_name) ab_next)
      (ab_ret (ab_op ab_add ab_int (ab_cb ab_sum (ab_cons (ab_comp (ab_jof ab_yseq ab_var) ab_name ab_true (ab_call (ab_cons ab_var ab_nil))) ab_nil)))))))⟩
    rintro us A Q ⟨w,rfl,hd,ht,q⟩
    refine ⟨rfl,?_⟩
    have hpd:=w.parts_dep
    have hpt:=w.parts_tups
    have hpl:=len_tups w.parts
    have go:∀ l,A l=none->w.tups=1 + tupsL w.parts->aCL (jFix (w.parts.map Wr.toU)) (bName 0) aTrue (aCall (asp_tuples n) (aCons (aVar 0) aNil)) l (fun x A2=>xSum [x] A2 fun z A3=>xAdd (.int 1) z A3 (Fg Q)) [none] (updA A l (.lst [])):=fun l hl e=>by
      refine cl_mapW w.parts Wr.toU (fun w=>.int (w.tups:Nat)) hl (by lia) (fun _ _ _ _=>rfl) (fun x A2 hx he Cy hc=>?_) ?_
      . walk_at "qd"
        have:=depL_mem hx
        have:=tupsL_mem hx
        exact ⟨x,rfl,by lia,by lia,hc⟩
      . walk_at "qd"
        refine ⟨w.parts.map fun w=>((w.tups:Nat):Int),by rw [updA_same,List.map_map];rfl,fgx (Ext.new hl) ?_⟩
        rw [sum_tups]
        rw [e] at q
        push_cast at q
        exact q
    walk_at "qs"
    rcases w.kinds with ⟨c,rfl⟩ | ⟨k,ps,rfl⟩ | hf
    . rw [Wr.toU]
      walk_at "qd"
      exact iteTt rfl (fg q)
    . rw [Wr.toU_many]
      walk_at "qd"
      refine iteFf (nbm k) ?_
      walk_at "qd"
      refine ⟨by decide,rfl,rfl,iteTt (in_manyU k) ?_⟩
      walk_at "qd"
      exact fun l hl=>go l hl (by simp [Wr.tups,Wr.parts])
    . rw [Wr.toU_few hf]
      walk_at "qd"
      refine iteFf (nb_name hf.1) ?_
      walk_at "qd"
      refine ⟨by decide,rfl,rfl,iteFf (nin_manyU hf.2) ?_⟩
      walk_at "qd"
      refine fun l hl=>go l hl ?_
      cases w with
      | bead c=>exact absurd rfl (hf.1 c)
      | many k ps=>exact absurd rfl (hf.2 k ps)
      | nothing=>rfl
      | side b f=>simp [Wr.tups,Wr.parts,tupsL]
      | pair f g=>simp [Wr.tups,Wr.parts,tupsL]
end
noncomputable def asp_put:ASp:=fun us A Q=>∃ (a:Addr) (z r:Int) (ws:List Wr),us=[.ref a,.int z,.int r]/\A a=some (.lst (ws.map Wr.toU))/\gdL ws=true/\0<=z/\tupsL ws<=94/\r<=94 /\
  ∀ ws':List Wr,gdL ws'=true->ws'.length<=ws.length + 1->((tupsL ws':Int)<=tupsL ws + 1\/(tupsL ws':Int)<=r)->Q .non (updA A a (.lst (ws'.map Wr.toU)))
noncomputable def asp_any:ASp:=fun us A Q=>∃ (a:Addr) (ns:List Int),us=[.ref a]/\A a=some (.lst (ns.map U.int))/\ns.length<=60/\∀ (k:Nat) (ws:List Wr),(Wr.many k ws).gd=true->(Wr.many k ws).tups<=94->ws.length<=ns.length->Q (Wr.many k ws).toU A
section
include T
theorem ok_put : FnOk P w K mg base CX0 99 f_w_put d_w_put ["_law_stack","_law_cell_here","_law_room"] (spOf K asp_put):=by
  have G_w_tuples:=ok_tuples (P:=P) (w:=w) (base:=base) T 97
  refine' Fun.okA T.F_w_put (sc:=?sc16) (body:=?bd16) ?hs16 ?hb16 sc_w_put ?hB16 ?hS16
  case hs16=>conv=>lhs;whnf
  case hb16=>conv=>lhs;whnf
  case hB16=>exact fun S cdv A outer s H E hr=>⟨_,(pss_cons (ps_set (i:=3) S.nd rfl (Or.inl rfl) (pe_op o_mod (pv 1) pe_int))
      (pss_cons (ps_set (i:=4) S.nd rfl (Or.inl rfl) (pe_op o_fdiv (pv 1) pe_int))
      (pss_cons (ps_set (i:=5) S.nd rfl (Or.inl rfl) (pe_callB (c_minA rfl) (by rfl) T.n_min (by decide +kernel) (pa_cons (pe_callB c_len (by rfl) T.n_len (by decide +kernel) (pa_cons (pv 0) pa_nil)) (pa_cons (pe_op o_mod (pv 4) pe_int) pa_nil))))
      (pss_one (ps_if ((pw_or (pt_cmpR o_lt (pv 3) pe_int (nomark _)) (pw_or1 (pt_cmpR (o_eqD hr) (pe_callB c_len (by rfl) T.n_len (by decide +kernel) (pa_cons (pv 0) pa_nil)) pe_int (nomark _))))).pt (pss_one (ps_expr (pe_bm PySem.F.plainAttrs_list PySem.F.slot_list_append PySem.F.type_list_append mt_append (pv 0) (pa_cons (pe_tup (pa_cons pe_str (pa_cons (pe_ix o_ix (pe_lst (pa_strs (xs:=["red","ash","blue","redder"]) rfl)) (pe_op o_mod (pv 4) pe_int) (fun _ _=>rfl)) pa_nil))) pa_nil)))) (pss_one (ps_if (pt_cmpR (o_eqD hr) (pv 3) pe_int (nomark _)) (pss_one (ps_expr (pe_bm PySem.F.plainAttrs_list PySem.F.slot_list_append PySem.F.type_list_append mt_append (pv 0) (pa_cons (pe_tup (pa_cons pe_str pa_nil)) pa_nil)))) (pss_one (ps_if (pt_cmpR o_lt (pv 3) pe_int (nomark _)) (pss_one (ps_expr (pe_bm PySem.F.plainAttrs_list PySem.F.slot_list_append PySem.F.type_list_append mt_append (pv 0) (pa_cons (pe_tup (pa_cons (pe_ix o_ix (pe_lst (pa_cons pe_str (pa_cons pe_str pa_nil))) (pe_op o_sub (pv 3) pe_int) (fun _ _=>rfl)) (pa_cons (pe_bm0 PySem.F.plainAttrs_list PySem.F.slot_list_pop PySem.F.type_list_pop mt_pop (pv 0)) pa_nil))) pa_nil)))) (pss_one (ps_if ((pw_and (pt_cmpR (o_eqD hr) (pv 3) pe_int (nomark _)) (pw_and1 (pt_cmpR o_gt (pe_callB c_len (by rfl) T.n_len (by decide +kernel) (pa_cons (pv 0) pa_nil)) pe_int (nomark _))))).pt (pss_cons (ps_set (i:=6) S.nd rfl (Or.inl rfl) (pe_bm0 PySem.F.plainAttrs_list PySem.F.slot_list_pop PySem.F.type_list_pop mt_pop (pv 0)))
      (pss_one (ps_expr (pe_bm PySem.F.plainAttrs_list PySem.F.slot_list_append PySem.F.type_list_append mt_append (pv 0) (pa_cons (pe_tup (pa_cons pe_str (pa_cons (pe_bm0 PySem.F.plainAttrs_list PySem.F.slot_list_pop PySem.F.type_list_pop mt_pop (pv 0)) (pa_cons (pv 6) pa_nil)))) pa_nil))))) (pss_one (ps_if (pt_cmpR o_lt (pv 3) pe_int (nomark _)) (pss_cons (ps_set (i:=7) S.nd rfl (Or.inl rfl) (pe_ix o_ix (pv 0) (pe_op o_mod (pv 4) (pe_callB c_len (by rfl) T.n_len (by decide +kernel) (pa_cons (pv 0) pa_nil))) (fun _ _=>rfl)))
      (pss_one (ps_if (pt_cmpR o_le (pe_op o_addW (pe_callB (c_sum rfl) (by rfl) T.n_sum (by decide +kernel) (pa_cons (pe_comp (ts:=["_law_one"]) (frs':=[]) (cl:=[]) rfl ⟨rfl,rfl,(by decide +kernel),(by decide +kernel),(fun _ z=>nomatch z),(noFree_has rfl rfl),(fun _ z=>nomatch z)⟩ (pj_seq (pv 0)) (fun _ _ _ _=>pg_name (i:=0) nd1 rfl (Or.inl rfl) (.inr rfl)) (fun _ _ _ _=>pifs_nil) (fun _ _ _ _=>by exact (pe_call (G_w_tuples.mono (by first | decide | lia)) hr (by rfl) T.M_w_tuples T.F_w_tuples.kp T.B_w_tuples .nil pass0 (pa_cons (pv 0) pa_nil)))) pa_nil)) (pe_call (G_w_tuples.mono (by first | decide | lia)) hr (by rfl) T.M_w_tuples T.F_w_tuples.kp T.B_w_tuples .nil pass0 (pa_cons (pv 7) pa_nil))) (pv 2) (nomark _)) (pss_one (ps_expr (pe_bm PySem.F.plainAttrs_list PySem.F.slot_list_append PySem.F.type_list_append mt_append (pv 0) (pa_cons (pv 7) pa_nil)))) pss_nil))) (pss_cons (ps_setC (i:=8) S.nd rfl (Or.inl rfl) (by with_unfolding_all rfl) (ts:=["_law_k"]) (frs':=[("_law_stack",0)]) (cl:=_) rfl ⟨(by rfl),rfl,(by decide +kernel),(by decide +kernel),(allm_cons (by rfl) allm_nil),(free_has (by rfl) (by rfl)),(allm_cons ⟨(by rfl),(by first | exact .inl rfl | exact .inr rfl),(by first | exact .inl rfl | exact .inr rfl),(by rfl)⟩ allm_nil)⟩ (pj_range1 rfl T.n_range (pa_cons (pv 5) pa_nil)) (fun _ _ _ _=>pg_name (i:=0) (show List.Nodup (["_law_k","_law_stack"]:List Str) from by decide +kernel) rfl (Or.inl rfl) (.inr rfl)) (fun _ _ _ _=>pifs_nil) (fun _ _ _ _=>by exact (k_bm0 K rfl PySem.F.plainAttrs_list PySem.F.slot_list_pop PySem.F.type_list_pop mt_pop (pv 1))))
      (pss_one (ps_expr (pe_bm PySem.F.plainAttrs_list PySem.F.slot_list_append PySem.F.type_list_append mt_append (pv 0) (pa_cons (pe_tup (pa_cons (pe_ix o_ix (pe_lst (pa_strs (xs:=["row","bag","choice","ring"]) rfl)) (pe_op o_mod (pv 3) pe_int) (fun _ _=>rfl)) (pa_cons (pe_tupRev rfl (by rfl) T.n_tuple (by rfl) T.n_reversed (pv 8)) pa_nil))) pa_nil)))))))))))))))))),(ab_seq (ab_asg (ab_op ab_mod ab_var ab_int) ab_name)
      (ab_seq (ab_asg (ab_op ab_div ab_var ab_int) ab_name)
      (ab_seq (ab_asg (ab_cb ab_min (ab_cons (ab_cb ab_len (ab_cons ab_var ab_nil)) (ab_cons (ab_op ab_mod ab_var ab_int) ab_nil))) ab_name)
      (ab_ifs (ab_or (ab_test (ab_op ab_lt ab_var ab_int)) (ab_test (ab_op ab_eq (ab_cb ab_len (ab_cons ab_var ab_nil)) ab_int))) (ab_drop (ab_bm ab_isLst ab_mapp ab_var (ab_cons (ab_tup (ab_cons ab_str (ab_cons (ab_op ab_ix (ab_lst ab_strs) (ab_op ab_mod ab_var ab_int)) ab_nil))) ab_nil))) (ab_ifs (ab_test (ab_op ab_eq ab_var ab_int)) (ab_drop (ab_bm ab_isLst ab_mapp ab_var (ab_cons (ab_tup (ab_cons ab_str ab_nil)) ab_nil))) (ab_ifs (ab_test (ab_op ab_lt ab_var ab_int)) (ab_drop (ab_bm ab_isLst ab_mapp ab_var (ab_cons (ab_tup (ab_cons (ab_op ab_ix (ab_lst (ab_cons ab_str (ab_cons ab_str ab_nil))) (ab_op ab_sub ab_var ab_int)) (ab_cons (ab_bm0 ab_isLst ab_mpop ab_var) ab_nil))) ab_nil))) (ab_ifs (ab_and (ab_test (ab_op ab_eq ab_var ab_int)) (ab_test (ab_op ab_gt (ab_cb ab_len (ab_cons ab_var ab_nil)) ab_int))) (ab_seq (ab_asg (ab_bm0 ab_isLst ab_mpop ab_var) ab_name)
      (ab_drop (ab_bm ab_isLst ab_mapp ab_var (ab_cons (ab_tup (ab_cons ab_str (ab_cons (ab_bm0 ab_isLst ab_mpop ab_var) (ab_cons ab_var ab_nil)))) ab_nil)))) (ab_ifs (ab_test (ab_op ab_lt ab_var ab_int)) (ab_seq (ab_asg (ab_op ab_ix ab_var (ab_op ab_mod ab_var (ab_cb ab_len (ab_cons ab_var ab_nil)))) ab_name)
      (ab_ifs (ab_test (ab_op ab_le (ab_op ab_add (ab_cb ab_sum (ab_cons (ab_comp (ab_jof ab_yseq ab_var) ab_name ab_true (ab_call (ab_cons ab_var ab_nil))) ab_nil)) (ab_call (ab_cons ab_var ab_nil))) ab_var)) (ab_drop (ab_bm ab_isLst ab_mapp ab_var (ab_cons ab_var ab_nil))) ab_next)) (ab_seq (ab_asg (ab_comp (ab_jrng1 (ab_cons ab_var ab_nil)) ab_name ab_true (ab_bm0 ab_isLst ab_mpop ab_var)) ab_name)
      (ab_drop (ab_bm ab_isLst ab_mapp ab_var (ab_cons (ab_tup (ab_cons (ab_op ab_ix (ab_lst ab_strs) (ab_op ab_mod ab_var ab_int)) (ab_cons (ab_tuprev ab_var) ab_nil))) ab_nil))))))))))))⟩
  rintro us A Q ⟨a,z,r,ws,rfl,ha,hok0,hz,ht,hr94,q⟩
  refine ⟨rfl,?_⟩
  walk_at "qs"
  walk_at "qd"
  have hl0:=len_tups ws
  have fin:∀ (A3:AHp) (ws0:List Wr) (w:Wr),Ext A A3->gdL ws0=true->ws0.length<=ws.length->w.gd=true->((tupsL ws0 + w.tups:Nat)<=(tupsL ws:Int) + 1\/(tupsL ws0 + w.tups:Nat)<=r)->Fg Q .non (updA A3 a (.lst (ws0.map Wr.toU++[w.toU]))):=fun A3 ws0 w e ho1 hlen ho2 hb=>by
    have:=q (ws0++[w]) (by rw [gdL_app,ho1];simp [gdL,ho2]) (by rw [List.length_append,List.length_singleton];lia) (by rw [tupsL_app];simpa [tupsL] using hb)
    rw [List.map_append] at this
    exact fgx e.put this
  refine ⟨by decide,⟨by decide,by decide⟩,_,ha,by decide,?_⟩
  by_cases h3:z % 12 < 3
  . refine iteTt (by simpa using h3) ?_
    walk_at "qd"
    refine ⟨⟨_,ha⟩,by decide,fun p hp=>?_⟩
    walk_at "qd"
    refine ⟨by decide,?_⟩
    obtain ⟨c,hc,hok⟩:=col_atU (z / 12)
    refine ⟨_,_,updA_same,hc,?_⟩
    walk_at "qd"
    have e:=Ext.new (o:=.lst [U.str "red",U.str "ash",U.str "blue",U.str "redder"]) hp
    exact ⟨tup2,_,e _ _ ha,line1000' (by rw [List.length_map];lia),fin _ ws (.bead c) e hok0 (Nat.le_refl _) hok (.inl (by simp only [Wr.tups];lia))⟩
  . refine iteFf (by simpa using h3) ?_
    refine ⟨_,ha,?_⟩
    rw [List.length_map]
    by_cases h0:ws.length=0
    . refine iteTt (by simpa using h0) ?_
      walk_at "qd"
      refine ⟨⟨_,ha⟩,by decide,fun p hp=>?_⟩
      walk_at "qd"
      refine ⟨by decide,?_⟩
      obtain ⟨c,hc,hok⟩:=col_atU (z / 12)
      refine ⟨_,_,updA_same,hc,?_⟩
      walk_at "qd"
      have e:=Ext.new (o:=.lst [U.str "red",U.str "ash",U.str "blue",U.str "redder"]) hp
      exact ⟨tup2,_,e _ _ ha,line1000' (by rw [List.length_map];lia),fin _ ws (.bead c) e hok0 (Nat.le_refl _) hok (.inl (by simp only [Wr.tups];lia))⟩
    . refine iteFf (by simpa using h0) ?_
      walk_at "qd"
      by_cases h4:z % 12=3
      . refine iteTt (by simpa using h4) ?_
        walk_at "qd"
        exact ⟨⟨_,ha⟩,tup1,_,ha,line1000' (by rw [List.length_map];lia),fin _ ws .nothing (Ext.refl A) hok0 (Nat.le_refl _) rfl (.inl (by simp only [Wr.tups];lia))⟩
      . refine iteFf (by simpa using h4) ?_
        walk_at "qd"
        by_cases h6:z % 12 < 6
        . refine iteTt (by simpa using h6) ?_
          walk_at "qd"
          refine ⟨⟨_,ha⟩,tup2,fun p hp=>?_⟩
          obtain ⟨b,hb⟩:=side_atU (j:=z % 12 - 4) (by lia) (by lia)
          refine ⟨_,_,updA_same,hb,?_⟩
          walk_at "qd"
          have e:=Ext.new (o:=.lst [U.str "left",U.str "right"]) hp
          obtain ⟨ws0,x,rfl⟩:∃ ws0 x,ws=ws0++[x]:=by
            rcases List.eq_nil_or_concat ws with rfl | ⟨a,b,rfl⟩
            . exact absurd rfl h0
            . exact ⟨a,b,by simp⟩
          rw [List.length_append,List.length_singleton] at hl0
          rw [gdL_app,Bool.and_eq_true] at hok0
          refine ⟨⟨_,e _ _ ha⟩,ws0.map Wr.toU,x.toU,by rw [e _ _ ha,List.map_append];rfl,?_⟩
          walk_at "qd"
          refine ⟨tup2,_,updA_same,line1000' (by rw [List.length_map];lia),?_⟩
          rw [updA_updA]
          exact fin _ ws0 (.side b x) e hok0.1 (by rw [List.length_append];lia) (by have:=hok0.2;simpa [gdL,Wr.gd] using this) (.inl (by rw [tupsL_app];simp only [Wr.tups,tupsL];lia))
        . refine iteFf (by simpa using h6) ?_
          walk_at "qd"
          by_cases h7:z % 12=6
          . refine iteTt (by simpa using h7) ?_
            refine ⟨_,ha,?_⟩
            rw [List.length_map]
            by_cases h1:1 < ws.length
            . refine iteTt (by simp;lia) ?_
              walk_at "qd"
              obtain ⟨ws0,x,y,rfl⟩:∃ ws0 x y,ws=ws0++[x]++[y]:=by
                rcases List.eq_nil_or_concat ws with rfl | ⟨a,b,rfl⟩
                . exact absurd rfl h0
                . rcases List.eq_nil_or_concat a with rfl | ⟨c,d,rfl⟩
                  . simp at h1
                  . exact ⟨c,d,b,by simp⟩
              simp only [List.length_append,List.length_singleton] at hl0
              rw [gdL_app,gdL_app,Bool.and_eq_true,Bool.and_eq_true] at hok0
              refine ⟨⟨_,ha⟩,(ws0++[x]).map Wr.toU,y.toU,by rw [ha,List.map_append];rfl,?_⟩
              walk_at "qd"
              refine ⟨⟨_,updA_same⟩,⟨_,updA_same⟩,ws0.map Wr.toU,x.toU,by rw [updA_same,List.map_append];rfl,?_⟩
              walk_at "qd"
              refine ⟨tup3,_,updA_same,line1000' (by rw [List.length_map];lia),?_⟩
              rw [updA_updA,updA_updA]
              exact fin _ ws0 (.pair x y) (Ext.refl A) hok0.1.1 (by rw [List.length_append,List.length_append];lia) (by have h1:=hok0.1.2;have h2:=hok0.2;simp [gdL] at h1 h2;simp [Wr.gd,h1,h2]) (.inl (by rw [tupsL_app,tupsL_app];simp only [Wr.tups,tupsL];lia))
            . refine iteFf (by simp;lia) ?_
              walk_at "qd"
              refine iteTt (by simp;lia) ?_
              obtain ⟨v,hv,hv2⟩:=atI_lt (xs:=ws.map Wr.toU) (i:=z / 12 % ((ws.map Wr.toU).length:Int)) (Int.emod_nonneg _ (by rw [List.length_map];lia)) (Int.emod_lt_of_pos _ (by rw [List.length_map];lia))
              obtain ⟨u,hu,rfl⟩:=map_get hv2
              have hum:=List.mem_of_getElem? hu
              have ht2:=tupsL_mem hum
              have hok2:=gdL_mem hok0 hum
              have hd2:=u.dep_le
              walk_at "qd"
              refine ⟨_,ha,?_⟩
              walk_at "qd"
              refine ⟨by rw [List.length_map];lia,_,_,ha,hv,?_⟩
              walk_at "qd"
              refine ⟨⟨_,ha⟩,fun l hl=>?_⟩
              walk_at "qc"
              refine cl_mapW ws Wr.toU (fun w=>.int (w.tups:Nat)) hl (by lia) (fun k A2 _ he=>⟨_,he _ _ ha,rfl⟩) (fun x A2 hx he Cy hc=>?_) ?_
              . walk_at "qd"
                have:=tupsL_mem hx
                have:=x.dep_le
                exact ⟨x,rfl,by lia,by lia,hc⟩
              . walk_at "qd"
                refine ⟨ws.map fun w=>((w.tups:Nat):Int),by rw [updA_same,List.map_map];rfl,u,rfl,by lia,by lia,?_⟩
                walk_at "qd"
                rw [sum_tups]
                have e:=Ext.new (o:=.lst (ws.map fun w=>U.int ((w.tups:Nat):Int))) hl
                refine iteB (fun hle=>?_) (fun _=>?_)
                . walk_at "qd"
                  exact ⟨⟨_,e _ _ ha⟩,_,e _ _ ha,line1000' (by rw [List.length_map];lia),fin _ ws u e hok0 (Nat.le_refl _) hok2 (.inr (by have:=of_decide_eq_true hle;lia))⟩
                . refine fgx e ?_
                  have:=q ws hok0 (by lia) (.inl (by lia))
                  rw [updA_self ha] at this
                  exact this
          . refine iteFf (by simpa using h7) (iteFf rfl ?_)
            walk_at "qd"
            by_cases h8:z % 12 < 8
            . refine iteTt (by simp;lia) ?_
              obtain ⟨v,hv,hv2⟩:=atI_lt (xs:=ws.map Wr.toU) (i:=z / 12 % ((ws.map Wr.toU).length:Int)) (Int.emod_nonneg _ (by rw [List.length_map];lia)) (Int.emod_lt_of_pos _ (by rw [List.length_map];lia))
              obtain ⟨u,hu,rfl⟩:=map_get hv2
              have hum:=List.mem_of_getElem? hu
              have ht2:=tupsL_mem hum
              have hok2:=gdL_mem hok0 hum
              have hd2:=u.dep_le
              walk_at "qd"
              refine ⟨_,ha,?_⟩
              walk_at "qd"
              refine ⟨by rw [List.length_map];lia,_,_,ha,hv,?_⟩
              walk_at "qd"
              refine ⟨⟨_,ha⟩,fun l hl=>?_⟩
              walk_at "qc"
              refine cl_mapW ws Wr.toU (fun w=>.int (w.tups:Nat)) hl (by lia) (fun k A2 _ he=>⟨_,he _ _ ha,rfl⟩) (fun x A2 hx he Cy hc=>?_) ?_
              . walk_at "qd"
                have:=tupsL_mem hx
                have:=x.dep_le
                exact ⟨x,rfl,by lia,by lia,hc⟩
              . walk_at "qd"
                refine ⟨ws.map fun w=>((w.tups:Nat):Int),by rw [updA_same,List.map_map];rfl,u,rfl,by lia,by lia,?_⟩
                walk_at "qd"
                rw [sum_tups]
                have e:=Ext.new (o:=.lst (ws.map fun w=>U.int ((w.tups:Nat):Int))) hl
                refine iteB (fun hle=>?_) (fun _=>?_)
                . walk_at "qd"
                  exact ⟨⟨_,e _ _ ha⟩,_,e _ _ ha,line1000' (by rw [List.length_map];lia),fin _ ws u e hok0 (Nat.le_refl _) hok2 (.inr (by have:=of_decide_eq_true hle;lia))⟩
                . refine fgx e ?_
                  have:=q ws hok0 (by lia) (.inl (by lia))
                  rw [updA_self ha] at this
                  exact this
            . refine iteFf (by simp;lia) ?_
              walk_at "qd"
              refine ⟨by lia,by lia,fun l hl=>?_⟩
              walk_at "qc"
              generalize em:(min ((ws.length:Nat):Int) (z / 12 % 5)).toNat=m
              have hm:m<=ws.length:=by lia
              obtain ⟨ws1,ws2,e12,hl2⟩:∃ ws1 ws2:List Wr,ws=ws1++ws2/\ws2.length=m:=⟨ws.take (ws.length - m),ws.drop (ws.length - m),(List.take_append_drop _ _).symm,by rw [List.length_drop];lia⟩
              subst e12
              have ha':A a=some (.lst (ws1.map Wr.toU++ws2.map Wr.toU)):=by rw [ha,List.map_append]
              rw [<- hl2,show ws2.length=(ws2.map Wr.toU).length from by rw [List.length_map]]
              rw [List.length_append] at hl0
              have hne:a≠l:=neA ha hl
              refine cl_popsA ha' hl (by rw [List.length_map];lia) ?_
              walk_at "qd"
              refine ⟨⟨_,by rw [updA_ne hne,updA_same]⟩,by decide,fun p hp=>?_⟩
              walk_at "qd"
              obtain ⟨k,hk3,hk⟩:=many_atG (z % 12)
              refine ⟨by decide,_,_,updA_same,hk,?_⟩
              have n1:p≠l:=fun e=>by rw [e,updA_same] at hp;cases hp
              refine ⟨l,_,rfl,by rw [updA_ne (Ne.symm n1),updA_same],tup2,?_⟩
              have n2:a≠p:=fun e=>by rw [<- e,updA_ne hne,updA_same] at hp;cases hp
              refine ⟨ws1.map Wr.toU,by rw [updA_ne n2,updA_ne hne,updA_same],line1000' (by rw [List.length_map];lia),?_⟩
              rw [gdL_app,Bool.and_eq_true] at hok0
              have n3:A p=none:=by rw [updA_ne n1,updA_ne (Ne.symm n2)] at hp;exact hp
              have:=fin (updA (updA A l (.lst (ws2.map Wr.toU).reverse)) p (.lst [.str "row",.str "bag",.str "choice",.str "ring"])) ws1 (.many k ws2) ((Ext.new hl).trans (Ext.new (by rw [updA_ne n1];exact n3))) hok0.1 (by rw [List.length_append];lia) (by simp only [Wr.gd,Bool.and_eq_true,decide_eq_true_eq];exact ⟨⟨hk3,by lia⟩,hok0.2⟩) (.inl (by rw [tupsL_app];simp only [Wr.tups];lia))
              rw [List.reverse_reverse]
              rw [Wr.toU_many] at this
              rw [updA_swap (A:=A) hne,updA_swap (A:=updA A l _) n2,updA_updA]
              exact this
theorem ok_any:FnOk P w K mg base CX0 100 f_w_any d_w_any ["_law_cells"] (spOf K asp_any):=by
  have G_w_put:=ok_put (P:=P) (w:=w) (base:=base) T
  refine' Fun.okA T.F_w_any (sc:=?sc17) (body:=?bd17) ?hs17 ?hb17 sc_w_any ?hB17 ?hS17
  case hs17=>conv=>lhs;whnf
  case hb17=>conv=>lhs;whnf
  case hB17=>exact fun S cdv A outer s H E hr=>⟨_,(pss_cons (ps_set (i:=1) S.nd rfl (Or.inl rfl) (pe_lst pa_nil))
      (pss_cons (ps_for PassesOwn.never rfl (pj_enumS (by rfl) T.n_enumerate (pa_cons (pv 0) pa_nil)) (pg_tup (n:=2) rfl (pgs_cons (pg_name (i:=2) S.nd rfl (Or.inl rfl)) (pgs_cons (pg_name (i:=3) S.nd rfl (Or.inl rfl)) pgs_nil)))
      (pss_one (ps_expr (pe_call (G_w_put.mono (by first | decide | lia)) hr (by rfl) T.M_w_put T.F_w_put.kp T.B_w_put .nil pass0 (pa_cons (pv 1) (pa_cons (pe_op o_mod (pv 3) (pe_op o_pow pe_int pe_int)) (pa_cons (pe_op o_sub pe_int (pe_op o_sub (pe_callB c_len (by rfl) T.n_len (by decide +kernel) (pa_cons (pv 0) pa_nil)) (pv 2))) pa_nil)))))))
      (pss_one (ps_ret (pe_tup (pa_cons (pe_ix o_ix (pe_lst (pa_strs (xs:=["row","bag","choice","ring"]) rfl)) (pe_op o_mod (pe_callB c_len (by rfl) T.n_len (by decide +kernel) (pa_cons (pv 0) pa_nil)) pe_int) (fun _ _=>rfl)) (pa_cons (pe_callTy c_tuple (by rfl) T.n_tuple (by decide +kernel) (pa_cons (pv 1) pa_nil)) pa_nil))))))),(ab_seq (ab_asg (ab_lst ab_nil) ab_name)
      (ab_seq (ab_for (ab_jargs ab_yenumS (ab_cons ab_var ab_nil)) (ab_gtup (ab_gcons ab_name (ab_gcons ab_name ab_gnil)))
      (ab_drop (ab_call (ab_cons ab_var (ab_cons (ab_op ab_mod ab_var (ab_op ab_pow ab_int ab_int)) (ab_cons (ab_op ab_sub ab_int (ab_op ab_sub (ab_cb ab_len (ab_cons ab_var ab_nil)) ab_var)) ab_nil))))))
      (ab_ret (ab_tup (ab_cons (ab_op ab_ix (ab_lst ab_strs) (ab_op ab_mod (ab_cb ab_len (ab_cons ab_var ab_nil)) ab_int)) (ab_cons (ab_cb ab_tupof (ab_cons ab_var ab_nil)) ab_nil))))))⟩
  rintro us A Q ⟨a,ns,rfl,ha,hk,q⟩
  refine ⟨rfl,?_⟩
  walk_at "qs"
  walk_at "qd"
  refine ⟨by decide,fun p hp=>?_⟩
  walk_at "qd"
  have hpa:a≠p:=neA ha hp
  refine ⟨⟨_,by rw [updA_ne hpa];exact ha⟩,?_⟩
  refine for_enumA (ns.map U.int) (fun k ρ A2=>∃ (ws:List Wr) (x y:Option U),ρ=[some (.ref a),some (.ref p),x,y]/\A2=updA A p (.lst (ws.map Wr.toU))/\gdL ws=true/\ws.length<=k/\(tupsL ws:Int)<=93 - ((ns.length:Int) - k))
    ⟨[],_,_,rfl,rfl,rfl,Nat.le_refl _,by simp [tupsL];lia⟩ (fun k ρ A2 _ hq0=>by obtain ⟨_,_,_,_,e,_⟩:=hq0;rw [e,updA_ne hpa];exact ha) ?_ ?_
  . rintro k u ρ A2 hu ⟨ws,x,y,rfl,rfl,hok,hwl,hb⟩
    have hkl:=(List.getElem?_eq_some_iff.mp hu).1
    rw [List.length_map] at hkl
    obtain ⟨n,_,rfl⟩:=map_get hu
    walk_at "qd"
    refine ⟨rfl,⟨by decide,by decide,by decide⟩,by decide,_,by rw [updA_ne hpa];exact ha,?_⟩
    walk_at "qd"
    rw [List.length_map]
    refine ⟨p,_,_,ws,rfl,updA_same,hok,Int.emod_nonneg _ (by decide),by lia,by lia,fun ws' hok' hl' hb'=>?_⟩
    exact ⟨ws',_,_,rfl,by rw [updA_updA],hok',by lia,by lia⟩
  . rintro ρ A2 ⟨ws,x,y,rfl,rfl,hok,hwl,hb⟩
    rw [List.length_map] at hb hwl
    walk_at "qd"
    refine ⟨by decide,fun p1 hp1=>?_⟩
    have e1:=Ext.new (o:=.lst [U.str "row",U.str "bag",U.str "choice",U.str "ring"]) hp1
    obtain ⟨k,hk3,hk2⟩:=many_atG ((ns.map U.int).length:Int)
    refine ⟨_,e1 _ _ (by rw [updA_ne hpa];exact ha),?_⟩
    walk_at "qd"
    refine ⟨by decide,_,_,updA_same,hk2,_,e1 _ _ updA_same,tup2,?_⟩
    refine fgx ((Ext.new hp).trans e1) ?_
    have:=q k ws (by simp only [Wr.gd,Bool.and_eq_true,decide_eq_true_eq];exact ⟨⟨hk3,by lia⟩,hok⟩) (by simp only [Wr.tups];lia) hwl
    rw [Wr.toU_many] at this
    exact this
end
/-- a spot: path,how many parts,kind -/
structure Spt where
  p : List Int
  m : Int
  nm:Str
noncomputable def Spt.toU (s:Spt):U:=.tup [.tup (s.p.map U.int),.int s.m,.str s.nm]
noncomputable def asp_paths (n:Nat):ASp:=fun us A Q=>∃ (w:Wr) (p:List Int),us=[w.toU,.tup (p.map U.int)]/\w.gd=true/\w.dep<=n/\w.tups<=96/\p.length + w.dep<=98 /\
  ∀ (l:Addr) (sp:List Spt) (A':AHp),Ext A A'->A l=none->A' l=some (.lst (sp.map Spt.toU))->0 < sp.length->sp.length<=w.tups->(∀ s∈sp,s.p.length<=98/\0<=s.m/\s.m<=64)->Q (.ref l) A'
section
include T
theorem ok_paths:∀ n:Nat,FnOk P w K mg base CX0 (n + 2) f_w_paths d_w_paths ["_law_figure","_law_path"] (spOf K (asp_paths n)):=by
  intro n
  induction n with
  | zero=>exact none_yet T.F_w_paths sc_w_paths fun us A Q hq0=>by obtain ⟨w,_,_,_,hd,_⟩:=hq0;have:=w.dep_pos;lia
  | succ n ih =>
    have G_w_paths:=ih
    have G_w_parts:=ok_lparts (P:=P) (w:=w) (base:=base) T
    refine' Fun.okA T.F_w_paths (sc:=?sc18) (body:=?bd18) ?hs18 ?hb18 sc_w_paths ?hB18 ?hS18
    case hs18=>conv=>lhs;whnf
    case hb18=>conv=>lhs;whnf
    case hB18=>exact fun S cdv A outer s H E hr=>⟨_,(pss_cons (ps_set (i:=2) S.nd rfl (Or.inl rfl) (pe_lst (pa_cons (pe_tup (pa_cons (pv 1) (pa_cons (pe_callB c_len (by rfl) T.n_len (by decide +kernel) (pa_cons (pe_call (G_w_parts.mono (by first | decide | lia)) hr (by rfl) T.M_w_parts T.F_w_parts.kp T.B_w_parts .nil pass0 (pa_cons (pv 0) pa_nil)) pa_nil)) (pa_cons (pe_ix o_ix (pv 0) pe_int (fun _ _=>rfl)) pa_nil)))) pa_nil)))
      (pss_cons (ps_for PassesOwn.never rfl (pj_enumS (by rfl) T.n_enumerate (pa_cons (pe_call (G_w_parts.mono (by first | decide | lia)) hr (by rfl) T.M_w_parts T.F_w_parts.kp T.B_w_parts .nil pass0 (pa_cons (pv 0) pa_nil)) pa_nil)) (pg_tup (n:=2) rfl (pgs_cons (pg_name (i:=3) S.nd rfl (Or.inl rfl)) (pgs_cons (pg_name (i:=4) S.nd rfl (Or.inl rfl)) pgs_nil)))
      (pss_one (ps_set (i:=2) S.nd rfl (Or.inl rfl) (pe_op o_addW (pv 2) (pe_call (G_w_paths.mono (by first | decide | lia)) hr (by rfl) T.M_w_paths T.F_w_paths.kp T.B_w_paths .nil pass0 (pa_cons (pv 4) (pa_cons (pe_op o_addW (pv 1) (pe_tup (pa_cons (pv 3) pa_nil))) pa_nil)))))))
      (pss_one (ps_ret (pv 2))))),(ab_seq (ab_asg (ab_lst (ab_cons (ab_tup (ab_cons ab_var (ab_cons (ab_cb ab_len (ab_cons (ab_call (ab_cons ab_var ab_nil)) ab_nil)) (ab_cons (ab_op ab_ix ab_var ab_int) ab_nil)))) ab_nil)) ab_name)
      (ab_seq (ab_for (ab_jargs ab_yenumS (ab_cons (ab_call (ab_cons ab_var ab_nil)) ab_nil)) (ab_gtup (ab_gcons ab_name (ab_gcons ab_name ab_gnil)))
      (ab_asg (ab_op ab_add ab_var (ab_call (ab_cons ab_var (ab_cons (ab_op ab_add ab_var (ab_tup (ab_cons ab_var ab_nil))) ab_nil)))) ab_name))
      (ab_ret ab_var)))⟩
    rintro us A Q ⟨w,p,rfl,hg,hd,ht,hp,q⟩
    refine ⟨rfl,?_⟩
    walk_at "qs"
    walk_at "qd"
    have hpd:=w.parts_dep
    have hpt:=w.parts_tups
    have hgp:=w.gd_parts hg
    obtain ⟨rest,eh⟩:=w.toU_hd
    refine ⟨w,rfl,?_⟩
    rw [eh]
    walk_at "qd"
    rw [List.length_map]
    refine ⟨tup3,tup1,fun l0 hl0=>?_⟩
    rw [<- eh]
    refine ⟨w,rfl,?_⟩
    walk_at "qd"
    refine for_enumF (us:=w.parts.map Wr.toU) (fun k ρ A2=>Ext A A2/\∃ (l:Addr) (sp:List Spt) (r3 r4:Option U),ρ=[some w.toU,some (.tup (p.map U.int)),some (.ref l),r3,r4]/\A l=none/\A2 l=some (.lst (sp.map Spt.toU))/\0 < sp.length/\sp.length<=1 + tupsL (w.parts.take k)/\∀ s∈sp,s.p.length<=98/\0<=s.m/\s.m<=64)
      ⟨Ext.new hl0,l0,[⟨p,(w.parts.length:Int),w.name⟩],_,_,rfl,hl0,updA_same,by simp,by simp [tupsL],fun s hs=>by
        have:=List.mem_singleton.mp hs
        subst this
        exact ⟨by show p.length<=98;lia,by show (0:Int)<=(w.parts.length:Int);lia,by show (w.parts.length:Int)<=64;lia⟩⟩ ?_ ?_
    . rintro k u ρ A2 hu ⟨eA,l,sp,r3,r4,rfl,hl,a2,h1,h2,h3⟩
      obtain ⟨v,hv,rfl⟩:=map_get hu
      have hvm:=List.mem_of_getElem? hv
      have:=depL_mem hvm
      have:=tupsL_mem hvm
      walk_at "qd"
      have et:tupsL (w.parts.take (k + 1))=tupsL (w.parts.take k) + v.tups:=by rw [List.take_succ,hv,tupsL_app];simp [tupsL]
      have ekl:tupsL (w.parts.take k)<=tupsL w.parts:=by
        conv=>rhs;rw [<- List.take_append_drop k w.parts,tupsL_app]
        exact Nat.le_add_right _ _
      refine ⟨rfl,tup1,line1000 (by simp;lia),v,p++[(k:Int)],by simp,gdL_mem hgp.1 hvm,by lia,by lia,by rw [List.length_append,List.length_singleton];lia,fun l2 sp2 A3 e3 hl2 a3 h4 h5 h6=>?_⟩
      walk_at "qd"
      refine ⟨_,_,e3 _ _ a2,a3,line1000 (by rw [List.length_map,List.length_map];lia),fun l4 hl4=>⟨eA.trans (e3.trans (Ext.new hl4)),l4,sp++sp2,_,_,rfl,eA.none (e3.none hl4),by rw [updA_same,List.map_append],by rw [List.length_append];lia,by rw [List.length_append];lia,fun s hs=>?_⟩⟩
      rcases List.mem_append.mp hs with h | h
      . exact h3 s h
      . exact h6 s h
    . rintro ρ A2 ⟨eA,l,sp,r3,r4,rfl,hl,a2,h1,h2,h3⟩
      rw [List.length_map,List.take_length] at h2
      walk_at "qd"
      exact fg (q l sp A2 eA hl a2 h1 (by lia) h3)
end
noncomputable def asp_step:ASp:=fun us A Q=>∃ (w:Wr) (z:Int) (wl:Bool),us=[w.toU,.int z,.bl wl]/\w.gd=true/\w.tups<=96/\0<=z/\∀ s:Stq,s.p.length<=99->PyData.strOk s.wd=true->Q s.toU A
section
include T
theorem ok_step : FnOk P w K mg base CX0 100 f_w_step d_w_step ["_law_figure","_law_cell_here","_law_wild"] (spOf K asp_step):=by
  have G_w_paths:=ok_paths (P:=P) (w:=w) (base:=base) T 97
  refine' Fun.okA T.F_w_step (sc:=?sc19) (body:=?bd19) ?hs19 ?hb19 sc_w_step ?hB19 ?hS19
  case hs19=>conv=>lhs;whnf
  case hb19=>conv=>lhs;whnf
  case hB19=>exact fun S cdv A outer s H E hr=>⟨_,(pss_cons (ps_set (i:=3) S.nd rfl (Or.inl rfl) (pe_call (G_w_paths.mono (by first | decide | lia)) hr (by rfl) T.M_w_paths T.F_w_paths.kp T.B_w_paths .nil pass0 (pa_cons (pv 0) (pa_cons (pe_tup pa_nil) pa_nil))))
      (pss_cons (ps_setC (i:=4) S.nd rfl (Or.inl rfl) (by with_unfolding_all rfl) (ts:=["_law_spot"]) (frs':=[]) (cl:=[]) rfl ⟨rfl,rfl,(by decide +kernel),(by decide +kernel),(fun _ z=>nomatch z),(noFree_has rfl rfl),(fun _ z=>nomatch z)⟩ (pj_seq (pv 3)) (fun _ _ _ _=>pg_name (i:=0) nd1 rfl (Or.inl rfl) (.inr rfl)) (fun _ _ _ _=>(pifs_one ((pw_and (pt_cmpR o_gt (pe_ix (k_ix K rfl) (pv 0) pe_int (fun _ _=>rfl)) pe_int (nomark _)) (pw_and1 (pt_cmpR (k_in K rfl) (pe_ix (k_ix K rfl) (pv 0) pe_int (fun _ _=>rfl)) (pe_tup (pa_strs (xs:=["bag","choice","ring"]) rfl)) (by with_unfolding_all rfl))))).pt)) (fun _ _ _ _=>by exact (pv 0)))
      (pss_cons (ps_set (i:=5) S.nd rfl (Or.inl rfl) (pe_ix o_ix (pv 3) (pe_op o_mod (pe_op o_fdiv (pv 1) pe_int) (pe_callB c_len (by rfl) T.n_len (by decide +kernel) (pa_cons (pv 3) pa_nil))) (fun _ _=>rfl)))
      (pss_cons (ps_if ((pw_and (pt_cmpR o_gt (pe_callB c_len (by rfl) T.n_len (by decide +kernel) (pa_cons (pv 4) pa_nil)) pe_int (nomark _)) (pw_and1 (pt_not (pt_val (pv 2)))))).pt (pss_one (ps_set (i:=5) S.nd rfl (Or.inl rfl) (pe_ix o_ix (pv 4) (pe_op o_mod (pe_op o_fdiv (pv 1) pe_int) (pe_callB c_len (by rfl) T.n_len (by decide +kernel) (pa_cons (pv 4) pa_nil))) (fun _ _=>rfl)))) pss_nil)
      (pss_cons (ps_set (i:=6) S.nd rfl (Or.inl rfl) (pe_ix o_ix (pe_lst (pa_cons pe_str (pa_cons pe_str pa_nil))) (pe_callTy c_int (by rfl) T.n_int (by decide +kernel) (pa_cons (pe_cmpR (o_eqD hr) (pe_ix o_ix (pv 5) pe_int (fun _ _=>rfl)) pe_str (nomark _)) pa_nil)) (fun _ _=>rfl)))
      (pss_cons (ps_set (i:=7) S.nd rfl (Or.inl rfl) (pe_op o_mod (pe_op o_fdiv (pv 1) pe_int) (pe_callB (c_maxA rfl) (by rfl) T.n_max (by decide +kernel) (pa_cons pe_int (pa_cons (pe_op o_sub (pe_ix o_ix (pv 5) pe_int (fun _ _=>rfl)) (pe_callTy c_int (by rfl) T.n_int (by decide +kernel) (pa_cons (pe_cmpR (o_neD hr) (pe_ix o_ix (pv 5) pe_int (fun _ _=>rfl)) pe_str (nomark _)) pa_nil))) pa_nil)))))
      (pss_cons (ps_if (pt_not (pt_val (pv 2))) (pss_one (ps_ret (pe_tup (pa_cons (pv 6) (pa_cons (pe_ix o_ix (pv 5) pe_int (fun _ _=>rfl)) (pa_cons (pv 7) pa_nil)))))) pss_nil)
      (pss_cons (ps_if (pt_cmpR (o_eqD hr) (pe_op o_mod (pv 1) pe_int) pe_int (nomark _)) (pss_one (ps_ret (pe_tup (pa_cons (pe_ix o_ix (pe_lst (pa_cons pe_str (pa_cons pe_str pa_nil))) (pe_callTy c_int (by rfl) T.n_int (by decide +kernel) (pa_cons (pe_cmpR (o_eqD hr) (pv 6) pe_str (nomark _)) pa_nil)) (fun _ _=>rfl)) (pa_cons (pe_ix o_ix (pv 5) pe_int (fun _ _=>rfl)) (pa_cons (pv 7) pa_nil)))))) pss_nil)
      (pss_cons (ps_if (pt_cmpR (o_eqD hr) (pe_op o_mod (pv 1) pe_int) pe_int (nomark _)) (pss_one (ps_ret (pe_tup (pa_cons (pv 6) (pa_cons (pe_op o_addW (pe_ix o_ix (pv 5) pe_int (fun _ _=>rfl)) (pe_tup (pa_cons (pe_op o_sub (pe_op o_mod (pe_op o_fdiv (pv 1) pe_int) pe_int) pe_int) pa_nil))) (pa_cons (pv 7) pa_nil)))))) pss_nil)
      (pss_cons (ps_if ((pw_and (pt_cmpR (o_eqD hr) (pe_op o_mod (pv 1) pe_int) pe_int (nomark _)) (pw_and1 (pt_cmpR o_gt (pe_callB c_len (by rfl) T.n_len (by decide +kernel) (pa_cons (pe_ix o_ix (pv 5) pe_int (fun _ _=>rfl)) pa_nil)) pe_int (nomark _))))).pt (pss_cons (ps_set (i:=8) S.nd rfl (Or.inl rfl) (pe_op o_sub (pe_callB c_len (by rfl) T.n_len (by decide +kernel) (pa_cons (pe_ix o_ix (pv 5) pe_int (fun _ _=>rfl)) pa_nil)) pe_int))
      (pss_one (ps_ret (pe_tup (pa_cons (pv 6) (pa_cons (pe_op o_addW (pe_slice o_slW (pe_ix o_ix (pv 5) pe_int (fun _ _=>rfl)) po_none (po_some (pv 8))) (pe_tup (pa_cons (pe_op o_sub (pe_op o_sub (pe_ix o_ix (pe_ix o_ix (pv 5) pe_int (fun _ _=>rfl)) (pv 8) (fun _ _=>rfl)) pe_int) (pe_op o_mod (pe_op o_fdiv (pv 1) pe_int) pe_int)) pa_nil))) (pa_cons (pv 7) pa_nil))))))) pss_nil)
      (pss_cons (ps_if (pt_cmpR (o_eqD hr) (pe_op o_mod (pv 1) pe_int) pe_int (nomark _)) (pss_one (ps_ret (pe_tup (pa_cons (pv 6) (pa_cons (pe_ix o_ix (pv 5) pe_int (fun _ _=>rfl)) (pa_cons (pe_op o_sub (pe_un un_neg pe_int) (pe_op o_mod (pe_op o_fdiv (pv 1) pe_int) (pe_op o_pow pe_int pe_int))) pa_nil)))))) pss_nil)
      (pss_cons (ps_if (pt_cmpR (o_eqD hr) (pe_op o_mod (pv 1) pe_int) pe_int (nomark _)) (pss_one (ps_ret (pe_tup (pa_cons (pv 6) (pa_cons (pe_ix o_ix (pv 5) pe_int (fun _ _=>rfl)) (pa_cons (pe_op o_addW (pe_op o_sub (pe_ix o_ix (pv 5) pe_int (fun _ _=>rfl)) (pe_callTy c_int (by rfl) T.n_int (by decide +kernel) (pa_cons (pe_cmpR (o_neD hr) (pe_ix o_ix (pv 5) pe_int (fun _ _=>rfl)) pe_str (nomark _)) pa_nil))) (pe_op o_mod (pe_op o_fdiv (pv 1) pe_int) (pe_op o_pow pe_int pe_int))) pa_nil)))))) pss_nil)
      (pss_one (ps_ret (pe_tup (pa_cons (pv 6) (pa_cons (pe_ix o_ix (pv 5) pe_int (fun _ _=>rfl)) (pa_cons (pv 7) pa_nil)))))))))))))))))),(ab_seq (ab_asg (ab_call (ab_cons ab_var (ab_cons (ab_tup ab_nil) ab_nil))) ab_name)
      (ab_seq (ab_asg (ab_comp (ab_jof ab_yseq ab_var) ab_name (ab_and (ab_test (ab_op ab_gt (ab_op ab_ix ab_var ab_int) ab_int)) (ab_test (ab_op ab_in (ab_op ab_ix ab_var ab_int) (ab_tup ab_strs)))) ab_var) ab_name)
      (ab_seq (ab_asg (ab_op ab_ix ab_var (ab_op ab_mod (ab_op ab_div ab_var ab_int) (ab_cb ab_len (ab_cons ab_var ab_nil)))) ab_name)
      (ab_seq (ab_ifH (ab_and (ab_test (ab_op ab_gt (ab_cb ab_len (ab_cons ab_var ab_nil)) ab_int)) (ab_not (ab_tb ab_var))) (ab_asg (ab_op ab_ix ab_var (ab_op ab_mod (ab_op ab_div ab_var ab_int) (ab_cb ab_len (ab_cons ab_var ab_nil)))) ab_name) ab_next)
      (ab_seq (ab_asg (ab_op ab_ix (ab_lst (ab_cons ab_str (ab_cons ab_str ab_nil))) (ab_cb ab_xint (ab_cons (ab_op ab_eq (ab_op ab_ix ab_var ab_int) ab_str) ab_nil))) ab_name)
      (ab_seq (ab_asg (ab_op ab_mod (ab_op ab_div ab_var ab_int) (ab_cb ab_max (ab_cons ab_int (ab_cons (ab_op ab_sub (ab_op ab_ix ab_var ab_int) (ab_cb ab_xint (ab_cons (ab_op ab_ne (ab_op ab_ix ab_var ab_int) ab_str) ab_nil))) ab_nil)))) ab_name)
      (ab_seq (ab_ifH (ab_not (ab_tb ab_var)) (ab_ret (ab_tup (ab_cons ab_var (ab_cons (ab_op ab_ix ab_var ab_int) (ab_cons ab_var ab_nil))))) ab_next)
      (ab_seq (ab_ifH (ab_test (ab_op ab_eq (ab_op ab_mod ab_var ab_int) ab_int)) (ab_ret (ab_tup (ab_cons (ab_op ab_ix (ab_lst (ab_cons ab_str (ab_cons ab_str ab_nil))) (ab_cb ab_xint (ab_cons (ab_op ab_eq ab_var ab_str) ab_nil))) (ab_cons (ab_op ab_ix ab_var ab_int) (ab_cons ab_var ab_nil))))) ab_next)
      (ab_seq (ab_ifH (ab_test (ab_op ab_eq (ab_op ab_mod ab_var ab_int) ab_int)) (ab_ret (ab_tup (ab_cons ab_var (ab_cons (ab_op ab_add (ab_op ab_ix ab_var ab_int) (ab_tup (ab_cons (ab_op ab_sub (ab_op ab_mod (ab_op ab_div ab_var ab_int) ab_int) ab_int) ab_nil))) (ab_cons ab_var ab_nil))))) ab_next)
      (ab_seq (ab_ifH (ab_and (ab_test (ab_op ab_eq (ab_op ab_mod ab_var ab_int) ab_int)) (ab_test (ab_op ab_gt (ab_cb ab_len (ab_cons (ab_op ab_ix ab_var ab_int) ab_nil)) ab_int))) (ab_seq (ab_asg (ab_op ab_sub (ab_cb ab_len (ab_cons (ab_op ab_ix ab_var ab_int) ab_nil)) ab_int) ab_name)
      (ab_ret (ab_tup (ab_cons ab_var (ab_cons (ab_op ab_add (ab_sl ab_xsl (ab_op ab_ix ab_var ab_int) ab_nopart (ab_part ab_var)) (ab_tup (ab_cons (ab_op ab_sub (ab_op ab_sub (ab_op ab_ix (ab_op ab_ix ab_var ab_int) ab_var) ab_int) (ab_op ab_mod (ab_op ab_div ab_var ab_int) ab_int)) ab_nil))) (ab_cons ab_var ab_nil)))))) ab_next)
      (ab_seq (ab_ifH (ab_test (ab_op ab_eq (ab_op ab_mod ab_var ab_int) ab_int)) (ab_ret (ab_tup (ab_cons ab_var (ab_cons (ab_op ab_ix ab_var ab_int) (ab_cons (ab_op ab_sub (ab_un ab_neg ab_int) (ab_op ab_mod (ab_op ab_div ab_var ab_int) (ab_op ab_pow ab_int ab_int))) ab_nil))))) ab_next)
      (ab_seq (ab_ifH (ab_test (ab_op ab_eq (ab_op ab_mod ab_var ab_int) ab_int)) (ab_ret (ab_tup (ab_cons ab_var (ab_cons (ab_op ab_ix ab_var ab_int) (ab_cons (ab_op ab_add (ab_op ab_sub (ab_op ab_ix ab_var ab_int) (ab_cb ab_xint (ab_cons (ab_op ab_ne (ab_op ab_ix ab_var ab_int) ab_str) ab_nil))) (ab_op ab_mod (ab_op ab_div ab_var ab_int) (ab_op ab_pow ab_int ab_int))) ab_nil))))) ab_next)
      (ab_ret (ab_tup (ab_cons ab_var (ab_cons (ab_op ab_ix ab_var ab_int) (ab_cons ab_var ab_nil)))))))))))))))))⟩
  rintro us A Q ⟨w,z,wl,rfl,hg,ht,hz,q⟩
  refine ⟨rfl,?_⟩
  walk_at "qs"
  walk_at "qd"
  have hdl:=w.dep_le
  refine ⟨by decide,w,[],rfl,hg,by lia,ht,by simp only [List.length_nil];lia,fun l1 sp A1 e1 hl1 a1 h1 h2 h3=>?_⟩
  walk_at "qd"
  refine ⟨⟨_,a1⟩,fun l2 hl2=>?_⟩
  walk_at "qc"
  refine cl_invF (sp.map Spt.toU) (fun k ys A2=>∃ gs:List Spt,ys=gs.map Spt.toU/\(∀ s∈gs,s∈sp)/\gs.length<=k/\A2=updA A1 l2 (.lst ys)) ⟨[],rfl,fun s h=>(by simp at h),Nat.le_refl _,rfl⟩ (by rw [List.length_map];lia) (fun k ys A2 hq0=>by obtain ⟨gs,e,_,h,_⟩:=hq0;rw [e,List.length_map];exact h) (fun k ys A2 _ ⟨gs,_,_,_,e⟩=>⟨_,by rw [e];exact Ext.new hl2 _ _ a1,rfl⟩) ?_ ?_
  . rintro k u ys A2 hu ⟨gs,rfl,hgs,hk,rfl⟩ Cy Cn hy hn
    obtain ⟨s,hs,rfl⟩:=map_get hu
    have hsm:=List.mem_of_getElem? hs
    simp only [Spt.toU]
    walk_at "qd"
    have no:Cn (updA A1 l2 (.lst (gs.map Spt.toU))):=hn _ ⟨gs,rfl,hgs,by lia,rfl⟩
    refine iteB (fun _=>⟨tup3,rfl,rfl,iteB (fun _=>?_) fun _=>no⟩) fun _=>iteFf rfl no
    refine hy _ _ updA_same ⟨gs++[s],by rw [List.map_append];rfl,fun x hx=>?_,by rw [List.length_append,List.length_singleton];lia,by rw [updA_updA]⟩
    rcases List.mem_append.mp hx with h | h
    . exact hgs x h
    . rw [List.mem_singleton.mp h];exact hsm
  . rintro ys A2 ⟨gs,rfl,hgs,hk,rfl⟩
    walk_at "qd"
    have e2:=Ext.new (o:=.lst (gs.map Spt.toU)) hl2
    have b1:=e2 _ _ a1
    have b2:(updA A1 l2 (.lst (gs.map Spt.toU))) l2=some (.lst (gs.map Spt.toU)):=updA_same
    replace e2:=e1.trans e2
    generalize updA A1 l2 (.lst (gs.map Spt.toU))=A2 at e2 b1 b2 ⊢
    have pick:∀ xs:List Spt,0 < xs.length->∃ s,s∈xs/\atI (xs.map Spt.toU) (z / 8 % ((xs.map Spt.toU).length:Int))=some s.toU:=fun xs hx=>by
      obtain ⟨v,hv,hv2⟩:=atI_lt (xs:=xs.map Spt.toU) (i:=z / 8 % ((xs.map Spt.toU).length:Int)) (Int.emod_nonneg _ (by rw [List.length_map];lia)) (Int.emod_lt_of_pos _ (by rw [List.length_map];lia))
      obtain ⟨s,hs,rfl⟩:=map_get hv2
      exact ⟨s,List.mem_of_getElem? hs,hv⟩
    obtain ⟨s,hs1,hv1⟩:=pick sp h1
    refine ⟨⟨by decide,by decide⟩,_,b1,by rw [List.length_map];lia,_,_,b1,hv1,?_⟩
    by_cases hg0:0 < gs.length/\wl=false
    . obtain ⟨hg0,rfl⟩:=hg0
      obtain ⟨s,hs,hv⟩:=pick gs hg0
      refine if_yes (fun B hB=>?_) ?_
      . walk_at "qd"
        exact ⟨_,b2,iteTt (by rw [List.length_map];exact decide_eq_true (by lia)) hB⟩
      . walk_at "qd"
        refine ⟨⟨by decide,by decide⟩,_,b2,by rw [List.length_map];lia,_,_,b2,hv,?_⟩
        obtain ⟨k1,k2,k3⟩:=h3 s (hgs s hs)
        simp only [Spt.toU]
        walk_at "qd"
        refine ⟨by decide,fun l3 hl3=>?_⟩
        have e3:=Ext.new (o:=.lst [U.str "swap",U.str "turn"]) hl3
        have b3:(updA A2 l3 (.lst [U.str "swap",U.str "turn"])) l3=some (.lst [U.str "swap",U.str "turn"]):=updA_same
        generalize updA A2 l3 (.lst [U.str "swap",U.str "turn"])=A3 at e3 b3 ⊢
        generalize decide (s.nm=Str.ofString "ring")=b
        simp only [q_xintb]
        obtain ⟨wd,hwd,hat⟩:∃ wd:Str,PyData.strOk wd=true/\atI [U.str "swap",U.str "turn"] (if b=true then 1 else 0)=some (.str wd):=by
          cases b
          . exact ⟨"swap",by decide +kernel,rfl⟩
          . exact ⟨"turn",by decide +kernel,rfl⟩
        refine ⟨_,_,b3,hat,⟨by decide,by decide⟩,?_⟩
        walk_at "qd"
        refine ⟨Int.lt_of_lt_of_le (by decide) (Int.le_max_left _ _),?_⟩
        generalize z / 8000 % max 1 _=i
        have fin:∀ (A4:AHp) (wd:Str) (p:List Int) (i:Int),Ext A3 A4->p.length<=99->PyData.strOk wd=true->Fg Q (.tup [.str wd,.tup (p.map U.int),.int i]) A4:=fun A4 wd p i e h1 h=>fgx (e2.trans (e3.trans e)) (q ⟨wd,p,i⟩ h1 h)
        refine if_yes (fun B hB=>?_) ?_
        . walk_at "qd"
          exact hB
        . walk_at "qd"
          exact ⟨tup3,fin _ _ _ _ (Ext.refl _) (by lia) hwd⟩
    . refine if_no (fun B hB=>?_) ?_
      . walk_at "qd"
        refine ⟨_,b2,iteB (fun h=>?_) fun _=>hB⟩
        rw [List.length_map,decide_eq_true_eq] at h
        cases wl with
        | true=>exact hB
        | false=>exact absurd ⟨by lia,rfl⟩ hg0
      . obtain ⟨k1, k2,k3⟩:=h3 s hs1
        simp only [Spt.toU]
        walk_at "qd"
        refine ⟨by decide,fun l3 hl3=>?_⟩
        have e3:=Ext.new (o:=.lst [U.str "swap",U.str "turn"]) hl3
        have b3:(updA A2 l3 (.lst [U.str "swap",U.str "turn"])) l3=some (.lst [U.str "swap",U.str "turn"]):=updA_same
        generalize updA A2 l3 (.lst [U.str "swap",U.str "turn"])=A3 at e3 b3 ⊢
        generalize decide (s.nm=Str.ofString "ring")=b
        simp only [q_xintb]
        obtain ⟨wd,hwd,hat⟩:∃ wd:Str,PyData.strOk wd=true/\atI [U.str "swap",U.str "turn"] (if b=true then 1 else 0)=some (.str wd):=by
          cases b
          . exact ⟨"swap",by decide +kernel,rfl⟩
          . exact ⟨"turn",by decide +kernel,rfl⟩
        refine ⟨_,_,b3,hat,⟨by decide,by decide⟩,?_⟩
        walk_at "qd"
        refine ⟨Int.lt_of_lt_of_le (by decide) (Int.le_max_left _ _),?_⟩
        generalize z / 8000 % max 1 _=i
        have fin:∀ (A4:AHp) (wd:Str) (p:List Int) (i:Int),Ext A3 A4->p.length<=99->PyData.strOk wd=true->Fg Q (.tup [.str wd,.tup (p.map U.int),.int i]) A4:=fun A4 wd p i e h1 h=>fgx (e2.trans (e3.trans e)) (q ⟨wd,p,i⟩ h1 h)
        cases wl with
        | false =>
          refine if_yes (fun B hB=>?_) ?_
          . walk_at "qd"
            exact hB
          . walk_at "qd"
            exact ⟨tup3,fin _ _ _ _ (Ext.refl _) (by lia) hwd⟩
        | true =>
          refine if_no (fun B hB=>?_) ?_
          . walk_at "qd"
            exact hB
          simp only [↓q_next,↓q_seq]
          have c5:z % 5=0\/z % 5=1\/z % 5=2\/z % 5=3\/z % 5=4:=by lia
          rcases c5 with c | c | c | c | c
          . refine if_yes (fun B hB=>?_) ?_
            . walk_at "qd"
              exact ⟨by decide,by rw [decide_eq_true (by lia)];exact hB⟩
            . walk_at "qd"
              refine ⟨by decide,fun l4 hl4=>?_⟩
              have e4:=Ext.new (o:=.lst [U.str "turn",U.str "swap"]) hl4
              have b4:(updA A3 l4 (.lst [U.str "turn",U.str "swap"])) l4=some (.lst [U.str "turn",U.str "swap"]):=updA_same
              generalize updA A3 l4 (.lst [U.str "turn",U.str "swap"])=A4 at e4 b4 ⊢
              generalize decide (wd=Str.ofString "turn")=b2
              simp only [q_xintb]
              obtain ⟨w2,hw2,hat2⟩:∃ w2:Str,PyData.strOk w2=true/\atI [U.str "turn",U.str "swap"] (if b2=true then 1 else 0)=some (.str w2):=by
                cases b2
                . exact ⟨"turn",by decide +kernel,rfl⟩
                . exact ⟨"swap",by decide +kernel,rfl⟩
              exact ⟨_,_,b4,hat2,tup3,fin _ _ _ _ e4 (by lia) hw2⟩
          . refine if_no (fun B hB=>?_) ?_
            . walk_at "qd"
              exact ⟨by decide,by rw [decide_eq_false (by lia)];exact hB⟩
            simp only [↓q_next,↓q_seq]
            refine if_yes (fun B hB=>?_) ?_
            . walk_at "qd"
              exact ⟨by decide,by rw [decide_eq_true (by lia)];exact hB⟩
            . walk_at "qd"
              refine ⟨⟨by decide,by decide⟩,by decide,tup1,line1000 (by rw [List.length_map];show s.p.length + 1<=_;lia),tup3,?_⟩
              have:=fin A3 wd (s.p++[z / 8000 % 13 - 6]) i (Ext.refl _) (by rw [List.length_append,List.length_singleton];lia) hwd
              rw [List.map_append] at this
              exact this
          . refine if_no (fun B hB=>?_) ?_
            . walk_at "qd"
              exact ⟨by decide,by rw [decide_eq_false (by lia)];exact hB⟩
            simp only [↓q_next,↓q_seq]
            refine if_no (fun B hB=>?_) ?_
            . walk_at "qd"
              exact ⟨by decide,by rw [decide_eq_false (by lia)];exact hB⟩
            simp only [↓q_next,↓q_seq]
            refine if_no (fun B hB=>?_) ?_
            . walk_at "qd"
              exact ⟨by decide,iteFf (decide_eq_false (by lia)) hB⟩
            simp only [↓q_next,↓q_seq]
            refine if_yes (fun B hB=>?_) ?_
            . walk_at "qd"
              exact ⟨by decide,by rw [decide_eq_true (by lia)];exact hB⟩
            . walk_at "qd"
              exact ⟨⟨by decide,by decide⟩,⟨by decide,by decide,by decide⟩,by decide,tup3,fin _ _ _ _ (Ext.refl _) (by lia) hwd⟩
          . refine if_no (fun B hB=>?_) ?_
            . walk_at "qd"
              exact ⟨by decide,by rw [decide_eq_false (by lia)];exact hB⟩
            simp only [↓q_next,↓q_seq]
            refine if_no (fun B hB=>?_) ?_
            . walk_at "qd"
              exact ⟨by decide,by rw [decide_eq_false (by lia)];exact hB⟩
            simp only [↓q_next,↓q_seq]
            refine if_no (fun B hB=>?_) ?_
            . walk_at "qd"
              exact ⟨by decide,iteFf (decide_eq_false (by lia)) hB⟩
            simp only [↓q_next,↓q_seq]
            refine if_no (fun B hB=>?_) ?_
            . walk_at "qd"
              exact ⟨by decide,by rw [decide_eq_false (by lia)];exact hB⟩
            simp only [↓q_next,↓q_seq]
            refine if_yes (fun B hB=>?_) ?_
            . walk_at "qd"
              exact ⟨by decide,by rw [decide_eq_true (by lia)];exact hB⟩
            . walk_at "qd"
              generalize (!decide (s.nm=Str.ofString "ring"))=b5
              simp only [q_xintb]
              walk_at "qd"
              exact ⟨⟨by decide,by decide⟩,⟨by decide,by decide,by decide⟩,by decide,tup3,fin _ _ _ _ (Ext.refl _) (by lia) hwd⟩
          . refine if_no (fun B hB=>?_) ?_
            . walk_at "qd"
              exact ⟨by decide,by rw [decide_eq_false (by lia)];exact hB⟩
            simp only [↓q_next,↓q_seq]
            refine if_no (fun B hB=>?_) ?_
            . walk_at "qd"
              exact ⟨by decide,by rw [decide_eq_false (by lia)];exact hB⟩
            simp only [↓q_next,↓q_seq]
            by_cases hp:0 < s.p.length
            . refine if_yes (fun B hB=>?_) ?_
              . walk_at "qd"
                exact ⟨by decide,iteTt (decide_eq_true (by lia)) (by rw [List.length_map,decide_eq_true (by lia)];exact hB)⟩
              . walk_at "qd"
                obtain ⟨p0,m,hpm⟩:∃ p0 m,s.p=p0++[m]:=by
                  rcases List.eq_nil_or_concat s.p with h | ⟨a,b,h⟩
                  . rw [h] at hp;exact absurd hp (by simp)
                  . exact ⟨a,b,by rw [h];simp⟩
                have hlen:((s.p.map U.int).length:Int) - 1=(p0.length:Nat):=by rw [List.length_map,hpm,List.length_append,List.length_singleton];lia
                rw [hlen,hpm,List.map_append]
                rw [hpm,List.length_append,List.length_singleton] at k1
                walk_at "qg"
                rw [cutTo (by rw [List.length_append,List.length_map];lia),List.take_left' (by rw [List.length_map])]
                refine ⟨_,atI_nat (j:=p0.length) (by rw [List.getElem?_append_right (by rw [List.length_map];exact Nat.le_refl _),List.length_map,Nat.sub_self];rfl),?_⟩
                walk_at "qd"
                refine ⟨⟨by decide,by decide⟩,by decide,tup1,line1000 (by rw [List.length_map];show p0.length + 1<=_;lia),tup3,?_⟩
                have:=fin A3 wd (p0++[m - 1 - z / 8000 % 6]) i (Ext.refl _) (by rw [List.length_append,List.length_singleton];lia) hwd
                rw [List.map_append] at this
                exact this
            . refine if_no (fun B hB=>?_) ?_
              . walk_at "qd"
                exact ⟨by decide,iteTt (decide_eq_true (by lia)) (by rw [List.length_map,decide_eq_false (by lia)];exact hB)⟩
              simp only [↓q_next,↓q_seq]
              refine if_no (fun B hB=>?_) ?_
              . walk_at "qd"
                exact ⟨by decide,by rw [decide_eq_false (by lia)];exact hB⟩
              simp only [↓q_next,↓q_seq]
              refine if_no (fun B hB=>?_) ?_
              . walk_at "qd"
                exact ⟨by decide,by rw [decide_eq_false (by lia)];exact hB⟩
              walk_at "qd"
              exact ⟨tup3,fin _ _ _ _ (Ext.refl _) (by lia) hwd⟩
end
noncomputable def resU (w:Wr) (ss:List Stq):U:=match walkS w ss with
  | some v=>.tup [v.toU,.non]
  | none=>.tup [.non,.int (badI w ss:Nat)]
noncomputable def asp_wl:ASp:=fun us A Q=>∃ (w:Wr) (l:Addr) (ss:List Stq),us=[w.toU,.ref l]/\A l=some (.lst (ss.map Stq.toU))/\ss.length<=200/\(∀ s∈ss,s.p.length<=200)/\w.gd=true/\w.tups<=96/\Q (resU w ss) A
section
include T
theorem ok_lwalked:FnOk P w K mg base CX0 9 f_w_walked d_w_walked ["_law_writing","_law_steps"] (spOf K asp_wl):=by
  have G_walked:=ok_walked (P:=P) (w:=w) (base:=base) T
  refine' Fun.okA T.F_w_walked (sc:=?sc20) (body:=?bd20) ?hs20 ?hb20 sc_w_walked ?hB20 ?hS20
  case hs20=>conv=>lhs;whnf
  case hb20=>conv=>lhs;whnf
  case hB20=>exact fun S cdv A outer s H E hr=>⟨_,(pss_cons (ps_set (i:=2) S.nd rfl (Or.inl rfl) (pe_tup (pa_cons pe_non (pa_cons pe_non pa_nil))))
      (pss_cons (ps_tryA (i:=2) (j:=3) ⟨rfl,rfl⟩ S.nd rfl (Or.inl rfl) rfl rfl (pex_tup (pex_call (G_walked.mono (by first | decide | lia)) hr (by rfl) T.M_walked T.F_walked.kp T.B_walked (pa_cons (pv 0) (pa_cons (pv 1) pa_nil))) (pa_cons pe_non pa_nil)) (by rfl) T.m_FigureError (fun _=>(pss_cons (ps_set (i:=2) S.nd rfl (Or.inl rfl) (pe_tup (pa_cons pe_non (pa_cons pe_str pa_nil))))
      (pss_one (ps_if ((pw_and (pt_val (pe_callB c_isX (by rfl) T.n_isinstance (by decide +kernel) (pa_cons (pv 3) (pa_cons (pe_glob (v:=.ref _) (by rfl) T.m_NoStep rfl) pa_nil)))) (pw_and (pt_val (pe_callB c_isX (by rfl) T.n_isinstance (by decide +kernel) (pa_cons (pv 3) (pa_cons (pe_ty (T:="ValueError") (by rfl) T.n_ValueError (by decide +kernel)) pa_nil)))) (pw_and1 (pt_not (pt_val (pe_callB c_isX (by rfl) T.n_isinstance (by decide +kernel) (pa_cons (pv 3) (pa_cons (pe_tup (pa_cons (pe_glob (v:=.ref _) (by rfl) T.m_NoFit rfl) (pa_cons (pe_glob (v:=.ref _) (by rfl) T.m_TooMany rfl) pa_nil))) pa_nil))))))))).pt (pss_one (ps_set (i:=2) S.nd rfl (Or.inl rfl) (pe_tup (pa_cons pe_non (pa_cons (pe_xfld (pv 3) rfl) pa_nil))))) pss_nil)))))
      (pss_one (ps_ret (pv 2))))),(ab_seq (ab_asg (ab_tup (ab_cons ab_non (ab_cons ab_non ab_nil))) ab_name)
      (ab_seq (ab_tryA (abx_tup (abx_call (ab_cons ab_var (ab_cons ab_var ab_nil))) (ab_cons ab_non ab_nil)) (ab_seq (ab_asg (ab_tup (ab_cons ab_non (ab_cons ab_str ab_nil))) ab_name)
      (ab_ifs (ab_and (ab_tb (ab_cb ab_isX (ab_cons ab_var (ab_cons ab_ref ab_nil)))) (ab_and (ab_tb (ab_cb ab_isX (ab_cons ab_var (ab_cons ab_ty ab_nil)))) (ab_not (ab_tb (ab_cb ab_isX (ab_cons ab_var (ab_cons (ab_tup (ab_cons ab_ref (ab_cons ab_ref ab_nil))) ab_nil))))))) (ab_asg (ab_tup (ab_cons ab_non (ab_cons (ab_xfld ab_var) ab_nil))) ab_name) ab_next)))
      (ab_ret ab_var)))⟩
  rintro us A Q ⟨w,l,ss,rfl,hl,hn,hn2,hg,ht,q⟩
  refine ⟨rfl,?_⟩
  walk_at "qs"
  walk_at "qd"
  refine ⟨tup2,w,l,ss,rfl,hl,hn,hn2,hg,ht,fun v hv=>⟨tup2,fg ?_⟩,fun hv=>⟨T.Y_NoStep_FigureError,fun a dx ha hd hne=>?_⟩⟩
  . unfold resU at q;rw [hv] at q;exact q
  . unfold resU at q;rw [hv] at q
    have e0:Ext A (updA (updA A dx (oXd [("at",.int (badI w ss:Nat))])) a (oX a_NoStep dx)):=(Ext.new hd).in ha
    have e1:(updA (updA A dx (oXd [("at",.int (badI w ss:Nat))])) a (oX a_NoStep dx)) a=some (oX a_NoStep dx):=updA_same
    have e2:(updA (updA A dx (oXd [("at",.int (badI w ss:Nat))])) a (oX a_NoStep dx)) dx=some (oXd [("at",.int (badI w ss:Nat))]):=by rw [updA_ne hne.symm];exact updA_same
    generalize updA (updA A dx (oXd [("at",.int (badI w ss:Nat))])) a (oX a_NoStep dx)=A1 at e0 e1 e2 ⊢
    refine ⟨tup2,a,a_NoStep,dx,_,_,true,rfl,e1,e2,T.X_NoStep,.inl ⟨_,rfl,T.XI_0⟩,_,rfl,iteTt rfl ?_⟩
    refine ⟨a,a_NoStep,dx,_,_,true,rfl,e1,e2,T.X_NoStep,.inr (.inl ⟨_,rfl,T.XI_1⟩),_,rfl,iteTt rfl ?_⟩
    refine ⟨tup2,a,a_NoStep,dx,_,_,false,rfl,e1,e2,T.X_NoStep,.inr (.inr ⟨[a_NoFit,a_TooMany],rfl,T.XI_2⟩),_,rfl,iteTt rfl ?_⟩
    refine ⟨a,a_NoStep,dx,_,_,rfl,e1,e2,T.X_NoStep,T.N_NoStep_at,rfl,?_⟩
    walk_at "qd"
    exact ⟨tup2,fgx e0 q⟩
theorem ok_law : FnOk P w K mg base CX0 200 f_law d_law ["_law_script"] (spOf K aspLaw):=by
  have G_w_mix:=ok_mix (P:=P) (w:=w) (base:=base) T
  have G_w_any:=ok_any (P:=P) (w:=w) (base:=base) T
  have G_w_cell:=ok_cell (P:=P) (w:=w) (base:=base) T
  have G_w_step:=ok_step (P:=P) (w:=w) (base:=base) T
  have G_w_done:=ok_done (P:=P) (w:=w) (base:=base) T 101
  have G_w_walked:=ok_lwalked (P:=P) (w:=w) (base:=base) T
  have G_walked:=ok_walked (P:=P) (w:=w) (base:=base) T
  refine' Fun.okA T.F_law (sc:=?sc21) (body:=?bd21) ?hs21 ?hb21 sc_law ?hB21 ?hS21
  case hs21=>conv=>lhs;whnf
  case hb21=>conv=>lhs;whnf
  case hB21=>exact fun S cdv A outer s H E hr=>⟨_,(pss_cons (ps_set (i:=0) S.nd rfl (Or.inl rfl) (pe_call (G_w_mix.mono (by first | decide | lia)) hr (by rfl) T.M_w_mix T.F_w_mix.kp T.B_w_mix .nil pass0 (pa_cons (pv 0) pa_nil)))
      (pss_cons (ps_set (i:=1) S.nd rfl (Or.inl rfl) (pe_call (G_w_any.mono (by first | decide | lia)) hr (by rfl) T.M_w_any T.F_w_any.kp T.B_w_any .nil pass0 (pa_cons (pe_slice o_slW (pv 0) (po_some pe_int) (po_some pe_int)) pa_nil)))
      (pss_cons (ps_set (i:=2) S.nd rfl (Or.inl rfl) (pe_cmpR (o_eqD hr) (pe_op o_mod (pe_call (G_w_cell.mono (by first | decide | lia)) hr (by rfl) T.M_w_cell T.F_w_cell.kp T.B_w_cell .nil pass0 (pa_cons (pv 0) (pa_cons pe_int pa_nil))) pe_int) pe_int (nomark _)))
      (pss_cons (ps_set (i:=3) S.nd rfl (Or.inl rfl) (pv 1))
      (pss_cons (ps_set (i:=4) S.nd rfl (Or.inl rfl) (pe_lst pa_nil))
      (pss_cons (ps_set (i:=5) S.nd rfl (Or.inl rfl) pe_non)
      (pss_cons (ps_for PassesOwn.never rfl (pj_enumS (by rfl) T.n_enumerate (pa_cons (pe_slice o_slW (pv 0) (po_some pe_int) (po_some pe_int)) pa_nil)) (pg_tup (n:=2) rfl (pgs_cons (pg_name (i:=6) S.nd rfl (Or.inl rfl)) (pgs_cons (pg_name (i:=7) S.nd rfl (Or.inl rfl)) pgs_nil)))
      (pss_cons (ps_set (i:=8) S.nd rfl (Or.inl rfl) (pe_call (G_w_step.mono (by first | decide | lia)) hr (by rfl) T.M_w_step T.F_w_step.kp T.B_w_step .nil pass0 (pa_cons (pv 3) (pa_cons (pe_op o_mod (pv 7) (pe_op o_pow pe_int pe_int)) (pa_cons (pe_and (pv 2) (pe_one (pe_cmpR (o_eqD hr) (pe_op o_mod (pe_op o_fdiv (pv 7) pe_int) pe_int) pe_int (nomark _)))) pa_nil)))))
      (pss_cons (ps_expr (pe_bm PySem.F.plainAttrs_list PySem.F.slot_list_append PySem.F.type_list_append mt_append (pv 4) (pa_cons (pv 8) pa_nil)))
      (pss_cons (ps_set (i:=9) S.nd rfl (Or.inl rfl) (pe_call (G_w_done.mono (by first | decide | lia)) hr (by rfl) T.M_w_done T.F_w_done.kp T.B_w_done .nil pass0 (pa_cons (pv 3) (pa_cons (pe_ix o_ix (pv 8) pe_int (fun _ _=>rfl)) (pa_cons (pe_ix o_ix (pv 8) pe_int (fun _ _=>rfl)) (pa_cons (pe_ix o_ix (pv 8) pe_int (fun _ _=>rfl)) pa_nil))))))
      (pss_cons (ps_if ((pw_and (pt_cmpR op_isN (pv 9) pe_non (nomark _)) (pw_and1 (pt_cmpR op_isN (pv 5) pe_non (nomark _))))).pt (pss_one (ps_set (i:=5) S.nd rfl (Or.inl rfl) (pv 6))) pss_nil)
      (pss_one (ps_if ((pw_and (pt_cmpR op_notN (pv 9) pe_non (nomark _)) (pw_and1 (pt_cmpR op_isN (pv 5) pe_non (nomark _))))).pt (pss_one (ps_set (i:=3) S.nd rfl (Or.inl rfl) (pv 9))) pss_nil)))))))
      (pss_cons (ps_set (i:=10) S.nd rfl (Or.inl rfl) (pe_tup (pa_cons (pv 3) (pa_cons pe_non pa_nil))))
      (pss_cons (ps_if (pt_cmpR op_notN (pv 5) pe_non (nomark _)) (pss_one (ps_set (i:=10) S.nd rfl (Or.inl rfl) (pe_tup (pa_cons pe_non (pa_cons (pv 5) pa_nil))))) pss_nil)
      (pss_cons (ps_set (i:=11) S.nd rfl (Or.inl rfl) (pe_callTy c_list (by rfl) T.n_list (by decide +kernel) (pa_cons (pv 4) pa_nil)))
      (pss_cons (ps_set (i:=12) S.nd rfl (Or.inl rfl) (pe_call (G_w_walked.mono (by first | decide | lia)) hr (by rfl) T.M_w_walked T.F_w_walked.kp T.B_w_walked .nil pass0 (pa_cons (pv 1) (pa_cons (pv 11) pa_nil))))
      (pss_cons (ps_if ((pw_or (pt_cmpR (o_neD hr) (pv 12) (pv 10) (nomark _)) (pw_or (pt_val (pe_callB c_isW (by rfl) T.n_isinstance (by decide +kernel) (pa_cons (pe_ix o_ix (pv 12) pe_int (fun _ _=>rfl)) (pa_cons (pe_ty (T:="bool") (by rfl) T.n_bool (by decide +kernel)) pa_nil)))) (pw_or1 (pt_cmpR (o_neD hr) (pv 11) (pv 4) (nomark _)))))).pt (pss_one (ps_ret pe_bl)) pss_nil)
      (pss_one (ps_ret (pe_and (pe_cmpR (o_eqD hr) (pe_call (G_w_walked.mono (by first | decide | lia)) hr (by rfl) T.M_w_walked T.F_w_walked.kp T.B_w_walked .nil pass0 (pa_cons (pv 1) (pa_cons (pv 11) pa_nil))) (pv 10) (nomark _)) (pe_one (pe_cmpR (o_eqD hr) (pe_call (G_walked.mono (by first | decide | lia)) hr (by rfl) T.M_walked T.F_walked.kp T.B_walked .nil passN (pa_cons (pv 1) (pa_cons (pe_lst pa_nil) pa_nil))) (pv 1) (nomark _)))))))))))))))))),(ab_seq (ab_asg (ab_call (ab_cons ab_var ab_nil)) ab_name)
      (ab_seq (ab_asg (ab_call (ab_cons (ab_sl ab_xsl ab_var (ab_part ab_int) (ab_part ab_int)) ab_nil)) ab_name)
      (ab_seq (ab_asg (ab_op ab_eq (ab_op ab_mod (ab_call (ab_cons ab_var (ab_cons ab_int ab_nil))) ab_int) ab_int) ab_name)
      (ab_seq (ab_asg ab_var ab_name)
      (ab_seq (ab_asg (ab_lst ab_nil) ab_name)
      (ab_seq (ab_asg ab_non ab_name)
      (ab_seq (ab_for (ab_jargs ab_yenumS (ab_cons (ab_sl ab_xsl ab_var (ab_part ab_int) (ab_part ab_int)) ab_nil)) (ab_gtup (ab_gcons ab_name (ab_gcons ab_name ab_gnil)))
      (ab_seq (ab_asg (ab_call (ab_cons ab_var (ab_cons (ab_op ab_mod ab_var (ab_op ab_pow ab_int ab_int)) (ab_cons (ab_andv ab_var (ab_op ab_eq (ab_op ab_mod (ab_op ab_div ab_var ab_int) ab_int) ab_int)) ab_nil)))) ab_name)
      (ab_seq (ab_drop (ab_bm ab_isLst ab_mapp ab_var (ab_cons ab_var ab_nil)))
      (ab_seq (ab_asg (ab_call (ab_cons ab_var (ab_cons (ab_op ab_ix ab_var ab_int) (ab_cons (ab_op ab_ix ab_var ab_int) (ab_cons (ab_op ab_ix ab_var ab_int) ab_nil))))) ab_name)
      (ab_seq (ab_ifH (ab_and (ab_test (ab_op ab_isN ab_var ab_non)) (ab_test (ab_op ab_isN ab_var ab_non))) (ab_asg ab_var ab_name) ab_next)
      (ab_ifH (ab_and (ab_test (ab_op ab_notN ab_var ab_non)) (ab_test (ab_op ab_isN ab_var ab_non))) (ab_asg ab_var ab_name) ab_next))))))
      (ab_seq (ab_asg (ab_tup (ab_cons ab_var (ab_cons ab_non ab_nil))) ab_name)
      (ab_seq (ab_ifH (ab_test (ab_op ab_notN ab_var ab_non)) (ab_asg (ab_tup (ab_cons ab_non (ab_cons ab_var ab_nil))) ab_name) ab_next)
      (ab_seq (ab_asg (ab_cb ab_listof (ab_cons ab_var ab_nil)) ab_name)
      (ab_seq (ab_asg (ab_call (ab_cons ab_var (ab_cons ab_var ab_nil))) ab_name)
      (ab_seq (ab_ifH (ab_or (ab_test (ab_op ab_ne ab_var ab_var)) (ab_or (ab_tb (ab_cb ab_isi (ab_cons (ab_op ab_ix ab_var ab_int) (ab_cons ab_ty ab_nil)))) (ab_test (ab_op ab_ne ab_var ab_var)))) (ab_ret ab_bl) ab_next)
      (ab_ret (ab_andv (ab_op ab_eq (ab_call (ab_cons ab_var (ab_cons ab_var ab_nil))) ab_var) (ab_op ab_eq (ab_callN (ab_cons ab_var (ab_cons (ab_lst ab_nil) ab_nil))) ab_var)))))))))))))))⟩
  rintro us A Q ⟨ns,rfl,hk,q⟩
  refine ⟨rfl,?_⟩
  walk_at "qs"
  walk_at "qd"
  refine ⟨ns,rfl,hk,fun l0 ms hl0 hm=>?_⟩
  have a0:(updA A l0 (.lst (ms.map U.int))) l0=some (.lst (ms.map U.int)):=updA_same
  generalize updA A l0 (.lst (ms.map U.int))=A0 at a0 ⊢
  walk_at "qd"
  refine ⟨_,a0,fun l1 hl1=>?_⟩
  obtain ⟨zs,ez,hz⟩:=cut_int ms 2 30
  have ez:cutU (ms.map U.int) (some 2) (some 30)=zs.map U.int:=ez
  rw [ez]
  have a1:=Ext.new (o:=.lst (zs.map U.int)) hl1 _ _ a0
  have c1:(updA A0 l1 (.lst (zs.map U.int))) l1=some (.lst (zs.map U.int)):=updA_same
  generalize updA A0 l1 (.lst (zs.map U.int))=A1 at a1 c1 ⊢
  refine ⟨l1,zs,rfl,c1,by lia,fun k ps hg ht hpl=>?_⟩
  walk_at "qd"
  refine ⟨l0,ms,0,rfl,a1,by decide,fun z0=>?_⟩
  walk_at "qd"
  refine ⟨by decide,by decide,fun ls hls=>?_⟩
  have a2:=Ext.new (o:=.lst []) hls _ _ a1
  have n02:l0≠ls:=neA a1 hls
  have c2:(updA A1 ls (.lst [])) ls=some (.lst []):=updA_same
  generalize updA A1 ls (.lst [])=A2 at a2 c2 ⊢
  refine ⟨_,a2,fun l2 hl2=>?_⟩
  obtain ⟨ys,ey,hy⟩:=cut_int ms 30 63
  have ey:cutU (ms.map U.int) (some 30) (some 63)=ys.map U.int:=ey
  rw [ey]
  have c3:=Ext.new (o:=.lst (ys.map U.int)) hl2 _ _ c2
  have d3:(updA A2 l2 (.lst (ys.map U.int))) l2=some (.lst (ys.map U.int)):=updA_same
  have n22:l2≠ls:=(neA c2 hl2).symm
  generalize updA A2 l2 (.lst (ys.map U.int))=A3 at c3 d3 ⊢
  generalize decide (z0 % 2=1)=wl
  refine ⟨⟨_,d3⟩,for_enumA (ys.map U.int) (fun n ρ A2=>A2 l2=some (.lst (ys.map U.int))/\∃ (ps':List Wr) (ss:List Stq) (bu:U) (r6 r7 r8 r9 r10 r11 r12:Option U),ρ=[some (.ref l0),some (Wr.many k ps).toU,some (.bl wl),some (Wr.many k ps').toU,some (.ref ls),some bu,r6,r7,r8,r9,r10,r11,r12]/\A2 ls=some (.lst (ss.map Stq.toU))/\ss.length=n/\okQ ss/\(Wr.many k ps').gd=true/\(Wr.many k ps').tups<=94 /\
      ((bu=.non/\walkS (.many k ps) ss=some (.many k ps'))\/(bu=.int (badI (.many k ps) ss:Nat)/\walkS (.many k ps) ss=none)))
    ⟨d3,ps,[],_,_,_,_,_,_,_,_,rfl,c3,rfl,fun s h=>(by simp at h),hg,ht,.inl ⟨rfl,rfl⟩⟩ (fun n ρ A2 _ h=>h.1) (fun n u ρ A4 hu h=>?_) (fun ρ A4 h=>?_)⟩
  . obtain ⟨e2, ps',ss,bu,r6,r7,r8,r9,r10,r11,r12,rfl,es,hn,ho,hg',ht',hb⟩:=h
    have hnl:=(List.getElem?_eq_some_iff.mp hu).1
    rw [List.length_map] at hnl
    obtain ⟨c,_,rfl⟩:=map_get hu
    walk_at "qd"
    refine ⟨rfl,⟨by decide,by decide,by decide⟩,by decide,iteB (fun _=>?_) fun _=>?_⟩
    . refine ⟨⟨by decide,by decide⟩,by decide,.many k ps',_,_,rfl,hg',by lia,Int.emod_nonneg _ (by decide),fun s hs1 hs2=>?_⟩
      obtain ⟨wd,p,i⟩:=s
      simp only [Stq.toU]
      walk_at "qd"
      refine ⟨⟨_,es⟩,_,es,line1000' (by rw [List.length_map];lia),_,wd,p,i,rfl,hg',by lia,by show p.length < 101;have:p.length<=99:=hs1;lia,?_⟩
      have es':(updA A4 ls (.lst (ss.map Stq.toU++[.tup [.str wd,.tup (p.map U.int),.int i]]))) ls=some (.lst ((ss++[(⟨wd,p,i⟩:Stq)]).map Stq.toU)):=by rw [updA_same,List.map_append];rfl
      have e2':(updA A4 ls (.lst (ss.map Stq.toU++[.tup [.str wd,.tup (p.map U.int),.int i]]))) l2=some (.lst (ys.map U.int)):=by rw [updA_ne n22];exact e2
      generalize updA A4 ls (.lst (ss.map Stq.toU++[.tup [.str wd,.tup (p.map U.int),.int i]]))=A5 at es' e2' ⊢
      have hn':(ss++[(⟨wd,p,i⟩:Stq)]).length=n + 1:=by rw [List.length_append,List.length_singleton,hn]
      have ho':okQ (ss++[(⟨wd,p,i⟩:Stq)]):=ho.app fun x hx=>by rw [List.mem_singleton.mp hx];exact ⟨Nat.le_trans hs1 (by decide),hs2⟩
      rcases hb with ⟨rfl,hw⟩ | ⟨rfl,hw⟩
      . cases ha:(Wr.many k ps').act wd i p with
        | none =>
          refine if_yes (fun B hB=>?_) ?_
          . walk_at "qd"
            exact iteTt rfl hB
          . walk_at "qd"
            refine if_no (fun B hB=>?_) ?_
            . walk_at "qd"
              exact iteFf rfl hB
            . refine ⟨e2',ps',ss++[⟨wd,p,i⟩],_,_,_,_,_,_,_,_,rfl,es',hn',ho',hg',ht',.inr ⟨?_,?_⟩⟩
              . rw [bad_at (k:=n) (v:=.many k ps') (s:=⟨wd,p,i⟩) (by rw [<- hn,List.take_left' rfl];exact hw) (by rw [<- hn,List.getElem?_append_right (Nat.le_refl _),Nat.sub_self];rfl) ha]
              . rw [walk_app hw];exact ha
        | some x =>
          obtain ⟨x1,x2,x3⟩:=act_keeps ha hg'
          obtain ⟨ps2,rfl,x4⟩:=x3 k ps' rfl
          refine if_no (fun B hB=>?_) ?_
          . walk_at "qd"
            exact iteFf (by rw [optU,Wr.toU_many];rfl) hB
          . simp only [↓q_next]
            refine if_yes (fun B hB=>?_) ?_
            . walk_at "qd"
              exact iteTt (by rw [optU,Wr.toU_many];rfl) hB
            . walk_at "qd"
              exact ⟨e2',ps2,ss++[⟨wd,p,i⟩],_,_,_,_,_,_,_,_,rfl,es',hn',ho',x1,by lia,.inl ⟨rfl,by rw [walk_app hw];exact ha⟩⟩
      . obtain ⟨w1,w2⟩:=walk_noneA ss [⟨wd,p,i⟩] _ hw
        refine if_no (fun B hB=>?_) ?_
        . walk_at "qd"
          exact iteB (fun _=>hB) fun _=>hB
        . simp only [↓q_next]
          refine if_no (fun B hB=>?_) ?_
          . walk_at "qd"
            exact iteB (fun _=>hB) fun _=>hB
          . exact ⟨e2',ps',ss++[⟨wd,p,i⟩],_,_,_,_,_,_,_,_,rfl,es',hn',ho',hg',ht',.inr ⟨by rw [w2],w1⟩⟩
    . refine ⟨.many k ps',_,_,rfl,hg',by lia,Int.emod_nonneg _ (by decide),fun s hs1 hs2=>?_⟩
      obtain ⟨wd,p,i⟩:=s
      simp only [Stq.toU]
      walk_at "qd"
      refine ⟨⟨_,es⟩,_,es,line1000' (by rw [List.length_map];lia),_,wd,p,i,rfl,hg',by lia,by show p.length < 101;have:p.length<=99:=hs1;lia,?_⟩
      have es':(updA A4 ls (.lst (ss.map Stq.toU++[.tup [.str wd,.tup (p.map U.int),.int i]]))) ls=some (.lst ((ss++[(⟨wd,p,i⟩:Stq)]).map Stq.toU)):=by rw [updA_same,List.map_append];rfl
      have e2':(updA A4 ls (.lst (ss.map Stq.toU++[.tup [.str wd,.tup (p.map U.int),.int i]]))) l2=some (.lst (ys.map U.int)):=by rw [updA_ne n22];exact e2
      generalize updA A4 ls (.lst (ss.map Stq.toU++[.tup [.str wd,.tup (p.map U.int),.int i]]))=A5 at es' e2' ⊢
      have hn':(ss++[(⟨wd,p,i⟩:Stq)]).length=n + 1:=by rw [List.length_append,List.length_singleton,hn]
      have ho':okQ (ss++[(⟨wd,p,i⟩:Stq)]):=ho.app fun x hx=>by rw [List.mem_singleton.mp hx];exact ⟨Nat.le_trans hs1 (by decide),hs2⟩
      rcases hb with ⟨rfl,hw⟩ | ⟨rfl,hw⟩
      . cases ha:(Wr.many k ps').act wd i p with
        | none =>
          refine if_yes (fun B hB=>?_) ?_
          . walk_at "qd"
            exact iteTt rfl hB
          . walk_at "qd"
            refine if_no (fun B hB=>?_) ?_
            . walk_at "qd"
              exact iteFf rfl hB
            . refine ⟨e2',ps',ss++[⟨wd,p,i⟩],_,_,_,_,_,_,_,_,rfl,es',hn',ho',hg',ht',.inr ⟨?_,?_⟩⟩
              . rw [bad_at (k:=n) (v:=.many k ps') (s:=⟨wd,p,i⟩) (by rw [<- hn,List.take_left' rfl];exact hw) (by rw [<- hn,List.getElem?_append_right (Nat.le_refl _),Nat.sub_self];rfl) ha]
              . rw [walk_app hw];exact ha
        | some x =>
          obtain ⟨x1,x2,x3⟩:=act_keeps ha hg'
          obtain ⟨ps2,rfl,x4⟩:=x3 k ps' rfl
          refine if_no (fun B hB=>?_) ?_
          . walk_at "qd"
            exact iteFf (by rw [optU,Wr.toU_many];rfl) hB
          . simp only [↓q_next]
            refine if_yes (fun B hB=>?_) ?_
            . walk_at "qd"
              exact iteTt (by rw [optU,Wr.toU_many];rfl) hB
            . walk_at "qd"
              exact ⟨e2',ps2,ss++[⟨wd,p,i⟩],_,_,_,_,_,_,_,_,rfl,es',hn',ho',x1,by lia,.inl ⟨rfl,by rw [walk_app hw];exact ha⟩⟩
      . obtain ⟨w1,w2⟩:=walk_noneA ss [⟨wd,p,i⟩] _ hw
        refine if_no (fun B hB=>?_) ?_
        . walk_at "qd"
          exact iteB (fun _=>hB) fun _=>hB
        . simp only [↓q_next]
          refine if_no (fun B hB=>?_) ?_
          . walk_at "qd"
            exact iteB (fun _=>hB) fun _=>hB
          . exact ⟨e2',ps',ss++[⟨wd,p,i⟩],_,_,_,_,_,_,_,_,rfl,es',hn',ho',hg',ht',.inr ⟨by rw [w2],w1⟩⟩
  . obtain ⟨e2,ps',ss,bu,r6,r7,r8,r9,r10,r11,r12,rfl,es,hn,ho,hg',ht',hb⟩:=h
    rw [List.length_map] at hn
    walk_at "qd"
    rcases hb with ⟨rfl,hw⟩ | ⟨rfl,hw⟩
    . have hres:resU (.many k ps) ss=.tup [(Wr.many k ps').toU,.non]:=by unfold resU;rw [hw]
      have hdat:∃ d:PyData,(∀ A:AHp,DU A (.tup [(Wr.many k ps').toU,.non]) d)/\d.canLay0=true/\d.depth<=190:=by
        refine ⟨.tuple [(Wr.many k ps').toD,.none],fun A=>.tup (.cons (Wr.many k ps').duW (.cons .non .nil)),?_,?_⟩
        . simp [PyData.canLay0,PyData.canLayAll0,(Wr.many k ps').can ((Wr.many k ps').gd_ok hg')]
        . have h1:=(Wr.many k ps').deep
          have h2:=(Wr.many k ps').dep_le
          simp only [PyData.depth,PyData.depthAll]
          lia
      refine ⟨tup2,if_no (fun B hB=>?_) ?_⟩
      . walk_at "qd"
        exact hB
      . skip
        walk_at "qd"
        refine ⟨_,es,fun lh hlh=>⟨_,lh,ss,rfl,updA_same,by lia,fun s hs=>by have:=(ho s hs).1;lia,hg,by lia,?_⟩⟩
        have eh:=Ext.new (o:=.lst (ss.map Stq.toU)) hlh
        have bh:(updA A4 lh (.lst (ss.map Stq.toU))) lh=some (.lst (ss.map Stq.toU)):=updA_same
        have bs:=eh _ _ es
        generalize updA A4 lh (.lst (ss.map Stq.toU))=A5 at eh bh bs ⊢
        rw [hres]
        obtain ⟨d,hdu,hdc,hdd⟩:=hdat
        refine if_no (fun B hB=>?_) ?_
        . walk_at "qd"
          refine deep_same (hdu _) (hdu _) hdc hdd ⟨_,rfl,iteFf rfl ⟨.inr (.inl trivial),trivial,iteFf rfl ?_⟩⟩
          exact stqs_same (fun s hs=>(ho s hs).2) bh bs ⟨_,rfl,hB⟩
        . walk_at "qd"
          refine ⟨_,lh,ss,rfl,bh,by lia,fun s hs=>by have:=(ho s hs).1;lia,hg,by lia,?_⟩
          rw [hres]
          walk_at "qd"
          refine deep_same (hdu _) (hdu _) hdc hdd ⟨_,rfl,iteTt rfl ⟨by decide,fun l5 hl5=>⟨_,l5,[],rfl,updA_same,by decide,fun s h=>(by simp at h),hg,by lia,fun v hv=>?_,fun h=>by cases h⟩⟩⟩
          cases hv
          have hc:=(Wr.many k ps).can ((Wr.many k ps).gd_ok hg)
          have q':xDeep false (Wr.many k ps).toU (Wr.many k ps).toU (updA A5 l5 (.lst [])) (Fg Q):=deep_same (Wr.many k ps).duW (Wr.many k ps).duW hc (Nat.le_trans (Wr.many k ps).deep (by have:=(Wr.many k ps).dep_le;lia)) (fg (q _))
          rw [Wr.toU_many] at q' ⊢
          exact q'
    . have hres:resU (.many k ps) ss=.tup [.non,.int (badI (.many k ps) ss:Nat)]:=by unfold resU;rw [hw]
      have hdat:∃ d:PyData,(∀ A:AHp,DU A (.tup [.non,.int (badI (.many k ps) ss:Nat)]) d)/\d.canLay0=true/\d.depth<=190 :=
        ⟨.tuple [.none,.int (badI (.many k ps) ss:Nat)],fun A=>.tup (.cons .non (.cons (.int _) .nil)),by simp [PyData.canLay0,PyData.canLayAll0],by simp [PyData.depth,PyData.depthAll]⟩
      refine ⟨tup2,if_yes (fun B hB=>?_) ?_⟩
      . walk_at "qd"
        exact hB
      . walk_at "qd"
        refine ⟨tup2,?_⟩
        walk_at "qd"
        refine ⟨_,es,fun lh hlh=>⟨_,lh,ss,rfl,updA_same,by lia,fun s hs=>by have:=(ho s hs).1;lia,hg,by lia,?_⟩⟩
        have eh:=Ext.new (o:=.lst (ss.map Stq.toU)) hlh
        have bh:(updA A4 lh (.lst (ss.map Stq.toU))) lh=some (.lst (ss.map Stq.toU)):=updA_same
        have bs:=eh _ _ es
        generalize updA A4 lh (.lst (ss.map Stq.toU))=A5 at eh bh bs ⊢
        rw [hres]
        obtain ⟨d,hdu,hdc,hdd⟩:=hdat
        refine if_no (fun B hB=>?_) ?_
        . walk_at "qd"
          refine deep_same (hdu _) (hdu _) hdc hdd ⟨_,rfl,iteFf rfl ⟨.inr (.inl trivial),trivial,iteFf rfl ?_⟩⟩
          exact stqs_same (fun s hs=>(ho s hs).2) bh bs ⟨_,rfl,hB⟩
        . walk_at "qd"
          refine ⟨_,lh,ss,rfl,bh,by lia,fun s hs=>by have:=(ho s hs).1;lia,hg,by lia,?_⟩
          rw [hres]
          walk_at "qd"
          refine deep_same (hdu _) (hdu _) hdc hdd ⟨_,rfl,iteTt rfl ⟨by decide,fun l5 hl5=>⟨_,l5,[],rfl,updA_same,by decide,fun s h=>(by simp at h),hg,by lia,fun v hv=>?_,fun h=>by cases h⟩⟩⟩
          cases hv
          have hc:=(Wr.many k ps).can ((Wr.many k ps).gd_ok hg)
          have q':xDeep false (Wr.many k ps).toU (Wr.many k ps).toU (updA A5 l5 (.lst [])) (Fg Q):=deep_same (Wr.many k ps).duW (Wr.many k ps).duW hc (Nat.le_trans (Wr.many k ps).deep (by have:=(Wr.many k ps).dep_le;lia)) (fg (q _))
          rw [Wr.toU_many] at q' ⊢
          exact q'
end
theorem all_mk {l:PySem.W.OpenLaw} {w:World} {K:PySem.W.Frag} {h:Heap} {mg:Str->Option Value} {fa:Addr} {a_NoStep a_FigureError a_NoFit a_TooMany:Addr} {f_NoStep___init__ f_parts_of f_made_of f_part_at f_walked f_after_step f_swapped f_turned f_put_at f_w_mix f_w_cell f_w_tuples f_w_put f_w_any f_w_parts f_w_with f_w_at_top f_w_done f_w_paths f_w_step f_w_walked f_law:Addr} {od_NoStep___init__ an_NoStep___init__ od_parts_of an_parts_of od_made_of an_made_of od_part_at an_part_at od_walked an_walked od_after_step an_after_step od_swapped an_swapped od_turned an_turned od_put_at an_put_at od_w_mix an_w_mix od_w_cell an_w_cell od_w_tuples an_w_tuples od_w_put an_w_put od_w_any an_w_any od_w_parts an_w_parts od_w_with an_w_with od_w_at_top an_w_at_top od_w_done an_w_done od_w_paths an_w_paths od_w_step an_w_step od_w_walked an_w_walked od_law an_law:Option Addr} {sl_NoStep___init__ sl_parts_of sl_made_of sl_part_at sl_walked sl_after_step sl_swapped sl_turned sl_put_at sl_w_mix sl_w_cell sl_w_tuples sl_w_put sl_w_any sl_w_parts sl_w_with sl_w_at_top sl_w_done sl_w_paths sl_w_step sl_w_walked sl_law:Array (Option Value)} {oc_NoStep___init__ kV_NoStep___init__ dc_NoStep___init__ pm_NoStep___init__ ct_NoStep___init__ cd_NoStep___init__ oc_parts_of kV_parts_of dc_parts_of pm_parts_of ct_parts_of cd_parts_of oc_made_of kV_made_of dc_made_of pm_made_of ct_made_of cd_made_of oc_part_at kV_part_at dc_part_at pm_part_at ct_part_at cd_part_at oc_walked kV_walked dc_walked pm_walked ct_walked cd_walked oc_after_step kV_after_step dc_after_step pm_after_step ct_after_step cd_after_step oc_swapped kV_swapped dc_swapped pm_swapped ct_swapped cd_swapped oc_turned kV_turned dc_turned pm_turned ct_turned cd_turned oc_put_at kV_put_at dc_put_at pm_put_at ct_put_at cd_put_at oc_w_mix kV_w_mix dc_w_mix pm_w_mix ct_w_mix cd_w_mix oc_w_cell kV_w_cell dc_w_cell pm_w_cell ct_w_cell cd_w_cell oc_w_tuples kV_w_tuples dc_w_tuples pm_w_tuples ct_w_tuples cd_w_tuples oc_w_put kV_w_put dc_w_put pm_w_put ct_w_put cd_w_put oc_w_any kV_w_any dc_w_any pm_w_any ct_w_any cd_w_any oc_w_parts kV_w_parts dc_w_parts pm_w_parts ct_w_parts cd_w_parts oc_w_with kV_w_with dc_w_with pm_w_with ct_w_with cd_w_with oc_w_at_top kV_w_at_top dc_w_at_top pm_w_at_top ct_w_at_top cd_w_at_top oc_w_done kV_w_done dc_w_done pm_w_done ct_w_done cd_w_done oc_w_paths kV_w_paths dc_w_paths pm_w_paths ct_w_paths cd_w_paths oc_w_step kV_w_step dc_w_step pm_w_step ct_w_step cd_w_step oc_w_walked kV_w_walked dc_w_walked pm_w_walked ct_w_walked cd_w_walked oc_law kV_law dc_law pm_law ct_law cd_law:Value} {a_MANY:Addr} {oc_MANY:Value} {od_MANY:Option Addr} {is_MANY:Array Value} {sn_MANY:Nat} {sl_MANY:Array (Option Value)} (X:K.In h) (G:h.Ns mainGlobals mg) (hfa:mg "law"=some (.ref fa))
 (l_NoStep___init__:K.lookup f_NoStep___init__=some ⟨oc_NoStep___init__,od_NoStep___init__,.func (PySem.W.fnOf "__init__" "NoStep.__init__" (defArgs s_NoStep___init__) (defBody s_NoStep___init__) (defScope s_NoStep___init__) .none kV_NoStep___init__ dc_NoStep___init__ pm_NoStep___init__ an_NoStep___init__ cd_NoStep___init__ ct_NoStep___init__),sl_NoStep___init__⟩) (x_NoStep___init__:PySem.W.codeIn K cd_NoStep___init__ "NoStep.__init__"=true) (k_NoStep___init__:PySem.W.keepIn K (.ref f_NoStep___init__)=true) (K_NoStep:XCl K a_NoStep f_NoStep___init__)
    (a_parts_of:PySem.W.nsIn K mainGlobals "parts_of"=some (some (.ref f_parts_of))) (l_parts_of:K.lookup f_parts_of=some ⟨oc_parts_of,od_parts_of,.func (PySem.W.fnOf "parts_of" "parts_of" (defArgs s_parts_of) (defBody s_parts_of) (defScope s_parts_of) .none kV_parts_of dc_parts_of pm_parts_of an_parts_of cd_parts_of ct_parts_of),sl_parts_of⟩) (x_parts_of:PySem.W.codeIn K cd_parts_of "parts_of"=true) (k_parts_of:PySem.W.keepIn K (.ref f_parts_of)=true)
    (a_made_of:PySem.W.nsIn K mainGlobals "made_of"=some (some (.ref f_made_of))) (l_made_of:K.lookup f_made_of=some ⟨oc_made_of,od_made_of,.func (PySem.W.fnOf "made_of" "made_of" (defArgs s_made_of) (defBody s_made_of) (defScope s_made_of) .none kV_made_of dc_made_of pm_made_of an_made_of cd_made_of ct_made_of),sl_made_of⟩) (x_made_of:PySem.W.codeIn K cd_made_of "made_of"=true) (k_made_of:PySem.W.keepIn K (.ref f_made_of)=true)
    (a_part_at:PySem.W.nsIn K mainGlobals "part_at"=some (some (.ref f_part_at))) (l_part_at:K.lookup f_part_at=some ⟨oc_part_at,od_part_at,.func (PySem.W.fnOf "part_at" "part_at" (defArgs s_part_at) (defBody s_part_at) (defScope s_part_at) .none kV_part_at dc_part_at pm_part_at an_part_at cd_part_at ct_part_at),sl_part_at⟩) (x_part_at:PySem.W.codeIn K cd_part_at "part_at"=true) (k_part_at:PySem.W.keepIn K (.ref f_part_at)=true)
    (a_walked:PySem.W.nsIn K mainGlobals "walked"=some (some (.ref f_walked))) (l_walked:K.lookup f_walked=some ⟨oc_walked,od_walked,.func (PySem.W.fnOf "walked" "walked" (defArgs s_walked) (defBody s_walked) (defScope s_walked) .none kV_walked dc_walked pm_walked an_walked cd_walked ct_walked),sl_walked⟩) (x_walked:PySem.W.codeIn K cd_walked "walked"=true) (k_walked:PySem.W.keepIn K (.ref f_walked)=true)
    (a_after_step:PySem.W.nsIn K mainGlobals "after_step"=some (some (.ref f_after_step))) (l_after_step:K.lookup f_after_step=some ⟨oc_after_step,od_after_step,.func (PySem.W.fnOf "after_step" "after_step" (defArgs s_after_step) (defBody s_after_step) (defScope s_after_step) .none kV_after_step dc_after_step pm_after_step an_after_step cd_after_step ct_after_step),sl_after_step⟩) (x_after_step:PySem.W.codeIn K cd_after_step "after_step"=true) (k_after_step:PySem.W.keepIn K (.ref f_after_step)=true)
    (a_swapped:PySem.W.nsIn K mainGlobals "swapped"=some (some (.ref f_swapped))) (l_swapped:K.lookup f_swapped=some ⟨oc_swapped,od_swapped,.func (PySem.W.fnOf "swapped" "swapped" (defArgs s_swapped) (defBody s_swapped) (defScope s_swapped) .none kV_swapped dc_swapped pm_swapped an_swapped cd_swapped ct_swapped),sl_swapped⟩) (x_swapped:PySem.W.codeIn K cd_swapped "swapped"=true) (k_swapped:PySem.W.keepIn K (.ref f_swapped)=true)
    (a_turned:PySem.W.nsIn K mainGlobals "turned"=some (some (.ref f_turned))) (l_turned:K.lookup f_turned=some ⟨oc_turned,od_turned,.func (PySem.W.fnOf "turned" "turned" (defArgs s_turned) (defBody s_turned) (defScope s_turned) .none kV_turned dc_turned pm_turned an_turned cd_turned ct_turned),sl_turned⟩) (x_turned:PySem.W.codeIn K cd_turned "turned"=true) (k_turned:PySem.W.keepIn K (.ref f_turned)=true)
    (a_put_at:PySem.W.nsIn K mainGlobals "put_at"=some (some (.ref f_put_at))) (l_put_at:K.lookup f_put_at=some ⟨oc_put_at,od_put_at,.func (PySem.W.fnOf "put_at" "put_at" (defArgs s_put_at) (defBody s_put_at) (defScope s_put_at) .none kV_put_at dc_put_at pm_put_at an_put_at cd_put_at ct_put_at),sl_put_at⟩) (x_put_at:PySem.W.codeIn K cd_put_at "put_at"=true) (k_put_at:PySem.W.keepIn K (.ref f_put_at)=true)
    (a_w_mix:PySem.W.nsIn K mainGlobals "_law_mix"=some (some (.ref f_w_mix))) (l_w_mix:K.lookup f_w_mix=some ⟨oc_w_mix,od_w_mix,.func (PySem.W.fnOf "_law_mix" "_law_mix" (defArgs s_w_mix) (defBody s_w_mix) (defScope s_w_mix) .none kV_w_mix dc_w_mix pm_w_mix an_w_mix cd_w_mix ct_w_mix),sl_w_mix⟩) (x_w_mix:PySem.W.codeIn K cd_w_mix "_law_mix"=true) (k_w_mix:PySem.W.keepIn K (.ref f_w_mix)=true)
    (a_w_cell:PySem.W.nsIn K mainGlobals "_law_cell"=some (some (.ref f_w_cell))) (l_w_cell:K.lookup f_w_cell=some ⟨oc_w_cell,od_w_cell,.func (PySem.W.fnOf "_law_cell" "_law_cell" (defArgs s_w_cell) (defBody s_w_cell) (defScope s_w_cell) .none kV_w_cell dc_w_cell pm_w_cell an_w_cell cd_w_cell ct_w_cell),sl_w_cell⟩) (x_w_cell:PySem.W.codeIn K cd_w_cell "_law_cell"=true) (k_w_cell:PySem.W.keepIn K (.ref f_w_cell)=true)
    (a_w_tuples:PySem.W.nsIn K mainGlobals "_law_tuples"=some (some (.ref f_w_tuples))) (l_w_tuples:K.lookup f_w_tuples=some ⟨oc_w_tuples,od_w_tuples,.func (PySem.W.fnOf "_law_tuples" "_law_tuples" (defArgs s_w_tuples) (defBody s_w_tuples) (defScope s_w_tuples) .none kV_w_tuples dc_w_tuples pm_w_tuples an_w_tuples cd_w_tuples ct_w_tuples),sl_w_tuples⟩) (x_w_tuples:PySem.W.codeIn K cd_w_tuples "_law_tuples"=true) (k_w_tuples:PySem.W.keepIn K (.ref f_w_tuples)=true)
    (a_w_put:PySem.W.nsIn K mainGlobals "_law_put"=some (some (.ref f_w_put))) (l_w_put:K.lookup f_w_put=some ⟨oc_w_put,od_w_put,.func (PySem.W.fnOf "_law_put" "_law_put" (defArgs s_w_put) (defBody s_w_put) (defScope s_w_put) .none kV_w_put dc_w_put pm_w_put an_w_put cd_w_put ct_w_put),sl_w_put⟩) (x_w_put:PySem.W.codeIn K cd_w_put "_law_put"=true) (k_w_put:PySem.W.keepIn K (.ref f_w_put)=true)
    (a_w_any:PySem.W.nsIn K mainGlobals "_law_any"=some (some (.ref f_w_any))) (l_w_any:K.lookup f_w_any=some ⟨oc_w_any,od_w_any,.func (PySem.W.fnOf "_law_any" "_law_any" (defArgs s_w_any) (defBody s_w_any) (defScope s_w_any) .none kV_w_any dc_w_any pm_w_any an_w_any cd_w_any ct_w_any),sl_w_any⟩) (x_w_any:PySem.W.codeIn K cd_w_any "_law_any"=true) (k_w_any:PySem.W.keepIn K (.ref f_w_any)=true)
    (a_w_parts:PySem.W.nsIn K mainGlobals "_law_parts"=some (some (.ref f_w_parts))) (l_w_parts:K.lookup f_w_parts=some ⟨oc_w_parts,od_w_parts,.func (PySem.W.fnOf "_law_parts" "_law_parts" (defArgs s_w_parts) (defBody s_w_parts) (defScope s_w_parts) .none kV_w_parts dc_w_parts pm_w_parts an_w_parts cd_w_parts ct_w_parts),sl_w_parts⟩) (x_w_parts:PySem.W.codeIn K cd_w_parts "_law_parts"=true) (k_w_parts:PySem.W.keepIn K (.ref f_w_parts)=true)
    (a_w_with:PySem.W.nsIn K mainGlobals "_law_with"=some (some (.ref f_w_with))) (l_w_with:K.lookup f_w_with=some ⟨oc_w_with,od_w_with,.func (PySem.W.fnOf "_law_with" "_law_with" (defArgs s_w_with) (defBody s_w_with) (defScope s_w_with) .none kV_w_with dc_w_with pm_w_with an_w_with cd_w_with ct_w_with),sl_w_with⟩) (x_w_with:PySem.W.codeIn K cd_w_with "_law_with"=true) (k_w_with:PySem.W.keepIn K (.ref f_w_with)=true)
    (a_w_at_top:PySem.W.nsIn K mainGlobals "_law_at_top"=some (some (.ref f_w_at_top))) (l_w_at_top:K.lookup f_w_at_top=some ⟨oc_w_at_top,od_w_at_top,.func (PySem.W.fnOf "_law_at_top" "_law_at_top" (defArgs s_w_at_top) (defBody s_w_at_top) (defScope s_w_at_top) .none kV_w_at_top dc_w_at_top pm_w_at_top an_w_at_top cd_w_at_top ct_w_at_top),sl_w_at_top⟩) (x_w_at_top:PySem.W.codeIn K cd_w_at_top "_law_at_top"=true) (k_w_at_top:PySem.W.keepIn K (.ref f_w_at_top)=true)
    (a_w_done:PySem.W.nsIn K mainGlobals "_law_done"=some (some (.ref f_w_done))) (l_w_done:K.lookup f_w_done=some ⟨oc_w_done,od_w_done,.func (PySem.W.fnOf "_law_done" "_law_done" (defArgs s_w_done) (defBody s_w_done) (defScope s_w_done) .none kV_w_done dc_w_done pm_w_done an_w_done cd_w_done ct_w_done),sl_w_done⟩) (x_w_done:PySem.W.codeIn K cd_w_done "_law_done"=true) (k_w_done:PySem.W.keepIn K (.ref f_w_done)=true)
    (a_w_paths:PySem.W.nsIn K mainGlobals "_law_paths"=some (some (.ref f_w_paths))) (l_w_paths:K.lookup f_w_paths=some ⟨oc_w_paths,od_w_paths,.func (PySem.W.fnOf "_law_paths" "_law_paths" (defArgs s_w_paths) (defBody s_w_paths) (defScope s_w_paths) .none kV_w_paths dc_w_paths pm_w_paths an_w_paths cd_w_paths ct_w_paths),sl_w_paths⟩) (x_w_paths:PySem.W.codeIn K cd_w_paths "_law_paths"=true) (k_w_paths:PySem.W.keepIn K (.ref f_w_paths)=true)
    (a_w_step:PySem.W.nsIn K mainGlobals "_law_step"=some (some (.ref f_w_step))) (l_w_step:K.lookup f_w_step=some ⟨oc_w_step,od_w_step,.func (PySem.W.fnOf "_law_step" "_law_step" (defArgs s_w_step) (defBody s_w_step) (defScope s_w_step) .none kV_w_step dc_w_step pm_w_step an_w_step cd_w_step ct_w_step),sl_w_step⟩) (x_w_step:PySem.W.codeIn K cd_w_step "_law_step"=true) (k_w_step:PySem.W.keepIn K (.ref f_w_step)=true)
    (a_w_walked:PySem.W.nsIn K mainGlobals "_law_walked"=some (some (.ref f_w_walked))) (l_w_walked:K.lookup f_w_walked=some ⟨oc_w_walked,od_w_walked,.func (PySem.W.fnOf "_law_walked" "_law_walked" (defArgs s_w_walked) (defBody s_w_walked) (defScope s_w_walked) .none kV_w_walked dc_w_walked pm_w_walked an_w_walked cd_w_walked ct_w_walked),sl_w_walked⟩) (x_w_walked:PySem.W.codeIn K cd_w_walked "_law_walked"=true) (k_w_walked:PySem.W.keepIn K (.ref f_w_walked)=true)
    (a_law:PySem.W.nsIn K mainGlobals "law"=some (some (.ref f_law))) (l_law:K.lookup f_law=some ⟨oc_law,od_law,.func (PySem.W.fnOf "law" "law" (defArgs s_law) (defBody s_law) (defScope s_law) .none kV_law dc_law pm_law an_law cd_law ct_law),sl_law⟩) (x_law:PySem.W.codeIn K cd_law "law"=true) (k_law:PySem.W.keepIn K (.ref f_law)=true)
    (m_NoStep:PySem.W.nsIn K mainGlobals "NoStep"=some (some (.ref a_NoStep)))
    (m_FigureError:PySem.W.nsIn K mainGlobals "FigureError"=some (some (.ref a_FigureError)))
    (m_NoFit:PySem.W.nsIn K mainGlobals "NoFit"=some (some (.ref a_NoFit)))
    (m_TooMany:PySem.W.nsIn K mainGlobals "TooMany"=some (some (.ref a_TooMany)))
    (XB:XBase K a_FigureError)
    (N_NoStep_at:NoAttr K a_NoStep "at")
    (Y_NoStep_FigureError:CatchIn K a_NoStep a_FigureError true)
    (X_NoStep:XGet K a_NoStep)
    (XI_0:PySem.W.kitOne K (.ref a_NoStep) (.ref a_NoStep)=some true)
    (XI_1:PySem.W.kitOne K (.ref a_NoStep) (.type "ValueError")=some true)
    (XI_2:PySem.W.kitAny K (.ref a_NoStep) [.ref a_NoFit,.ref a_TooMany]=some false)
    (n_ValueError:PySem.W.nsIn K mainGlobals "ValueError"=some none)
    (n_all:PySem.W.nsIn K mainGlobals "all"=some none)
    (n_any:PySem.W.nsIn K mainGlobals "any"=some none)
    (n_bool:PySem.W.nsIn K mainGlobals "bool"=some none)
    (n_enumerate:PySem.W.nsIn K mainGlobals "enumerate"=some none)
    (n_int:PySem.W.nsIn K mainGlobals "int"=some none)
    (n_isinstance:PySem.W.nsIn K mainGlobals "isinstance"=some none)
    (n_len:PySem.W.nsIn K mainGlobals "len"=some none)
    (n_list:PySem.W.nsIn K mainGlobals "list"=some none)
    (n_max:PySem.W.nsIn K mainGlobals "max"=some none)
    (n_min:PySem.W.nsIn K mainGlobals "min"=some none)
    (n_range:PySem.W.nsIn K mainGlobals "range"=some none)
    (n_reversed:PySem.W.nsIn K mainGlobals "reversed"=some none)
    (n_sorted:PySem.W.nsIn K mainGlobals "sorted"=some none)
    (n_str:PySem.W.nsIn K mainGlobals "str"=some none)
    (n_sum:PySem.W.nsIn K mainGlobals "sum"=some none)
    (n_tuple:PySem.W.nsIn K mainGlobals "tuple"=some none)
    (n_zip:PySem.W.nsIn K mainGlobals "zip"=some none)
    (c_MANY:PySem.W.nsIn K mainGlobals "MANY"=some (some (.ref a_MANY))) (o_MANY:K.lookup a_MANY=some ⟨oc_MANY,od_MANY,.seq is_MANY sn_MANY,sl_MANY⟩) (t_MANY:(oc_MANY == .type "tuple")=true/\(od_MANY == none)=true) (i_MANY:is_MANY.toList.map absV=[(.str "row":V),(.str "bag":V),(.str "choice":V),(.str "ring":V)].map some) :
    ∃ fd:FuncData,(∀ (s:Shared) (v:Value),BindsTo s fd ⟨[v],[]⟩ [("_law_script",v)])/\∀ base:Heap,K.In base->base.Ns mainGlobals mg->FnOk l.prog w K mg base CX0 200 fa fd ["_law_script"] (spOf K aspLaw):=by
  have e:=hfa.symm.trans (PySem.W.mg_of X G a_law)
  cases e
  have F_NoStep___init__:=fun_mk (st:=s_NoStep___init__) l_NoStep___init__ x_NoStep___init__ k_NoStep___init__
  have B_NoStep___init__:=F_NoStep___init__.binds (ps:=["self","at"]) fun _ _ _ _ _ _=>by refine len2 ?_;intros;rfl
  have F_parts_of:=fun_mk (st:=s_parts_of) l_parts_of x_parts_of k_parts_of
  have B_parts_of:=F_parts_of.binds (ps:=["writing"]) fun _ _ _ _ _ _=>by refine len1 ?_;intros;rfl
  have F_made_of:=fun_mk (st:=s_made_of) l_made_of x_made_of k_made_of
  have B_made_of:=F_made_of.binds (ps:=["kind","parts"]) fun _ _ _ _ _ _=>by refine len2 ?_;intros;rfl
  have F_part_at:=fun_mk (st:=s_part_at) l_part_at x_part_at k_part_at
  have B_part_at:=F_part_at.binds (ps:=["writing","path"]) fun _ _ _ _ _ _=>by refine len2 ?_;intros;rfl
  have F_walked:=fun_mk (st:=s_walked) l_walked x_walked k_walked
  have B_walked:=F_walked.binds (ps:=["writing","steps"]) fun _ _ _ _ _ _=>by refine len2 ?_;intros;rfl
  have F_after_step:=fun_mk (st:=s_after_step) l_after_step x_after_step k_after_step
  have B_after_step:=F_after_step.binds (ps:=["writing","step"]) fun _ _ _ _ _ _=>by refine len2 ?_;intros;rfl
  have F_swapped:=fun_mk (st:=s_swapped) l_swapped x_swapped k_swapped
  have B_swapped:=F_swapped.binds (ps:=["part","i"]) fun _ _ _ _ _ _=>by refine len2 ?_;intros;rfl
  have F_turned:=fun_mk (st:=s_turned) l_turned x_turned k_turned
  have B_turned:=F_turned.binds (ps:=["part","i"]) fun _ _ _ _ _ _=>by refine len2 ?_;intros;rfl
  have F_put_at:=fun_mk (st:=s_put_at) l_put_at x_put_at k_put_at
  have B_put_at:=F_put_at.binds (ps:=["writing","path","part"]) fun _ _ _ _ _ _=>by refine len3 ?_;intros;rfl
  have F_w_mix:=fun_mk (st:=s_w_mix) l_w_mix x_w_mix k_w_mix
  have B_w_mix:=F_w_mix.binds (ps:=["_law_script"]) fun _ _ _ _ _ _=>by refine len1 ?_;intros;rfl
  have F_w_cell:=fun_mk (st:=s_w_cell) l_w_cell x_w_cell k_w_cell
  have B_w_cell:=F_w_cell.binds (ps:=["_law_script","_law_k"]) fun _ _ _ _ _ _=>by refine len2 ?_;intros;rfl
  have F_w_tuples:=fun_mk (st:=s_w_tuples) l_w_tuples x_w_tuples k_w_tuples
  have B_w_tuples:=F_w_tuples.binds (ps:=["_law_figure"]) fun _ _ _ _ _ _=>by refine len1 ?_;intros;rfl
  have F_w_put:=fun_mk (st:=s_w_put) l_w_put x_w_put k_w_put
  have B_w_put:=F_w_put.binds (ps:=["_law_stack","_law_cell_here","_law_room"]) fun _ _ _ _ _ _=>by refine len3 ?_;intros;rfl
  have F_w_any:=fun_mk (st:=s_w_any) l_w_any x_w_any k_w_any
  have B_w_any:=F_w_any.binds (ps:=["_law_cells"]) fun _ _ _ _ _ _=>by refine len1 ?_;intros;rfl
  have F_w_parts:=fun_mk (st:=s_w_parts) l_w_parts x_w_parts k_w_parts
  have B_w_parts:=F_w_parts.binds (ps:=["_law_figure"]) fun _ _ _ _ _ _=>by refine len1 ?_;intros;rfl
  have F_w_with:=fun_mk (st:=s_w_with) l_w_with x_w_with k_w_with
  have B_w_with:=F_w_with.binds (ps:=["_law_figure","_law_parts_here"]) fun _ _ _ _ _ _=>by refine len2 ?_;intros;rfl
  have F_w_at_top:=fun_mk (st:=s_w_at_top) l_w_at_top x_w_at_top k_w_at_top
  have B_w_at_top:=F_w_at_top.binds (ps:=["_law_figure","_law_word","_law_at"]) fun _ _ _ _ _ _=>by refine len3 ?_;intros;rfl
  have F_w_done:=fun_mk (st:=s_w_done) l_w_done x_w_done k_w_done
  have B_w_done:=F_w_done.binds (ps:=["_law_figure","_law_word","_law_path","_law_at"]) fun _ _ _ _ _ _=>by refine len4 ?_;intros;rfl
  have F_w_paths:=fun_mk (st:=s_w_paths) l_w_paths x_w_paths k_w_paths
  have B_w_paths:=F_w_paths.binds (ps:=["_law_figure","_law_path"]) fun _ _ _ _ _ _=>by refine len2 ?_;intros;rfl
  have F_w_step:=fun_mk (st:=s_w_step) l_w_step x_w_step k_w_step
  have B_w_step:=F_w_step.binds (ps:=["_law_figure","_law_cell_here","_law_wild"]) fun _ _ _ _ _ _=>by refine len3 ?_;intros;rfl
  have F_w_walked:=fun_mk (st:=s_w_walked) l_w_walked x_w_walked k_w_walked
  have B_w_walked:=F_w_walked.binds (ps:=["_law_writing","_law_steps"]) fun _ _ _ _ _ _=>by refine len2 ?_;intros;rfl
  have F_law:=fun_mk (st:=s_law) l_law x_law k_law
  have B_law:=F_law.binds (ps:=["_law_script"]) fun _ _ _ _ _ _=>by refine len1 ?_;intros;rfl
  have T:TX K mg _ _ _ _ _ _ _ _ _ _ _ _ _ _ _ _ _ _ _ _ _ _ _ _ _ _ _ _ _ _ _ _ _ _ _ _ _ _ _ _ _ _ _ _ _ _ _ _ _:=⟨F_NoStep___init__,B_NoStep___init__,K_NoStep,F_parts_of,B_parts_of,PySem.W.mg_of X G a_parts_of,F_made_of,B_made_of,PySem.W.mg_of X G a_made_of,F_part_at,B_part_at,PySem.W.mg_of X G a_part_at,F_walked,B_walked,PySem.W.mg_of X G a_walked,F_after_step,B_after_step,PySem.W.mg_of X G a_after_step,F_swapped,B_swapped,PySem.W.mg_of X G a_swapped,F_turned,B_turned,PySem.W.mg_of X G a_turned,F_put_at,B_put_at,PySem.W.mg_of X G a_put_at,F_w_mix,B_w_mix,PySem.W.mg_of X G a_w_mix,F_w_cell,B_w_cell,PySem.W.mg_of X G a_w_cell,F_w_tuples,B_w_tuples,PySem.W.mg_of X G a_w_tuples,F_w_put,B_w_put,PySem.W.mg_of X G a_w_put,F_w_any,B_w_any,PySem.W.mg_of X G a_w_any,F_w_parts,B_w_parts,PySem.W.mg_of X G a_w_parts,F_w_with,B_w_with,PySem.W.mg_of X G a_w_with,F_w_at_top,B_w_at_top,PySem.W.mg_of X G a_w_at_top,F_w_done,B_w_done,PySem.W.mg_of X G a_w_done,F_w_paths,B_w_paths,PySem.W.mg_of X G a_w_paths,F_w_step,B_w_step,PySem.W.mg_of X G a_w_step,F_w_walked,B_w_walked,PySem.W.mg_of X G a_w_walked,F_law,B_law,PySem.W.mg_of X G a_law,PySem.W.mg_of X G m_NoStep,PySem.W.mg_of X G m_FigureError,PySem.W.mg_of X G m_NoFit,PySem.W.mg_of X G m_TooMany,XB,N_NoStep_at,Y_NoStep_FigureError,X_NoStep,XI_0,XI_1,XI_2,PySem.W.mg_none_of X G n_ValueError,PySem.W.mg_none_of X G n_all,PySem.W.mg_none_of X G n_any,PySem.W.mg_none_of X G n_bool,PySem.W.mg_none_of X G n_enumerate,PySem.W.mg_none_of X G n_int,PySem.W.mg_none_of X G n_isinstance,PySem.W.mg_none_of X G n_len,PySem.W.mg_none_of X G n_list,PySem.W.mg_none_of X G n_max,PySem.W.mg_none_of X G n_min,PySem.W.mg_none_of X G n_range,PySem.W.mg_none_of X G n_reversed,PySem.W.mg_none_of X G n_sorted,PySem.W.mg_none_of X G n_str,PySem.W.mg_none_of X G n_sum,PySem.W.mg_none_of X G n_tuple,PySem.W.mg_none_of X G n_zip,⟨_,PySem.W.mg_of X G c_MANY,rfl⟩,sqT_const o_MANY t_MANY i_MANY,ty_const o_MANY t_MANY⟩
  exact ⟨_,fun s v=>.of_eq rfl,fun base _ _=>ok_law T⟩
theorem walk {l:PySem.W.OpenLaw} {q:Program} {loose:List Str} {XP:(Str->Option Value)->Heap->Prop} {YP:World->Heap->Prop} {d:DefRec} {K:Params->PySem.W.Frag} (hn:l.most=some 63) (hdf:d.params.defaults=[])
    (hY:∀ (w:World) (h:Heap),YP w h->(K w.params).In h)
    (F : ∀ (w:World) (mg:Str->Option Value) (fa:Addr) (h:Heap),(K w.params).In h->h.Ns mainGlobals mg->mg d.name=some (.ref fa) ->
      ∃ fd:FuncData,(∀ (s:Shared) (u:Value),BindsTo s fd ⟨[u],[]⟩ [("_law_script",u)])/\∀ base:Heap,(K w.params).In base->base.Ns mainGlobals mg->FnOk l.prog w (K w.params) mg base CX0 200 fa fd ["_law_script"] (spOf (K w.params) aspLaw)) :
    PySem.W.WalkO q loose XP YP l.row.toRowW d [] (fun f vs=>PySem.call f vs) :=
  L2.walk_of (n:=63) (k:=200) (x:="_law_script") (CX:=fun _=>CX0) (sp:=fun w=>spOf (K w.params) aspLaw) hn (by decide) hdf ⟨rfl,by decide,by decide⟩ hY F (fun _ _ a ns hl hO hS=>law_in hl hO hS) fun _ _ _ _ _ z=>z
theorem pr0:(("a":String) == "a" && Nat.beq [PySem.W.boot_o_0].length 1)=true:=by k_qdec
noncomputable def hq:Program:=PySem.W.view PySem.Challenge.pw_figurebook_k39_steps_walked [29]
noncomputable def hloose:List Str:=(["FigureError","NoFit","TooMany","NoStep","MANY","parts_of","made_of","part_at","walked","after_step","swapped","turned","put_at","_law_mix","_law_cell","_law_tuples","_law_put","_law_any","_law_parts","_law_with","_law_at_top","_law_done","_law_paths","_law_step","_law_walked"]:List Str)
noncomputable def hKl (P:Params):List (Addr × Obj):=[(2,(Obj.mk .none none (.dict #[] 0) #[])),
  (3,hNs 35 [hEnt P "__name__" 165 (.str "law_figurebook_k39_steps_walked" 363),hEnt P "__doc__" 166 .none,hEnt P "__package__" 167 .none,hEnt P "__loader__" 168 (.builtin "__main__.__loader__#opaque"),hEnt P "__spec__" 169 .none,hEnt P "__annotations__" 170 (.ref 6),hEnt P "__builtins__" 171 (.ref 4),hEnt P "__file__" 173 (.str "/claim/cut.py" 172),hEnt P "__cached__" 174 .none,hEnt P "FigureError" 206 (.ref 24),hEnt P "NoFit" 231 (.ref 44),hEnt P "TooMany" 247 (.ref 56),hEnt P "NoStep" 272 (.ref 75),hEnt P "MANY" 279 (.ref 78),hEnt P "parts_of" 287 (.ref 85),hEnt P "made_of" 295 (.ref 92),hEnt P "part_at" 306 (.ref 99),hEnt P "walked" 318 (.ref 106),hEnt P "after_step" 331 (.ref 113),hEnt P "swapped" 340 (.ref 120),hEnt P "turned" 349 (.ref 127),hEnt P "put_at" 362 (.ref 134),hEnt P "_law_mix" 374 (.ref 141),hEnt P "_law_cell" 382 (.ref 148),hEnt P "_law_tuples" 388 (.ref 153),hEnt P "_law_put" 394 (.ref 158),hEnt P "_law_any" 404 (.ref 165),hEnt P "_law_parts" 411 (.ref 172),hEnt P "_law_with" 419 (.ref 179),hEnt P "_law_at_top" 429 (.ref 186),hEnt P "_law_done" 441 (.ref 193),hEnt P "_law_paths" 452 (.ref 200),hEnt P "_law_step" 458 (.ref 205),hEnt P "_law_walked" 468 (.ref 212),hEnt P "law" 487 (.ref 219)]),
  (23,hNs 3 [hEnt P "__module__" 196 (.str "figurebook.errors" 187),hEnt P "__firstlineno__" 200 (.int 2 199),hEnt P "__static_attributes__" 201 (.ref 22),hEnt P "__weakref__" 203 (.ref 25),hEnt P "__doc__" 204 .none]),
  (24,Obj.mk (.type "type") none (.cls (ClassData.mk "FigureError" [(.type "ValueError")] [(.ref 24),(.type "ValueError"),(.type "Exception"),(.type "BaseException"),(.type "object")] 23 "FigureError" true [] [(.ref 44),(.ref 56),(.ref 75)] false none false)) #[(some (.ref 15)),none,(some (.str "FigureError" 189)),(some (.str "FigureError" 197)),(some (.builtin "ValueError.__new__")),(some (.bool true))]),
  (40,hCode "__init__" "NoFit.__init__" 219 6 2 3 35 36 (some 37) (some 38) 39 224 225),
  (41,hFun s_NoFit___init__ "__init__" "NoFit.__init__" (.str "figurebook.errors" 187) 40),
  (43,hNs 2 [hEnt P "__module__" 214 (.str "figurebook.errors" 187),hEnt P "__firstlineno__" 218 (.int 4 217),hEnt P "__init__" 226 (.ref 41),hEnt P "__static_attributes__" 228 (.ref 42),hEnt P "__doc__" 229 .none]),
  (44,Obj.mk (.type "type") none (.cls (ClassData.mk "NoFit" [(.ref 24)] [(.ref 44),(.ref 24),(.type "ValueError"),(.type "Exception"),(.type "BaseException"),(.type "object")] 43 "NoFit" true [] [] false none false)) #[(some (.ref 28)),none,(some (.str "NoFit" 207)),(some (.str "NoFit" 215)),(some (.builtin "ValueError.__new__")),(some (.bool true))]),
  (55,hNs 2 [hEnt P "__module__" 239 (.str "figurebook.errors" 187),hEnt P "__firstlineno__" 243 (.int 9 242),hEnt P "__static_attributes__" 244 (.ref 54),hEnt P "__doc__" 245 .none]),
  (56,Obj.mk (.type "type") none (.cls (ClassData.mk "TooMany" [(.ref 24)] [(.ref 56),(.ref 24),(.type "ValueError"),(.type "Exception"),(.type "BaseException"),(.type "object")] 55 "TooMany" true [] [] false none false)) #[(some (.ref 47)),none,(some (.str "TooMany" 232)),(some (.str "TooMany" 240)),(some (.builtin "ValueError.__new__")),(some (.bool true))]),
  (71,hCode "__init__" "NoStep.__init__" 260 13 2 3 66 67 (some 68) (some 69) 70 265 266),
  (72,hFun s_NoStep___init__ "__init__" "NoStep.__init__" (.str "figurebook.errors" 187) 71),
  (74,hNs 2 [hEnt P "__module__" 255 (.str "figurebook.errors" 187),hEnt P "__firstlineno__" 259 (.int 11 258),hEnt P "__init__" 267 (.ref 72),hEnt P "__static_attributes__" 269 (.ref 73),hEnt P "__doc__" 270 .none]),
  (75,Obj.mk (.type "type") none (.cls (ClassData.mk "NoStep" [(.ref 24)] [(.ref 75),(.ref 24),(.type "ValueError"),(.type "Exception"),(.type "BaseException"),(.type "object")] 74 "NoStep" true [] [] false none false)) #[(some (.ref 59)),none,(some (.str "NoStep" 248)),(some (.str "NoStep" 256)),(some (.builtin "ValueError.__new__")),(some (.bool true))]),
  (78,hTup [(.str "row" 275),(.str "bag" 276),(.str "choice" 277),(.str "ring" 278)]),
  (84,hCode "parts_of" "parts_of" 280 18 1 3 79 80 (some 81) (some 82) 83 285 286),
  (85,hFun s_parts_of "parts_of" "parts_of" (.str "figurebook.figures" 273) 84),
  (91,hCode "made_of" "made_of" 288 25 2 3 86 87 (some 88) (some 89) 90 293 294),
  (92,hFun s_made_of "made_of" "made_of" (.str "figurebook.figures" 273) 91),
  (98,hCode "part_at" "part_at" 296 29 2 3 93 94 (some 95) (some 96) 97 304 305),
  (99,hFun s_part_at "part_at" "part_at" (.str "figurebook.figures" 273) 98),
  (105,hCode "walked" "walked" 309 38 2 3 100 101 (some 102) (some 103) 104 316 317),
  (106,hFun s_walked "walked" "walked" (.str "figurebook.papers" 307) 105),
  (112,hCode "after_step" "after_step" 319 44 2 3 107 108 (some 109) (some 110) 111 329 330),
  (113,hFun s_after_step "after_step" "after_step" (.str "figurebook.papers" 307) 112),
  (119,hCode "swapped" "swapped" 332 53 2 3 114 115 (some 116) (some 117) 118 338 339),
  (120,hFun s_swapped "swapped" "swapped" (.str "figurebook.papers" 307) 119),
  (126,hCode "turned" "turned" 341 58 2 3 121 122 (some 123) (some 124) 125 347 348),
  (127,hFun s_turned "turned" "turned" (.str "figurebook.papers" 307) 126),
  (133,hCode "put_at" "put_at" 350 63 3 3 128 129 (some 130) (some 131) 132 360 361),
  (134,hFun s_put_at "put_at" "put_at" (.str "figurebook.papers" 307) 133),
  (140,hCode "_law_mix" "_law_mix" 365 75 1 3 135 136 (some 137) (some 138) 139 372 373),
  (141,hFun s_w_mix "_law_mix" "_law_mix" (.str "law_figurebook_k39_steps_walked" 363) 140),
  (147,hCode "_law_cell" "_law_cell" 375 82 2 3 142 143 (some 144) (some 145) 146 380 381),
  (148,hFun s_w_cell "_law_cell" "_law_cell" (.str "law_figurebook_k39_steps_walked" 363) 147),
  (152,hCode "_law_tuples" "_law_tuples" 383 86 1 3 149 150 none none 151 386 387),
  (153,hFun s_w_tuples "_law_tuples" "_law_tuples" (.str "law_figurebook_k39_steps_walked" 363) 152),
  (157,hCode "_law_put" "_law_put" 389 93 3 3 154 155 none none 156 392 393),
  (158,hFun s_w_put "_law_put" "_law_put" (.str "law_figurebook_k39_steps_walked" 363) 157),
  (164,hCode "_law_any" "_law_any" 395 113 1 3 159 160 (some 161) (some 162) 163 402 403),
  (165,hFun s_w_any "_law_any" "_law_any" (.str "law_figurebook_k39_steps_walked" 363) 164),
  (171,hCode "_law_parts" "_law_parts" 405 118 1 3 166 167 (some 168) (some 169) 170 409 410),
  (172,hFun s_w_parts "_law_parts" "_law_parts" (.str "law_figurebook_k39_steps_walked" 363) 171),
  (178,hCode "_law_with" "_law_with" 412 124 2 3 173 174 (some 175) (some 176) 177 417 418),
  (179,hFun s_w_with "_law_with" "_law_with" (.str "law_figurebook_k39_steps_walked" 363) 178),
  (185,hCode "_law_at_top" "_law_at_top" 420 128 3 3 180 181 (some 182) (some 183) 184 427 428),
  (186,hFun s_w_at_top "_law_at_top" "_law_at_top" (.str "law_figurebook_k39_steps_walked" 363) 185),
  (192,hCode "_law_done" "_law_done" 430 135 4 3 187 188 (some 189) (some 190) 191 439 440),
  (193,hFun s_w_done "_law_done" "_law_done" (.str "law_figurebook_k39_steps_walked" 363) 192),
  (199,hCode "_law_paths" "_law_paths" 442 145 2 3 194 195 (some 196) (some 197) 198 450 451),
  (200,hFun s_w_paths "_law_paths" "_law_paths" (.str "law_figurebook_k39_steps_walked" 363) 199),
  (204,hCode "_law_step" "_law_step" 453 150 3 3 201 202 none none 203 456 457),
  (205,hFun s_w_step "_law_step" "_law_step" (.str "law_figurebook_k39_steps_walked" 363) 204),
  (211,hCode "_law_walked" "_law_walked" 459 172 2 3 206 207 (some 208) (some 209) 210 466 467),
  (212,hFun s_w_walked "_law_walked" "_law_walked" (.str "law_figurebook_k39_steps_walked" 363) 211),
  (218,hCode "law" "law" 469 181 1 3 213 214 (some 215) (some 216) 217 485 486),
  (219,hFun s_law "law" "law" (.str "law_figurebook_k39_steps_walked" 363) 218)]
noncomputable def hK (P:Params):PySem.W.Frag:=hKl P
noncomputable def hAs:List Addr:=[2,3,23,24,40,41,43,44,55,56,71,72,74,75,78,84,85,91,92,98,99,105,106,112,113,119,120,126,127,133,134,140,141,147,148,152,153,157,158,164,165,171,172,178,179,185,186,192,193,199,200,204,205,211,212,218,219]
noncomputable def hTs:List Addr:=[]
noncomputable abbrev hH:PySem.W.Hook:=PySem.W.kmHook hK hAs (fun _=>rfl) hTs
noncomputable abbrev hXt:Shared->Bool:=fun s=>PySem.W.xlAt hq [] s && PySem.W.recOk (PySem.W.RowW.records (PySem.W.OpenRow.toRowW (PySem.W.OpenLaw.row PySem.Challenge.rw_figurebook_k39_steps_walked))) s
noncomputable def hL (w:World) (os:OsState):=headT PySem.Challenge.pw_figurebook_k39_steps_walked w os 11 (some (.ref 6)) 40000 (fun s=>(PySem.W.staticsOk (importedModules PySem.Challenge.pw_figurebook_k39_steps_walked.main.body) (PySem.W.boot_heap w.params) s.heap && PySem.W.namesBound PySem.Challenge.pw_figurebook_k39_steps_walked s.heap && PySem.W.gensDone s && PySem.W.laidKept (PySem.W.boot_heap w.params) s.heap,PySem.W.openSeen hq hloose (importedModules PySem.Challenge.pw_figurebook_k39_steps_walked.main.body) hXt true s,(hAs.map s.heap.get?,hTs.map s.heap.get?)))
noncomputable def hR (w:World) (_:OsState):=some (true,PySem.W.openGood hq hloose,((hKl w.params).map fun p=>some p.2,hTs.map fun _=>some (PySem.W.tabObj #[])))
lay_quick My.hL My.hR L2.hBoot
theorem h_run (w:World) (os:OsState):hL w os=hR w os:=(congrFun (congrFun PySem.W.Fast.te13887445390003487561 w) os).trans (Eq.trans (by kernel_rfl) (congrFun (congrFun PySem.W.Fast.te6075038599416009561 w) os).symm)
theorem h_boot (w:World):hBoot w=(true,11,some (.ref 6)):=(congrFun PySem.W.Fast.te16037136179764453472 w).trans (by kernel_rfl)
theorem h_left:PySem.W.LeftO PySem.Challenge.pw_figurebook_k39_steps_walked hq hloose hXt (PySem.W.Hook.obs hH) (PySem.W.Hook.val hH) 40000:=left_whole (by rfl) (by decide) (fun s=>rfl) h_boot h_run
end My
open PySem PySem.W PyProof.Rows
set_option maxRecDepth 100000 in
set_option maxHeartbeats 0 in
theorem PySem.Challenge.cw_figurebook_k39_steps_walked_holds : PySem.Challenge.rw_figurebook_k39_steps_walked.Holds := by
  w_on;o_law
  refine holds_open (q:=My.hq) (loose:=My.hloose) (Xt:=My.hXt) (XP:=XL My.hq []) (Yf:=Hook.obs My.hH) (Ya:=Hook.val My.hH) (YP:=Hook.says My.hH) (N:=40000) My.h_left (Hook.of My.hH) (Hook.keeps My.hH) (fun s e=>xl_of s (Bool.and_eq_true_iff.mp e).1) XL.keeps (by rfl) (by rfl) (by rfl) (fun s e=>recFacts_of (Bool.and_eq_true_iff.mp e).2) (by rfl) (by first | assumption | decide +kernel) (by decide +kernel) ⟨rfl,rfl,rfl,rfl,rfl,by decide +kernel⟩ ?hw ?hc
  case hw=>w_witness2
  k_fill
  refine My.walk (l:=PySem.Challenge.rw_figurebook_k39_steps_walked) rfl rfl (fun w h Y=>PySem.W.km_in_of Y) ?F
  case F =>
    intro w mg fa h KX G hmg
    refine' My.all_mk KX G hmg ?l_NoStep___init__ ?x_NoStep___init__ ?k_NoStep___init__ ?K_NoStep ?a_parts_of ?l_parts_of ?x_parts_of ?k_parts_of ?a_made_of ?l_made_of ?x_made_of ?k_made_of ?a_part_at ?l_part_at ?x_part_at ?k_part_at ?a_walked ?l_walked ?x_walked ?k_walked ?a_after_step ?l_after_step ?x_after_step ?k_after_step ?a_swapped ?l_swapped ?x_swapped ?k_swapped ?a_turned ?l_turned ?x_turned ?k_turned ?a_put_at ?l_put_at ?x_put_at ?k_put_at ?a_w_mix ?l_w_mix ?x_w_mix ?k_w_mix ?a_w_cell ?l_w_cell ?x_w_cell ?k_w_cell ?a_w_tuples ?l_w_tuples ?x_w_tuples ?k_w_tuples ?a_w_put ?l_w_put ?x_w_put ?k_w_put ?a_w_any ?l_w_any ?x_w_any ?k_w_any ?a_w_parts ?l_w_parts ?x_w_parts ?k_w_parts ?a_w_with ?l_w_with ?x_w_with ?k_w_with ?a_w_at_top ?l_w_at_top ?x_w_at_top ?k_w_at_top ?a_w_done ?l_w_done ?x_w_done ?k_w_done ?a_w_paths ?l_w_paths ?x_w_paths ?k_w_paths ?a_w_step ?l_w_step ?x_w_step ?k_w_step ?a_w_walked ?l_w_walked ?x_w_walked ?k_w_walked ?a_law ?l_law ?x_law ?k_law ?m_NoStep ?m_FigureError ?m_NoFit ?m_TooMany ?XB ?N_NoStep_at ?Y_NoStep_FigureError ?X_NoStep ?XI_0 ?XI_1 ?XI_2 ?n_ValueError ?n_all ?n_any ?n_bool ?n_enumerate ?n_int ?n_isinstance ?n_len ?n_list ?n_max ?n_min ?n_range ?n_reversed ?n_sorted ?n_str ?n_sum ?n_tuple ?n_zip ?c_MANY ?o_MANY ?t_MANY ?i_MANY
    (case l_NoStep___init__=>exact (by kernel_rfl:(My.hK w.params).lookup 72=some ⟨.type "function",none,.func (PySem.W.fnOf "__init__" "NoStep.__init__" (L2.defArgs My.s_NoStep___init__) (L2.defBody My.s_NoStep___init__) (L2.defScope My.s_NoStep___init__) .none .none .none (.str "figurebook.errors" 187) none (.ref 71) .none),#[]⟩))
    (case x_NoStep___init__=>exact (by kernel_rfl:PySem.W.codeIn (My.hK w.params) (.ref 71) "NoStep.__init__"=true))
    (case k_NoStep___init__=>exact (by kernel_rfl:PySem.W.keepIn (My.hK w.params) (.ref 72)=true))
    (case K_NoStep=>exact (⟨(by kernel_rfl),(by kernel_rfl),(by kernel_rfl),(by kernel_rfl),(by kernel_rfl),(by kernel_rfl),(by kernel_rfl),(by kernel_rfl),(by kernel_rfl),(by kernel_rfl)⟩:L2.XCl (My.hK w.params) 75 72))
    (case a_parts_of=>exact (by kernel_rfl:PySem.W.nsIn (My.hK w.params) mainGlobals "parts_of"=some (some (.ref 85))))
    (case l_parts_of=>exact (by kernel_rfl:(My.hK w.params).lookup 85=some ⟨.type "function",none,.func (PySem.W.fnOf "parts_of" "parts_of" (L2.defArgs My.s_parts_of) (L2.defBody My.s_parts_of) (L2.defScope My.s_parts_of) .none .none .none (.str "figurebook.figures" 273) none (.ref 84) .none),#[]⟩))
    (case x_parts_of=>exact (by kernel_rfl:PySem.W.codeIn (My.hK w.params) (.ref 84) "parts_of"=true))
    (case k_parts_of=>exact (by kernel_rfl:PySem.W.keepIn (My.hK w.params) (.ref 85)=true))
    (case a_made_of=>exact (by kernel_rfl:PySem.W.nsIn (My.hK w.params) mainGlobals "made_of"=some (some (.ref 92))))
    (case l_made_of=>exact (by kernel_rfl:(My.hK w.params).lookup 92=some ⟨.type "function",none,.func (PySem.W.fnOf "made_of" "made_of" (L2.defArgs My.s_made_of) (L2.defBody My.s_made_of) (L2.defScope My.s_made_of) .none .none .none (.str "figurebook.figures" 273) none (.ref 91) .none),#[]⟩))
    (case x_made_of=>exact (by kernel_rfl:PySem.W.codeIn (My.hK w.params) (.ref 91) "made_of"=true))
    (case k_made_of=>exact (by kernel_rfl:PySem.W.keepIn (My.hK w.params) (.ref 92)=true))
    (case a_part_at=>exact (by kernel_rfl:PySem.W.nsIn (My.hK w.params) mainGlobals "part_at"=some (some (.ref 99))))
    (case l_part_at=>exact (by kernel_rfl:(My.hK w.params).lookup 99=some ⟨.type "function",none,.func (PySem.W.fnOf "part_at" "part_at" (L2.defArgs My.s_part_at) (L2.defBody My.s_part_at) (L2.defScope My.s_part_at) .none .none .none (.str "figurebook.figures" 273) none (.ref 98) .none),#[]⟩))
    (case x_part_at=>exact (by kernel_rfl:PySem.W.codeIn (My.hK w.params) (.ref 98) "part_at"=true))
    (case k_part_at=>exact (by kernel_rfl:PySem.W.keepIn (My.hK w.params) (.ref 99)=true))
    (case a_walked=>exact (by kernel_rfl:PySem.W.nsIn (My.hK w.params) mainGlobals "walked"=some (some (.ref 106))))
    (case l_walked=>exact (by kernel_rfl:(My.hK w.params).lookup 106=some ⟨.type "function",none,.func (PySem.W.fnOf "walked" "walked" (L2.defArgs My.s_walked) (L2.defBody My.s_walked) (L2.defScope My.s_walked) .none .none .none (.str "figurebook.papers" 307) none (.ref 105) .none),#[]⟩))
    (case x_walked=>exact (by kernel_rfl:PySem.W.codeIn (My.hK w.params) (.ref 105) "walked"=true))
    (case k_walked=>exact (by kernel_rfl:PySem.W.keepIn (My.hK w.params) (.ref 106)=true))
    (case a_after_step=>exact (by kernel_rfl:PySem.W.nsIn (My.hK w.params) mainGlobals "after_step"=some (some (.ref 113))))
    (case l_after_step=>exact (by kernel_rfl:(My.hK w.params).lookup 113=some ⟨.type "function",none,.func (PySem.W.fnOf "after_step" "after_step" (L2.defArgs My.s_after_step) (L2.defBody My.s_after_step) (L2.defScope My.s_after_step) .none .none .none (.str "figurebook.papers" 307) none (.ref 112) .none),#[]⟩))
    (case x_after_step=>exact (by kernel_rfl:PySem.W.codeIn (My.hK w.params) (.ref 112) "after_step"=true))
    (case k_after_step=>exact (by kernel_rfl:PySem.W.keepIn (My.hK w.params) (.ref 113)=true))
    (case a_swapped=>exact (by kernel_rfl:PySem.W.nsIn (My.hK w.params) mainGlobals "swapped"=some (some (.ref 120))))
    (case l_swapped=>exact (by kernel_rfl:(My.hK w.params).lookup 120=some ⟨.type "function",none,.func (PySem.W.fnOf "swapped" "swapped" (L2.defArgs My.s_swapped) (L2.defBody My.s_swapped) (L2.defScope My.s_swapped) .none .none .none (.str "figurebook.papers" 307) none (.ref 119) .none),#[]⟩))
    (case x_swapped=>exact (by kernel_rfl:PySem.W.codeIn (My.hK w.params) (.ref 119) "swapped"=true))
    (case k_swapped=>exact (by kernel_rfl:PySem.W.keepIn (My.hK w.params) (.ref 120)=true))
    (case a_turned=>exact (by kernel_rfl:PySem.W.nsIn (My.hK w.params) mainGlobals "turned"=some (some (.ref 127))))
    (case l_turned=>exact (by kernel_rfl:(My.hK w.params).lookup 127=some ⟨.type "function",none,.func (PySem.W.fnOf "turned" "turned" (L2.defArgs My.s_turned) (L2.defBody My.s_turned) (L2.defScope My.s_turned) .none .none .none (.str "figurebook.papers" 307) none (.ref 126) .none),#[]⟩))
    (case x_turned=>exact (by kernel_rfl:PySem.W.codeIn (My.hK w.params) (.ref 126) "turned"=true))
    (case k_turned=>exact (by kernel_rfl:PySem.W.keepIn (My.hK w.params) (.ref 127)=true))
    (case a_put_at=>exact (by kernel_rfl:PySem.W.nsIn (My.hK w.params) mainGlobals "put_at"=some (some (.ref 134))))
    (case l_put_at=>exact (by kernel_rfl:(My.hK w.params).lookup 134=some ⟨.type "function",none,.func (PySem.W.fnOf "put_at" "put_at" (L2.defArgs My.s_put_at) (L2.defBody My.s_put_at) (L2.defScope My.s_put_at) .none .none .none (.str "figurebook.papers" 307) none (.ref 133) .none),#[]⟩))
    (case x_put_at=>exact (by kernel_rfl:PySem.W.codeIn (My.hK w.params) (.ref 133) "put_at"=true))
    (case k_put_at=>exact (by kernel_rfl:PySem.W.keepIn (My.hK w.params) (.ref 134)=true))
    (case a_w_mix=>exact (by kernel_rfl:PySem.W.nsIn (My.hK w.params) mainGlobals "_law_mix"=some (some (.ref 141))))
    (case l_w_mix=>exact (by kernel_rfl:(My.hK w.params).lookup 141=some ⟨.type "function",none,.func (PySem.W.fnOf "_law_mix" "_law_mix" (L2.defArgs My.s_w_mix) (L2.defBody My.s_w_mix) (L2.defScope My.s_w_mix) .none .none .none (.str "law_figurebook_k39_steps_walked" 363) none (.ref 140) .none),#[]⟩))
    (case x_w_mix=>exact (by kernel_rfl:PySem.W.codeIn (My.hK w.params) (.ref 140) "_law_mix"=true))
    (case k_w_mix=>exact (by kernel_rfl:PySem.W.keepIn (My.hK w.params) (.ref 141)=true))
    (case a_w_cell=>exact (by kernel_rfl:PySem.W.nsIn (My.hK w.params) mainGlobals "_law_cell"=some (some (.ref 148))))
    (case l_w_cell=>exact (by kernel_rfl:(My.hK w.params).lookup 148=some ⟨.type "function",none,.func (PySem.W.fnOf "_law_cell" "_law_cell" (L2.defArgs My.s_w_cell) (L2.defBody My.s_w_cell) (L2.defScope My.s_w_cell) .none .none .none (.str "law_figurebook_k39_steps_walked" 363) none (.ref 147) .none),#[]⟩))
    (case x_w_cell=>exact (by kernel_rfl:PySem.W.codeIn (My.hK w.params) (.ref 147) "_law_cell"=true))
    (case k_w_cell=>exact (by kernel_rfl:PySem.W.keepIn (My.hK w.params) (.ref 148)=true))
    (case a_w_tuples=>exact (by kernel_rfl:PySem.W.nsIn (My.hK w.params) mainGlobals "_law_tuples"=some (some (.ref 153))))
    (case l_w_tuples=>exact (by kernel_rfl:(My.hK w.params).lookup 153=some ⟨.type "function",none,.func (PySem.W.fnOf "_law_tuples" "_law_tuples" (L2.defArgs My.s_w_tuples) (L2.defBody My.s_w_tuples) (L2.defScope My.s_w_tuples) .none .none .none (.str "law_figurebook_k39_steps_walked" 363) none (.ref 152) .none),#[]⟩))
    (case x_w_tuples=>exact (by kernel_rfl:PySem.W.codeIn (My.hK w.params) (.ref 152) "_law_tuples"=true))
    (case k_w_tuples=>exact (by kernel_rfl:PySem.W.keepIn (My.hK w.params) (.ref 153)=true))
    (case a_w_put=>exact (by kernel_rfl:PySem.W.nsIn (My.hK w.params) mainGlobals "_law_put"=some (some (.ref 158))))
    (case l_w_put=>exact (by kernel_rfl:(My.hK w.params).lookup 158=some ⟨.type "function",none,.func (PySem.W.fnOf "_law_put" "_law_put" (L2.defArgs My.s_w_put) (L2.defBody My.s_w_put) (L2.defScope My.s_w_put) .none .none .none (.str "law_figurebook_k39_steps_walked" 363) none (.ref 157) .none),#[]⟩))
    (case x_w_put=>exact (by kernel_rfl:PySem.W.codeIn (My.hK w.params) (.ref 157) "_law_put"=true))
    (case k_w_put=>exact (by kernel_rfl:PySem.W.keepIn (My.hK w.params) (.ref 158)=true))
    (case a_w_any=>exact (by kernel_rfl:PySem.W.nsIn (My.hK w.params) mainGlobals "_law_any"=some (some (.ref 165))))
    (case l_w_any=>exact (by kernel_rfl:(My.hK w.params).lookup 165=some ⟨.type "function",none,.func (PySem.W.fnOf "_law_any" "_law_any" (L2.defArgs My.s_w_any) (L2.defBody My.s_w_any) (L2.defScope My.s_w_any) .none .none .none (.str "law_figurebook_k39_steps_walked" 363) none (.ref 164) .none),#[]⟩))
    (case x_w_any=>exact (by kernel_rfl:PySem.W.codeIn (My.hK w.params) (.ref 164) "_law_any"=true))
    (case k_w_any=>exact (by kernel_rfl:PySem.W.keepIn (My.hK w.params) (.ref 165)=true))
    (case a_w_parts=>exact (by kernel_rfl:PySem.W.nsIn (My.hK w.params) mainGlobals "_law_parts"=some (some (.ref 172))))
    (case l_w_parts=>exact (by kernel_rfl:(My.hK w.params).lookup 172=some ⟨.type "function",none,.func (PySem.W.fnOf "_law_parts" "_law_parts" (L2.defArgs My.s_w_parts) (L2.defBody My.s_w_parts) (L2.defScope My.s_w_parts) .none .none .none (.str "law_figurebook_k39_steps_walked" 363) none (.ref 171) .none),#[]⟩))
    (case x_w_parts=>exact (by kernel_rfl:PySem.W.codeIn (My.hK w.params) (.ref 171) "_law_parts"=true))
    (case k_w_parts=>exact (by kernel_rfl:PySem.W.keepIn (My.hK w.params) (.ref 172)=true))
    (case a_w_with=>exact (by kernel_rfl:PySem.W.nsIn (My.hK w.params) mainGlobals "_law_with"=some (some (.ref 179))))
    (case l_w_with=>exact (by kernel_rfl:(My.hK w.params).lookup 179=some ⟨.type "function",none,.func (PySem.W.fnOf "_law_with" "_law_with" (L2.defArgs My.s_w_with) (L2.defBody My.s_w_with) (L2.defScope My.s_w_with) .none .none .none (.str "law_figurebook_k39_steps_walked" 363) none (.ref 178) .none),#[]⟩))
    (case x_w_with=>exact (by kernel_rfl:PySem.W.codeIn (My.hK w.params) (.ref 178) "_law_with"=true))
    (case k_w_with=>exact (by kernel_rfl:PySem.W.keepIn (My.hK w.params) (.ref 179)=true))
    (case a_w_at_top=>exact (by kernel_rfl:PySem.W.nsIn (My.hK w.params) mainGlobals "_law_at_top"=some (some (.ref 186))))
    (case l_w_at_top=>exact (by kernel_rfl:(My.hK w.params).lookup 186=some ⟨.type "function",none,.func (PySem.W.fnOf "_law_at_top" "_law_at_top" (L2.defArgs My.s_w_at_top) (L2.defBody My.s_w_at_top) (L2.defScope My.s_w_at_top) .none .none .none (.str "law_figurebook_k39_steps_walked" 363) none (.ref 185) .none),#[]⟩))
    (case x_w_at_top=>exact (by kernel_rfl:PySem.W.codeIn (My.hK w.params) (.ref 185) "_law_at_top"=true))
    (case k_w_at_top=>exact (by kernel_rfl:PySem.W.keepIn (My.hK w.params) (.ref 186)=true))
    (case a_w_done=>exact (by kernel_rfl:PySem.W.nsIn (My.hK w.params) mainGlobals "_law_done"=some (some (.ref 193))))
    (case l_w_done=>exact (by kernel_rfl:(My.hK w.params).lookup 193=some ⟨.type "function",none,.func (PySem.W.fnOf "_law_done" "_law_done" (L2.defArgs My.s_w_done) (L2.defBody My.s_w_done) (L2.defScope My.s_w_done) .none .none .none (.str "law_figurebook_k39_steps_walked" 363) none (.ref 192) .none),#[]⟩))
    (case x_w_done=>exact (by kernel_rfl:PySem.W.codeIn (My.hK w.params) (.ref 192) "_law_done"=true))
    (case k_w_done=>exact (by kernel_rfl:PySem.W.keepIn (My.hK w.params) (.ref 193)=true))
    (case a_w_paths=>exact (by kernel_rfl:PySem.W.nsIn (My.hK w.params) mainGlobals "_law_paths"=some (some (.ref 200))))
    (case l_w_paths=>exact (by kernel_rfl:(My.hK w.params).lookup 200=some ⟨.type "function",none,.func (PySem.W.fnOf "_law_paths" "_law_paths" (L2.defArgs My.s_w_paths) (L2.defBody My.s_w_paths) (L2.defScope My.s_w_paths) .none .none .none (.str "law_figurebook_k39_steps_walked" 363) none (.ref 199) .none),#[]⟩))
    (case x_w_paths=>exact (by kernel_rfl:PySem.W.codeIn (My.hK w.params) (.ref 199) "_law_paths"=true))
    (case k_w_paths=>exact (by kernel_rfl:PySem.W.keepIn (My.hK w.params) (.ref 200)=true))
    (case a_w_step=>exact (by kernel_rfl:PySem.W.nsIn (My.hK w.params) mainGlobals "_law_step"=some (some (.ref 205))))
    (case l_w_step=>exact (by kernel_rfl:(My.hK w.params).lookup 205=some ⟨.type "function",none,.func (PySem.W.fnOf "_law_step" "_law_step" (L2.defArgs My.s_w_step) (L2.defBody My.s_w_step) (L2.defScope My.s_w_step) .none .none .none (.str "law_figurebook_k39_steps_walked" 363) none (.ref 204) .none),#[]⟩))
    (case x_w_step=>exact (by kernel_rfl:PySem.W.codeIn (My.hK w.params) (.ref 204) "_law_step"=true))
    (case k_w_step=>exact (by kernel_rfl:PySem.W.keepIn (My.hK w.params) (.ref 205)=true))
    (case a_w_walked=>exact (by kernel_rfl:PySem.W.nsIn (My.hK w.params) mainGlobals "_law_walked"=some (some (.ref 212))))
    (case l_w_walked=>exact (by kernel_rfl:(My.hK w.params).lookup 212=some ⟨.type "function",none,.func (PySem.W.fnOf "_law_walked" "_law_walked" (L2.defArgs My.s_w_walked) (L2.defBody My.s_w_walked) (L2.defScope My.s_w_walked) .none .none .none (.str "law_figurebook_k39_steps_walked" 363) none (.ref 211) .none),#[]⟩))
    (case x_w_walked=>exact (by kernel_rfl:PySem.W.codeIn (My.hK w.params) (.ref 211) "_law_walked"=true))
    (case k_w_walked=>exact (by kernel_rfl:PySem.W.keepIn (My.hK w.params) (.ref 212)=true))
    (case a_law=>exact (by kernel_rfl:PySem.W.nsIn (My.hK w.params) mainGlobals "law"=some (some (.ref 219))))
    (case l_law=>exact (by kernel_rfl:(My.hK w.params).lookup 219=some ⟨.type "function",none,.func (PySem.W.fnOf "law" "law" (L2.defArgs My.s_law) (L2.defBody My.s_law) (L2.defScope My.s_law) .none .none .none (.str "law_figurebook_k39_steps_walked" 363) none (.ref 218) .none),#[]⟩))
    (case x_law=>exact (by kernel_rfl:PySem.W.codeIn (My.hK w.params) (.ref 218) "law"=true))
    (case k_law=>exact (by kernel_rfl:PySem.W.keepIn (My.hK w.params) (.ref 219)=true))
    (case m_NoStep=>exact (by kernel_rfl:PySem.W.nsIn (My.hK w.params) mainGlobals "NoStep"=some (some (.ref 75))))
    (case m_FigureError=>exact (by kernel_rfl:PySem.W.nsIn (My.hK w.params) mainGlobals "FigureError"=some (some (.ref 24))))
    (case m_NoFit=>exact (by kernel_rfl:PySem.W.nsIn (My.hK w.params) mainGlobals "NoFit"=some (some (.ref 44))))
    (case m_TooMany=>exact (by kernel_rfl:PySem.W.nsIn (My.hK w.params) mainGlobals "TooMany"=some (some (.ref 56))))
    (case XB=>exact (⟨(by kernel_rfl),(by kernel_rfl),(by kernel_rfl)⟩:L2.XBase (My.hK w.params) 24))
    (case N_NoStep_at=>exact (by kernel_rfl:PySem.W.findIn (My.hK w.params) (.ref 75) "at"=some none))
    (case Y_NoStep_FigureError=>exact (⟨(by kernel_rfl),(by kernel_rfl),(by kernel_rfl),(by kernel_rfl),(by kernel_rfl)⟩:L2.CatchIn (My.hK w.params) 75 24 true))
    (case X_NoStep=>exact (⟨(by kernel_rfl),(by kernel_rfl),(by kernel_rfl),(by kernel_rfl),(by kernel_rfl),(by kernel_rfl),(by kernel_rfl),(by kernel_rfl)⟩:L2.XGet (My.hK w.params) 75))
    (case XI_0=>exact (by kernel_rfl:PySem.W.kitOne (My.hK w.params) (.ref 75) (.ref 75)=some true))
    (case XI_1=>exact (by kernel_rfl:PySem.W.kitOne (My.hK w.params) (.ref 75) (.type "ValueError")=some true))
    (case XI_2=>exact (by kernel_rfl:PySem.W.kitAny (My.hK w.params) (.ref 75) [.ref 44,.ref 56]=some false))
    (case n_ValueError=>exact (by kernel_rfl:PySem.W.nsIn (My.hK w.params) mainGlobals "ValueError"=some none))
    (case n_all=>exact (by kernel_rfl:PySem.W.nsIn (My.hK w.params) mainGlobals "all"=some none))
    (case n_any=>exact (by kernel_rfl:PySem.W.nsIn (My.hK w.params) mainGlobals "any"=some none))
    (case n_bool=>exact (by kernel_rfl:PySem.W.nsIn (My.hK w.params) mainGlobals "bool"=some none))
    (case n_enumerate=>exact (by kernel_rfl:PySem.W.nsIn (My.hK w.params) mainGlobals "enumerate"=some none))
    (case n_int=>exact (by kernel_rfl:PySem.W.nsIn (My.hK w.params) mainGlobals "int"=some none))
    (case n_isinstance=>exact (by kernel_rfl:PySem.W.nsIn (My.hK w.params) mainGlobals "isinstance"=some none))
    (case n_len=>exact (by kernel_rfl:PySem.W.nsIn (My.hK w.params) mainGlobals "len"=some none))
    (case n_list=>exact (by kernel_rfl:PySem.W.nsIn (My.hK w.params) mainGlobals "list"=some none))
    (case n_max=>exact (by kernel_rfl:PySem.W.nsIn (My.hK w.params) mainGlobals "max"=some none))
    (case n_min=>exact (by kernel_rfl:PySem.W.nsIn (My.hK w.params) mainGlobals "min"=some none))
    (case n_range=>exact (by kernel_rfl:PySem.W.nsIn (My.hK w.params) mainGlobals "range"=some none))
    (case n_reversed=>exact (by kernel_rfl:PySem.W.nsIn (My.hK w.params) mainGlobals "reversed"=some none))
    (case n_sorted=>exact (by kernel_rfl:PySem.W.nsIn (My.hK w.params) mainGlobals "sorted"=some none))
    (case n_str=>exact (by kernel_rfl:PySem.W.nsIn (My.hK w.params) mainGlobals "str"=some none))
    (case n_sum=>exact (by kernel_rfl:PySem.W.nsIn (My.hK w.params) mainGlobals "sum"=some none))
    (case n_tuple=>exact (by kernel_rfl:PySem.W.nsIn (My.hK w.params) mainGlobals "tuple"=some none))
    (case n_zip=>exact (by kernel_rfl:PySem.W.nsIn (My.hK w.params) mainGlobals "zip"=some none))
    (case c_MANY=>exact (by kernel_rfl:PySem.W.nsIn (My.hK w.params) mainGlobals "MANY"=some (some (.ref 78))))
    (case o_MANY=>exact (by kernel_rfl:(My.hK w.params).lookup 78=some ⟨.type "tuple",none,.seq #[(.str "row" 275),(.str "bag" 276),(.str "choice" 277),(.str "ring" 278)] 0,#[]⟩))
    (case t_MANY=>exact ⟨rfl,rfl⟩)
    (case i_MANY=>rfl)
