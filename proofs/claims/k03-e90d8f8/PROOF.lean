import PyProof.Rows.All
import Wide.All
import OpenK.AllK
import Wide.FinOn
import Lean
import PyProof.EqAt
import PyProof.EqKinds
import PyProof.TupleCall
import KE.KSortTup
import PyProof.TupleKey
import PyProof.DictRoadsH
import KE.KLam
import KE.KNestM
import KE.KDflt
import KE.KMinKey
import PyProof.Rows.FactsExc_ValueError
import PyProof.StationsW
import PyProof.RulesAs
import PyProof.InstStoreFacts
import PyProof.ExcArgsOwn
import KE.KIsAll
import PyProof.NsDelKeeps
import PyProof.FactsAll.NoneType_1
import PySem.Challenge.RW_figurebook_k03_rule_texts_refused
set_option Elab.async false
set_option compiler.extract_closed false
set_option bootstrap.genMatcherCode false
set_option linter.all false
set_option maxRecDepth 100000
namespace L2
open PySem PySem.Spec PyProof.Rows
noncomputable abbrev Key:=Sum Int Str
noncomputable def keyIs:Key->Value->Bool
  | .inl k,v=>Value.isInt k v
  | .inr x,v=>Value.isStrOf x v
noncomputable def keyH (w:World):Key->Int
  | .inl k=>hashInt k
  | .inr x=>hashStr w x
theorem keyIs_shape:∀ {k:Key} {v:Value},keyIs k v=true->(∃ i t,k=Sum.inl i/\v=Value.int i t)\/(∃ x t,k=Sum.inr x/\v=Value.str x t)
  | .inl i,v,h=>by
    obtain ⟨t,e⟩:=Value.isInt_shape (k:=i) (v:=v) h
    exact .inl ⟨i,t,rfl,e⟩
  | .inr x,v,h=>by
    obtain ⟨t,e⟩:=Value.isStrOf_shape (x:=x) (v:=v) h
    exact .inr ⟨x,t,rfl,e⟩
theorem key_ll (a b:Int):decide ((Sum.inl a:Key)=Sum.inl b)=(a == b):=by
  by_cases e:a=b
  . subst e;simp
  . have h:¬ (Sum.inl a:Key)=Sum.inl b:=fun q=>e (Sum.inl.inj q)
    rw [decide_eq_false h]
    exact (beq_eq_false_iff_ne.mpr e).symm
theorem key_rr (a b:Str):decide ((Sum.inr a:Key)=Sum.inr b)=decide (a=b):=by
  by_cases e:a=b
  . subst e;simp
  . have h:¬ (Sum.inr a:Key)=Sum.inr b:=fun q=>e (Sum.inr.inj q)
    rw [decide_eq_false h,decide_eq_false e]
theorem key_lr (a:Int) (b:Str):decide ((Sum.inl a:Key)=Sum.inr b)=false:=decide_eq_false (fun q=>nomatch q)
theorem key_rl (a:Str) (b:Int):decide ((Sum.inr a:Key)=Sum.inl b)=false:=decide_eq_false (fun q=>nomatch q)
noncomputable def mixKind (prog:Program) (w:World):PySem.KeyKind prog w Key where
  is:=keyIs
  hash:=keyH w
  inj := fun v a b ha hb=>by
    rcases keyIs_shape ha with ⟨i,t,rfl,rfl⟩ | ⟨x,t,rfl,rfl⟩
    . rcases keyIs_shape hb with ⟨j,u,rfl,e⟩ | ⟨y,u,rfl,e⟩
      . injection e with e1 _;rw [e1]
      . exact nomatch e
    . rcases keyIs_shape hb with ⟨j,u,rfl,e⟩ | ⟨y,u,rfl,e⟩
      . exact nomatch e
      . injection e with e1 _;rw [e1]
  byValue:=fun k v h=>by
    rcases keyIs_shape h with ⟨i,t,rfl,rfl⟩ | ⟨x,t,rfl,rfl⟩ <;> rfl
  pyHash:=fun hv h=>by
    rcases keyIs_shape hv with ⟨i,t,rfl,rfl⟩ | ⟨x,t,rfl,rfl⟩
    . exact wpAny_pyHash_int h
    . exact wpAny_pyHash_str h
  eqBool:=fun hu hv h=>by
    rcases keyIs_shape hu with ⟨i,t,rfl,rfl⟩ | ⟨x,t,rfl,rfl⟩
    . rcases keyIs_shape hv with ⟨j,u,rfl,rfl⟩ | ⟨y,u,rfl,rfl⟩
      . rw [key_ll] at h;exact wpAny_eqBool_int h
      . rw [key_lr] at h;exact SeqAt.EqAt.int_str i t y u _ _ _ _ h
    . rcases keyIs_shape hv with ⟨j,u,rfl,rfl⟩ | ⟨y,u,rfl,rfl⟩
      . rw [key_rl] at h;exact SeqAt.EqAt.str_int x t j u _ _ _ _ h
      . rw [key_rr] at h;exact wpAny_eqBool_str h
  «strs»:=fun k x t v h=>by
    rcases keyIs_shape h with ⟨i,u,rfl,e⟩ | ⟨y,u,rfl,e⟩
    . exact nomatch e
    . injection e with e1 _
      subst e1
      cases v <;> rfl
end L2
namespace L2
open PySem PySem.Spec PyProof.Rows
inductive V where
  | non | bl (b:Bool) | int (i:Int) | str (x:Str) | byt (b:Array UInt8) | flt (b:UInt64) | ref (a:Addr) | ty (n:String)
  deriving DecidableEq
noncomputable def RelV:V->Value->Prop
  | .non,u=>u=Value.none
  | .bl b,u=>u=Value.bool b
  | .int i,u=>∃ t,u=Value.int i t
  | .str x,u=>∃ t,u=Value.str x t
  | .byt b,u=>∃ t,u=Value.bytes b t
  | .flt b,u=>∃ t,u=Value.float b t
  | .ref a,u=>u=Value.ref a
  | .ty n,u=>u=Value.type n
noncomputable abbrev Vals:List V->List Value->Prop:=Paired RelV
theorem Vals.length {xs:List V} {us:List Value} (r:Vals xs us):xs.length=us.length:=Paired.length r
theorem Vals.get:∀ {xs:List V} {us:List Value} {i:Nat} {x:V},Vals xs us->xs[i]? = some x->∃ u,us[i]? = some u/\RelV x u
  | _,_,_,_,.nil,e=>by simp at e
  | _,_,0,_,.cons r _,e=>by simp at e;subst e;exact ⟨_,rfl,r⟩
  | _, _,i + 1,x,.cons _ t,e=>by
    obtain ⟨u,h1,h2⟩:=Vals.get (i:=i) (x:=x) t (by simpa using e)
    exact ⟨u,by simpa using h1,h2⟩
theorem Vals.append:∀ {xs ys:List V} {us ws:List Value},Vals xs us->Vals ys ws->Vals (xs++ys) (us++ws)
  | _,_,_,_,.nil,s=>s
  | _,_,_,_,.cons r t,s=>.cons r (Vals.append t s)
theorem Vals.take:∀ {xs:List V} {us:List Value} (n:Nat),Vals xs us->Vals (xs.take n) (us.take n)
  | _,_,0,_=>.nil
  | _,_,_ + 1,.nil=>.nil
  | _,_,n + 1,.cons r t=>.cons r (Vals.take n t)
theorem Vals.drop:∀ {xs:List V} {us:List Value} (n:Nat),Vals xs us->Vals (xs.drop n) (us.drop n)
  | _,_,0,r=>r
  | _,_,_ + 1,.nil=>.nil
  | _,_,n + 1,.cons _ t=>Vals.drop n t
theorem Vals.none_of:∀ {xs:List V} {us:List Value} {i:Nat},Vals xs us->xs[i]? = none->us[i]? = none:=fun {xs us i} r e=>by
  have h1:=r.length
  have h2:xs.length<=i:=List.getElem?_eq_none_iff.mp e
  exact List.getElem?_eq_none_iff.mpr (by lia)
noncomputable def RelO:Option V->Option Value->Prop
  | some v,some u=>RelV v u
  | none,none=>True
  | _,_=>False
noncomputable def KV {κ:Type}:List (κ × V)->List (κ × Value)->Prop:=Paired fun (p:κ × V) (q:κ × Value)=>p.1=q.1/\RelV p.2 q.2
noncomputable def kV:Key->V
  | .inl i=>.int i
  | .inr x=>.str x
inductive HO where
  /-- a list -/
  | lst (xs:List V)
  /-- a tuple (never changes) -/
  | tup (xs:List V)
  /-- a dict whose keys are ints and texts;one whose keys are tuples of ints and texts (the empty one is both) -/
  | dK (kvs:List (Key × V)) | dT (kvs:List (List Key × V))
  /-- a set of ints: its members,its size -/
  | set (S:Int->Bool) (n:Nat)
  /-- an instance of the class at C,its dict at dx,its attributes -/
  | ins (C dx:Addr) (fs:List (Str × V))
  /-- the dict of the instance at x -/
  | own (x:Addr)
  /-- the dict of an exception -/
  | xd (fs:List (Str × V))
  /-- a bound method,f of x -/
  | met (f x:Addr)
  /-- a range object lo,lo + 1,.. below hi -/
  | rng (lo hi:Int)
  /-- a thing that is known to the object (the script;a dict while a loop walks it): read,never written while it is so -/
  | frz (o:Obj) (u:HO)
  /-- a code object's table -/
  | tbl (ps:Array Value)
  /-- any other thing,by what is true of its one object (a def of one's own: SetO a S n:=HO.ext fun h=>..) -/
  | ext (φ:Heap->Prop)
noncomputable abbrev Hp:=Addr->Option HO
noncomputable def upd (H:Hp) (a:Addr) (o:HO):Hp:=fun b=>if b=a then some o else H b
theorem upd_same {H:Hp} {a:Addr} {o:HO}:upd H a o a=some o:=by unfold upd;rw [if_pos rfl]
theorem upd_ne {H:Hp} {a b:Addr} {o:HO} (h:b≠a):upd H a o b=H b:=by unfold upd;rw [if_neg h]
theorem ne_of {H:Hp} {a b:Addr} {o u:HO} (h:H a=some o) (h':H b=some u) (d:o≠u):a≠b:=by
  intro e;subst e;rw [h] at h';exact d (Option.some.inj h')
theorem ne_of_none {H:Hp} {a b:Addr} {o:HO} (h:H a=some o) (h':H b=none):a≠b:=by
  intro e;subst e;rw [h] at h';cases h'
section
variable (P:Program) (w:World)
noncomputable def ObjOk (H:Hp) (h:Heap) (a:Addr):HO->Prop
  | .lst xs=>xs.length<=sizeLine/\∃ (its:List Value) (n:Nat),Vals xs its/\h.get? a=some { cls:=.type "list",data:=.seq its.toArray n }
  | .tup xs=>xs.length<=sizeLine/\∃ its:List Value,Vals xs its/\IsTup h a its.toArray
  | .dK kvs=>kvs.length<=sizeLine/\(a == sysModules)=false/\∃ vs,KV kvs vs/\h.DictOf (mixKind P w) a vs
  | .dT kvs=>kvs.length<=sizeLine/\(a == sysModules)=false/\∃ xs:List (List Key × Addr × Value),
      Paired (fun (p:List Key × V) (q:List Key × Addr × Value)=>p.1=q.1/\H q.2.1=some (.tup (p.1.map kV))/\RelV p.2 q.2.2) kvs xs /\
      ∃ o es ep,h.get? a=some o/\o.ExactDict/\o.data=.dict es ep/\es.toList=xs.map (entryOfKey (tupleKind (mixKind P w)))/\(xs.map (·.1)).Nodup
  | .set S n=>h.SetOf (intKind P w) a S n
  | .ins C dx fs=>H dx=some (.own a)/\fs.length<=1000/\dx≠a/\h.get? a=some (PySem.W.instObj C dx) /\
      ∃ mA,h.Ns1 dx mA/\(∀ f,RelO (fs.lookup f) (mA f))/\PySem.Within mA (fs.map (·.1))
  | .own _=>∃ o,h.get? a=some o
  | .xd fs=>∃ mA,h.Ns1 a mA/\∀ f,RelO (fs.lookup f) (mA f)
  | .rng lo hi=>∃ t u v,h.get? a=some { cls:=.type "range",data:=.fields #[.int lo t,.int hi u,.int 1 v] }
  | .frz o u=>h.get? a=some o/\ObjOk H h a u
  | .tbl ps=>h.get? a=some { cls:=.none,data:=.fields ps }
  | .met f x=>h.get? a=some (PySem.W.methodObj (.ref f) (.ref x))
  | .ext φ=>φ h/\(∃ o,h.get? a=some o)/\∀ h1 h2:Heap,φ h1->(∀ o,h1.get? a=some o->h2.get? a=some o)->φ h2
noncomputable def HOk (H:Hp) (h:Heap):Prop:=∀ a o,H a=some o->ObjOk P w H h a o
end
section
variable {P:Program} {w:World} {H H':Hp} {h h':Heap} {a:Addr} {o:HO}
theorem ObjOk.lt (x:ObjOk P w H h a o):a < h.objs.size:=by
  cases o with
  | lst xs=>obtain ⟨_,_,_,_,e⟩:=x;exact Heap.lt_size e
  | tup xs=>obtain ⟨_,_,_,p⟩:=x;exact p.lt
  | dK kvs=>obtain ⟨_,_,_,_,o,_,_,e,_⟩:=x;exact Heap.lt_size e
  | dT kvs=>obtain ⟨_,_,_,_,o,_,_,e,_⟩:=x;exact Heap.lt_size e
  | set S n=>obtain ⟨o,_,_,_,e,_⟩:=x;exact Heap.lt_size e
  | ins C dx fs=>obtain ⟨_,_,_,e,_⟩:=x;exact Heap.lt_size e
  | own y=>obtain ⟨_,e⟩:=x;exact Heap.lt_size e
  | xd fs=>obtain ⟨_,⟨_,_,_,e,_⟩,_⟩:=x;exact Heap.lt_size e
  | rng lo hi=>obtain ⟨_,_,_,e⟩:=x;exact Heap.lt_size e
  | frz ob u=>obtain ⟨e,_⟩:=x;exact Heap.lt_size e
  | tbl ps=>exact Heap.lt_size (show h.get? a=some _ from x)
  | met f y=>exact Heap.lt_size (show h.get? a=some _ from x)
  | ext φ=>obtain ⟨_,⟨_,e⟩,_⟩:=x;exact Heap.lt_size e
theorem Paired.mapP {α β:Type} {F G:α->β->Prop}:∀ {l₁:List α} {l₂:List β},Paired F l₁ l₂->(∀ a b,F a b->G a b)->Paired G l₁ l₂
  | _,_,.nil,_=>.nil
  | _,_,.cons r t,f=>.cons (f _ _ r) (Paired.mapP t f)
theorem ObjOk.stay (x:ObjOk P w H h a o) (k:∀ b u,(b=a\/H b=some (.own a))->h.get? b=some u->h'.get? b=some u)
    (ho:∀ b,H b=some (.own a)->H' b=some (.own a)) (ht:∀ b xs,H b=some (.tup xs)->H' b=some (.tup xs)):ObjOk P w H' h' a o:=by
  induction o with
  | lst xs=>obtain ⟨z,its,n,r,e⟩:=x;exact ⟨z,its,n,r,k _ _ (.inl rfl) e⟩
  | tup xs=>obtain ⟨z,its,r,ob,e,c⟩:=x;exact ⟨z,its,r,ob,k _ _ (.inl rfl) e,c⟩
  | dK kvs=>obtain ⟨z,y,vs,r,ob,es,ep,e,c⟩:=x;exact ⟨z,y,vs,r,ob,es,ep,k _ _ (.inl rfl) e,c⟩
  | dT kvs =>
    obtain ⟨z,y,xs,r,ob,es,ep,e,c⟩:=x
    exact ⟨z,y,xs,Paired.mapP r fun p q z=>⟨z.1,ht _ _ z.2.1,z.2.2⟩,ob,es,ep,k _ _ (.inl rfl) e,c⟩
  | set S n=>obtain ⟨ob,es,ep,t,e,c⟩:=x;exact ⟨ob,es,ep,t,k _ _ (.inl rfl) e,c⟩
  | ins C dx fs =>
    obtain ⟨d,z,ne,e,mA,⟨od,es,ep,e2,c⟩,r⟩:=x
    exact ⟨ho _ d,z,ne,k _ _ (.inl rfl) e,mA,⟨od,es,ep,k _ _ (.inr d) e2,c⟩,r⟩
  | own y=>obtain ⟨ob,e⟩:=x;exact ⟨ob,k _ _ (.inl rfl) e⟩
  | xd fs=>obtain ⟨mA,⟨od,es,ep,e,c⟩,r⟩:=x;exact ⟨mA,⟨od,es,ep,k _ _ (.inl rfl) e,c⟩,r⟩
  | rng lo hi=>obtain ⟨t,u,v,e⟩:=x;exact ⟨t,u,v,k _ _ (.inl rfl) e⟩
  | frz ob u ih=>obtain ⟨e,q⟩:=x;exact ⟨k _ _ (.inl rfl) e,ih q⟩
  | tbl ps =>
    have e:h.get? a=some { cls:=.none,data:=.fields ps }:=x
    show h'.get? a=some { cls:=.none,data:=.fields ps }
    exact k a _ (.inl rfl) e
  | met f y =>
    have e:h.get? a=some (PySem.W.methodObj (.ref f) (.ref y)):=x
    show h'.get? a=some (PySem.W.methodObj (.ref f) (.ref y))
    exact k a _ (.inl rfl) e
  | ext φ=>obtain ⟨p,⟨o,e⟩,st⟩:=x;exact ⟨st _ _ p fun o q=>k _ _ (.inl rfl) q,⟨o,k _ _ (.inl rfl) e⟩,st⟩
theorem HOk.lt (x:HOk P w H h) (e:H a=some o):a < h.objs.size:=(x a o e).lt
theorem HOk.fresh (x:HOk P w H h) (e:h.objs.size<=a):H a=none:=by
  cases q:H a with
  | none=>rfl
  | some u=>exact absurd (Nat.lt_of_lt_of_le (x.lt q) e) (Nat.lt_irrefl _)
theorem HOk.kept (x:HOk P w H h) (k:∀ b u,h.get? b=some u->h'.get? b=some u):HOk P w H h':=fun a o e =>
  (x a o e).stay (fun b u _ q=>k b u q) (fun _ q=>q) fun _ _ q=>q
theorem HOk.laid (x:HOk P w H h) (k:∀ b u,h.get? b=some u->h'.get? b=some u) (hp:h.objs.size<=a) (new:ObjOk P w (upd H a o) h' a o):HOk P w (upd H a o) h':=fun b u e=>by
  have hn:=x.fresh hp
  by_cases hb:b=a
  . subst hb;rw [upd_same] at e;cases e;exact new
  . rw [upd_ne hb] at e
    exact (x b u e).stay (fun c v _ q=>k c v q) (fun c q=>by rw [upd_ne (ne_of_none q hn)];exact q) fun c xs q=>by rw [upd_ne (ne_of_none q hn)];exact q
end
noncomputable def Rd (H:Hp) (a:Addr) (u:HO):Prop:=H a=some u\/∃ o,H a=some (.frz o u)
theorem Rd.ok {P:Program} {w:World} {H:Hp} {h:Heap} {a:Addr} {u:HO} (r:Rd H a u) (x:HOk P w H h):ObjOk P w H h a u:=by
  rcases r with r | ⟨o,r⟩
  . exact x a u r
  . obtain ⟨_,q⟩:=x a _ r
    exact q
noncomputable def Mut:Option HO->Prop
  | some (.lst _)=>True
  | some (.dK _)=>True
  | some (.dT _)=>True
  | some (.set _ _)=>True
  | some (.ins _ _ _)=>True
  | some (.ext _)=>True
  | _=>False
section
variable {P:Program} {w:World} {H:Hp} {h h':Heap} {x e:Addr} {o':HO}
theorem HOk.write (ok:HOk P w H h) (mu:Mut (H x)) (he:e=x\/H e=some (.own x)) (k:∀ b u,b≠e->h.get? b=some u->h'.get? b=some u) (heo:∃ u,h'.get? e=some u)
    (new:ObjOk P w (upd H x o') h' x o'):HOk P w (upd H x o') h':=fun b u q=>by
  have nown:∀ c y,H c=some (.own y)->c≠x:=fun c y r z=>by subst z;rw [r] at mu;exact mu
  have ntup:∀ c xs,H c=some (.tup xs)->c≠x:=fun c xs r z=>by subst z;rw [r] at mu;exact mu
  by_cases hb:b=x
  . subst hb;rw [upd_same] at q;cases q;exact new
  . rw [upd_ne hb] at q
    by_cases hbe:b=e
    . have q':H b=some (.own x):=by
        rcases he with z | z
        . exact absurd (hbe.trans z) hb
        . rw [hbe];exact z
      rw [q] at q';cases q'
      obtain ⟨v,hv⟩:=heo
      exact ⟨v,by rw [hbe];exact hv⟩
    . refine (ok b u q).stay (fun c v hc r=>k c v ?_ r) (fun c r=>by rw [upd_ne (nown c b r)];exact r) fun c xs r=>by rw [upd_ne (ntup c xs r)];exact r
      rcases hc with rfl | hc
      . exact hbe
      . rintro rfl
        rcases he with z | z
        . exact nown c b hc z
        . rw [hc] at z;cases z;exact hb rfl
end
structure Un (fs ex:List Addr) (H H':Hp) (h h':Heap):Prop where
  keep:∀ b o,h.get? b=some o->H b=none->b ∉ fs->b ∉ ex->h'.get? b=some o
  slot:∀ b o,h.get? b=some o->H b=none->b∈fs->b ∉ ex->∃ sl,h'.get? b=some { o with slots:=sl }
  free:∀ b o,h.get? b=some o->H b=none->b ∉ ex->H' b=none
  there:∀ b o,h.get? b=some o->b ∉ ex->∃ o',h'.get? b=some o'
  tups:∀ b xs,H b=some (.tup xs)->H' b=some (.tup xs)
  frzs:∀ b o u,H b=some (.frz o u)->H' b=some (.frz o u)
  tbls:∀ b ps,H b=some (.tbl ps)->∃ more,H' b=some (.tbl (ps++more))
section
variable {fs fs' ex ex':List Addr} {H H1 H2:Hp} {h h1 h2 h':Heap} {a x e:Addr} {o:HO}
theorem Un.any (u:Un fs ex H H1 h h1) {b:Addr} {ob:Obj} (q:h.get? b=some ob) (n:H b=none) (hx:b ∉ ex):∃ sl,h1.get? b=some { ob with slots:=sl }:=by
  by_cases hb:b∈fs
  . exact u.slot b ob q n hb hx
  . exact ⟨ob.slots,u.keep b ob q n hb hx⟩
theorem Un.kept (k:∀ b u,h.get? b=some u->h'.get? b=some u):Un fs ex H H h h' :=
  ⟨fun b ob q _ _ _=>k b ob q,fun b ob q _ _ _=>⟨ob.slots,k b ob q⟩,fun _ _ _ n _=>n,fun b ob q _=>⟨ob,k b ob q⟩,fun _ _ q=>q,fun _ _ _ q=>q,fun _ ps q=>⟨#[],by rw [q];simp⟩⟩
theorem Un.refl:Un fs ex H H h h:=Un.kept fun _ _ q=>q
theorem Un.laid (k:∀ b u,h.get? b=some u->h'.get? b=some u) (hp:h.objs.size<=a) (hn:H a=none):Un fs ex H (upd H a o) h h' where
  keep:=fun b u q _ _ _=>k b u q
  slot:=fun b u q _ _ _=>⟨u.slots,k b u q⟩
  free:=fun b u q n _=>by rw [upd_ne (Nat.ne_of_lt (Nat.lt_of_lt_of_le (Heap.lt_size q) hp))];exact n
  there:=fun b u q _=>⟨u,k b u q⟩
  tups:=fun b xs q=>by rw [upd_ne (ne_of_none q hn)];exact q
  frzs:=fun b u xs q=>by rw [upd_ne (ne_of_none q hn)];exact q
  tbls:=fun b ps q=>⟨#[],by rw [upd_ne (ne_of_none q hn),q];simp⟩
theorem Un.write (mu:Mut (H x)) (he:e=x\/H e=some (.own x)) (k:∀ b u,b≠e->h.get? b=some u->h'.get? b=some u) (heo:∃ u,h'.get? e=some u):Un fs ex H (upd H x o) h h':=by
  have hx:∀ b,H b=none->b≠x:=fun b n z=>by subst z;rw [n] at mu;exact mu
  have hb:∀ b,H b=none->b≠e:=fun b n z=>by
    subst z
    rcases he with r | r
    . exact hx b n r
    . rw [n] at r;cases r
  have hm:∀ b u,H b=some u->¬ Mut (some u)->b≠x:=fun b u q nm z=>by subst z;rw [q] at mu;exact nm mu
  refine ⟨fun b u q n _ _=>k b u (hb b n) q,fun b u q n _ _=>⟨u.slots,k b u (hb b n) q⟩,fun b u q n _=>by rw [upd_ne (hx b n)];exact n,fun b u q _=>?_,
    fun b xs q=>by rw [upd_ne (hm b _ q fun z=>z)];exact q,fun b u xs q=>by rw [upd_ne (hm b _ q fun z=>z)];exact q,fun b ps q=>⟨#[],by rw [upd_ne (hm b _ q fun z=>z),q];simp⟩⟩
  by_cases hbe:b=e
  . subst hbe;exact heo
  . exact ⟨u,k b u hbe q⟩
end
noncomputable def trk (h:Heap) (H:Hp):List Addr:=(List.range h.objs.size).filter fun a=>(H a).isSome
noncomputable def hidT (h:Heap) (H:Hp):Heap:=PySem.W.hideAll h (trk h H)
theorem hidT_size (h:Heap) (H:Hp):(hidT h H).objs.size=h.objs.size:=PySem.W.hideAll_size _ _
theorem hidT_get {h:Heap} {H:Hp} {b:Addr} {o:Obj} (e:h.get? b=some o) (n:H b=none):(hidT h H).get? b=some o :=
  PySem.W.hideAll_get _ e fun hm=>by
    have q:(H b).isSome=true:=(List.mem_filter.mp hm).2
    rw [n] at q;simp at q
theorem of_hidT {h:Heap} {H:Hp} {b:Addr} {o:Obj} (e:(hidT h H).get? b=some o):h.get? b=some o/\H b=none:=by
  have e':h.get? b=some o:=PySem.W.of_hideAll (trk h H) e
  refine ⟨e',?_⟩
  cases q:H b with
  | none=>rfl
  | some x =>
    have hm:b∈trk h H:=List.mem_filter.mpr ⟨List.mem_range.mpr (Heap.lt_size e'),by simp [q]⟩
    have z:(hidT h H).get? b=none:=PySem.W.hideAll_none (trk h H) hm
    rw [z] at e;cases e
noncomputable def allNews (g h:Heap) (L:Addr):List (Addr × Obj):=(List.range h.objs.size).filterMap fun a=>if a=L\/(g.get? a).isSome=true then none else (h.get? a).map fun o=>(a,o)
noncomputable def rest (g h:Heap) (L d:Addr):List (Addr × Obj):=(allNews g h L).filter fun p=>decide (p.1≠d)
end L2
namespace L2
open PySem PySem.Spec PyProof.Rows
structure Mod (K:PySem.W.Frag) (mg:Str->Option Value) (base:Heap):Prop where
  kin:K.In base
  glob:base.Ns mainGlobals mg
  blt:∃ mb,base.Ns builtinsNs mb/\∀ x:Str,x≠"__name__"->mb x=bootBuiltins x
  nolimit:base.NoLimit
structure Cx where
  prog:Program
  w : World
  K : PySem.W.Frag
  mg:Str->Option Value
  base:Heap
  A : Around
  N : List Str
  s₀:Shared
  H₀:Hp
  env:Env
  outer:List Env
  stack:List Env
  ex:List Addr
  fn:Str->Bool
  calm:Bool
  pn:List (Addr × Obj)
  xe:Value->Shared->Prop
noncomputable def frs (l:List Env):List Addr:=l.filterMap (·.frame)
noncomputable abbrev Cx.fs (X:Cx):List Addr:=frs X.outer
noncomputable def Vis (sc:Scope) (x:Str):Prop:=sc.names.lookup x=some .local\/sc.names.lookup x=some .cell\/sc.names.lookup x=some .free
noncomputable def Loc (sc:Scope) (x:Str):Prop:=sc.names.lookup x=some .local\/sc.names.lookup x=some .cell
noncomputable def Look (env:Env) (h:Heap) (m:Str->Option Value) (x:Str) (u:Value):Prop :=
  (env.kindOf x=some .local/\m x=some u)\/((env.kindOf x=some .cell\/env.kindOf x=some .free)/\∃ c,env.cells.lookup x=some c/\h.IsCell c (some u))
structure Cx.Ok (X:Cx):Prop where
  mod:Mod X.K X.mg X.base
  kind:X.env.scope.kind=.function
  glob:X.env.globals=mainGlobals
  blt:X.env.builtins=builtinsNs
  above:X.s₀.heap.objs.size<=X.env.locals
  inj:∀ x y c,X.env.cells.lookup x=some c->X.env.cells.lookup y=some c->x=y
  has:∀ x,(X.env.kindOf x=some .cell\/X.env.kindOf x=some .free)->∃ c,X.env.cells.lookup x=some c
  cab:∀ x c,X.fn x=true->X.env.cells.lookup x=some c->X.s₀.heap.objs.size<=c
  hd:X.calm=true->X.A.handled=none
  frames:X.A.frames=some X.stack
  stk:X.stack=X.outer\/(X.stack=X.env::X.outer/\X.env.frame=some X.env.locals)
  exf:∀ b∈X.ex,b≠X.env.locals/\∀ x c,X.env.cells.lookup x=some c->c≠b
  bs:∀ b o,X.base.get? b=some o->X.s₀.heap.get? b=some o/\X.H₀ b=none
  bsz:X.base.objs.size<=X.s₀.heap.objs.size
  noex:∀ b o,X.base.get? b=some o->b ∉ X.ex
  exfs:∀ b∈X.ex,b ∉ X.fs
  funs:X.s₀.heap.FunFrames X.base X.outer
  frf:∀ b∈X.fs,X.H₀ b=none
structure Inv (X:Cx) (pins:List (Addr × Obj)) (σ:List (Option V)) (H:Hp) (s:Shared):Prop where
  ok:X.Ok
  os:s.os=X.s₀.os
  bare:AllBare s.gens
  base:Un X.fs X.ex X.H₀ H X.s₀.heap s.heap
  loc:∃ m,s.heap.Ns X.env.locals m/\∀ (i:Nat) (x:Str) (v:V),X.N[i]? = some x->σ[i]? = some (some v)->Vis X.env.scope x->∃ u,RelV v u/\Look X.env s.heap m x u
  cell:∀ x c,X.env.cells.lookup x=some c->∃ v,s.heap.IsCell c v
  free:H X.env.locals=none
  freeC:∀ x c,X.env.cells.lookup x=some c->H c=none
  pin:∀ p∈X.pn++pins,s.heap.get? p.1=some p.2/\H p.1=none/\p.1≠X.env.locals/\p.1 ∉ X.fs/\∀ v,p.2.data≠.cell v
  hok:HOk X.prog X.w H s.heap
  len:σ.length=X.N.length
section
variable {X:Cx} {pins:List (Addr × Obj)} {σ:List (Option V)} {H H':Hp} {s:Shared} {h':Heap}
theorem Cx.Ok.nofr (ok:X.Ok) {b:Addr} {o:Obj} (e:X.base.get? b=some o):b ∉ X.fs:=fun hb=>by
  have:=(ok.funs.mem hb).1
  rw [e] at this;cases this
theorem Inv.bs (I:Inv X pins σ H s):∀ b o,X.base.get? b=some o->s.heap.get? b=some o/\H b=none:=fun b o e =>
  ⟨I.base.keep b o (I.ok.bs b o e).1 (I.ok.bs b o e).2 (I.ok.nofr e) (I.ok.noex b o e),I.base.free b o (I.ok.bs b o e).1 (I.ok.bs b o e).2 (I.ok.noex b o e)⟩
theorem Inv.bk (I:Inv X pins σ H s):∀ b o,X.base.get? b=some o->s.heap.get? b=some o:=fun b o e=>(I.bs b o e).1
theorem Inv.mod (I:Inv X pins σ H s):Mod X.K X.mg X.base:=I.ok.mod
theorem Inv.kIn (I:Inv X pins σ H s):X.K.In s.heap:=I.ok.mod.kin.keeps I.bk
theorem Inv.lt (I:Inv X pins σ H s):X.env.locals < s.heap.objs.size:=let ⟨_,hn,_⟩:=I.loc;hn.lt
theorem Inv.sz (I:Inv X pins σ H s):X.s₀.heap.objs.size<=s.heap.objs.size:=Nat.le_trans I.ok.above (Nat.le_of_lt I.lt)
theorem Inv.nofs (I:Inv X pins σ H s) {a:Addr} (h:s.heap.objs.size<=a):a ∉ X.fs:=fun hb=>by
  obtain ⟨_,o,ho,_⟩:=I.ok.funs.mem hb
  exact absurd (Nat.lt_of_lt_of_le (Heap.lt_size ho) (Nat.le_trans I.sz h)) (Nat.lt_irrefl _)
theorem Inv.cne (I:Inv X pins σ H s):∀ x c,X.env.cells.lookup x=some c->c≠X.env.locals:=fun x c e z=>by
  obtain ⟨v,o,ho,hd⟩:=I.cell x c e
  obtain ⟨m,⟨o',es,ep,ho',hd',_⟩,_⟩:=I.loc
  rw [z,ho'] at ho;cases ho;rw [hd'] at hd;cases hd
theorem Inv.funs (I:Inv X pins σ H s):s.heap.FunFrames X.base X.outer:=by
  have all:∀ (l:List Env),(∀ b∈frs l,b∈X.fs)->X.s₀.heap.FunFrames X.base l->s.heap.FunFrames X.base l:=by
    intro l
    induction l with
    | nil=>intro _ _;trivial
    | cons env r ih =>
      intro hs hl
      obtain ⟨hk,⟨L,o,hf,hn,ho,hd⟩,hr⟩:=hl
      have hL:L∈X.fs:=hs L (by unfold frs;rw [List.filterMap_cons,hf];exact List.mem_cons_self)
      obtain ⟨sl,e⟩:=I.base.slot L o ho (I.ok.frf L hL) hL fun z=>I.ok.exfs L z hL
      exact ⟨hk,⟨L,_,hf,hn,e,hd⟩,ih (fun b hb=>hs b (by unfold frs;rw [List.filterMap_cons,hf];exact List.mem_cons_of_mem _ hb)) hr⟩
  exact all X.outer (fun _ hb=>hb) I.ok.funs
theorem Inv.stack (I:Inv X pins σ H s):s.heap.FunFrames X.base X.stack:=by
  rcases I.ok.stk with e | ⟨e,hf⟩
  . rw [e];exact I.funs
  . rw [e]
    obtain ⟨m,hn,_⟩:=I.loc
    refine .cons (by rw [I.ok.kind];decide) hf hn ?_ I.funs
    exact Heap.get?_none_of_le (Nat.le_trans I.ok.bsz I.ok.above)
theorem Inv.stkSub (I:Inv X pins σ H s):∀ b∈frs X.stack,b∈X.env.locals::X.fs:=fun b hb=>by
  rcases I.ok.stk with e | ⟨e,hf⟩
  . rw [e] at hb;exact List.mem_cons_of_mem _ hb
  . rw [e] at hb
    unfold frs at hb
    rw [List.filterMap_cons,hf] at hb
    exact hb
theorem Inv.stkFree (I:Inv X pins σ H s):∀ b∈frs X.stack,H b=none:=fun b hb=>by
  rcases List.mem_cons.mp (I.stkSub b hb) with e | hb
  . rw [e];exact I.free
  . obtain ⟨_,o,ho,_⟩:=I.ok.funs.mem hb
    exact I.base.free b o ho (I.ok.frf b hb) fun z=>I.ok.exfs b z hb
theorem Inv.step {g':Array GenState} {t':Nat} {d':Drawn} {ch:List Addr} (I:Inv X pins σ H s)
    (hch:∀ b∈ch,(b∈X.ex\/X.s₀.heap.objs.size<=b)/\b≠X.env.locals/\(∀ x c,X.env.cells.lookup x=some c->c≠b)/\∀ p∈X.pn++pins,p.1≠b)
    (keep:∀ b o,b≠X.env.locals->b ∉ X.fs->b ∉ ch->s.heap.get? b=some o->H b=none->h'.get? b=some o)
    (slot:∀ b o,b≠X.env.locals->b∈X.fs->b ∉ ch->s.heap.get? b=some o->H b=none->∃ sl,h'.get? b=some { o with slots:=sl }) (free:∀ b o,b ∉ ch->s.heap.get? b=some o->H b=none->H' b=none)
    (there:∀ b o,b ∉ ch->s.heap.get? b=some o->∃ o',h'.get? b=some o')
    (tups:∀ b xs,H b=some (.tup xs)->H' b=some (.tup xs)) (frzs:∀ b o u,H b=some (.frz o u)->H' b=some (.frz o u)) (tbls:∀ b ps,H b=some (.tbl ps)->∃ more,H' b=some (.tbl (ps++more)))
    (ns:∀ m,s.heap.Ns X.env.locals m->h'.Ns X.env.locals m) (hok:HOk X.prog X.w H' h') (hg:AllBare g') :
    Inv X pins σ H' { s with heap:=h',gens:=g',drawn:=d',toks:=t' }:=by
  have neL:∀ b o,X.s₀.heap.get? b=some o->b≠X.env.locals:=fun b o e=>Nat.ne_of_lt (Nat.lt_of_lt_of_le (Heap.lt_size e) I.ok.above)
  have neC:∀ b o,X.s₀.heap.get? b=some o->b ∉ X.ex->b ∉ ch:=fun b o e hx hb=>by
    rcases (hch b hb).1 with z | z
    . exact hx z
    . exact absurd (Nat.lt_of_lt_of_le (Heap.lt_size e) z) (Nat.lt_irrefl _)
  have cellK:∀ x c,X.env.cells.lookup x=some c->∀ v,s.heap.IsCell c v->h'.IsCell c v:=fun x c e v hq0=>by
    obtain ⟨o,ho,hd⟩:=hq0
    have nch:c ∉ ch:=fun z=>(hch c z).2.2.1 x c e rfl
    by_cases hc:c∈X.fs
    . obtain ⟨sl,q⟩:=slot c o (I.cne x c e) hc nch ho (I.freeC x c e)
      exact ⟨_,q,hd⟩
    . exact ⟨o,keep c o (I.cne x c e) hc nch ho (I.freeC x c e),hd⟩
  refine ⟨I.ok,I.os,hg,⟨fun b o e n hb hx=>?_,fun b o e n hb hx=>?_,fun b o e n hx=>?_,fun b o e hx=>?_,fun b xs e=>tups b xs (I.base.tups b xs e),fun b o xs e=>frzs b o xs (I.base.frzs b o xs e),fun b ps e=>?_⟩,?_,fun x c e=>?_,?_,fun x c e=>?_,fun p hp=>?_,hok,I.len⟩
  . exact keep b o (neL b o e) hb (neC b o e hx) (I.base.keep b o e n hb hx) (I.base.free b o e n hx)
  . obtain ⟨sl,e1⟩:=I.base.slot b o e n hb hx
    obtain ⟨sl',e2⟩:=slot b _ (neL b o e) hb (neC b o e hx) e1 (I.base.free b o e n hx)
    exact ⟨sl',e2⟩
  . obtain ⟨o',e1⟩:=I.base.there b o e hx
    exact free b o' (neC b o e hx) e1 (I.base.free b o e n hx)
  . obtain ⟨o',e1⟩:=I.base.there b o e hx
    exact there b o' (neC b o e hx) e1
  . obtain ⟨m1,e1⟩:=I.base.tbls b ps e
    obtain ⟨m2,e2⟩:=tbls b _ e1
    exact ⟨m1++m2,by rw [e2,Array.append_assoc]⟩
  . obtain ⟨m,hn,hl⟩:=I.loc
    refine ⟨m,ns m hn,fun i x v e1 e2 e3=>?_⟩
    obtain ⟨u,r,l⟩:=hl i x v e1 e2 e3
    refine ⟨u,r,?_⟩
    rcases l with l | ⟨k,c,e,z⟩
    . exact .inl l
    . exact .inr ⟨k,c,e,cellK x c e _ z⟩
  . obtain ⟨v,z⟩:=I.cell x c e
    exact ⟨v,cellK x c e v z⟩
  . obtain ⟨m,⟨o,_,_,ho,_⟩,_⟩:=I.loc
    exact free _ o (fun z=>(hch _ z).2.1 rfl) ho I.free
  . obtain ⟨v,o,ho,hd⟩:=I.cell x c e
    exact free c o (fun z=>(hch c z).2.2.1 x c e rfl) ho (I.freeC x c e)
  . obtain ⟨e,n,ne,nf,d⟩:=I.pin p hp
    have nch:p.1 ∉ ch:=fun z=>(hch p.1 z).2.2.2 p hp rfl
    exact ⟨keep p.1 p.2 ne nf nch e n,free p.1 p.2 nch e n,ne,nf,d⟩
theorem Inv.un {t':Nat} (I:Inv X pins σ H s) (u:Un X.fs [] H H' s.heap h') (hok:HOk X.prog X.w H' h'):Inv X pins σ H' { s with heap:=h',toks:=t' }:=by
  obtain ⟨m,⟨o,es,ep,ho,r⟩,_⟩:=id I.loc
  obtain ⟨sl,hL⟩:=u.any ho I.free (by simp)
  exact I.step (g':=s.gens) (d':=s.drawn) (ch:=[]) (fun _ z=>nomatch z) (fun b o _ hb _ e n=>u.keep b o e n hb (by simp)) (fun b o _ hb _ e n=>u.slot b o e n hb (by simp)) (fun b o _ e n=>u.free b o e n (by simp)) (fun b o _ e=>u.there b o e (by simp)) u.tups u.frzs u.tbls (fun m' hm=>by
    obtain ⟨o',es',ep',ho',r'⟩:=hm
    rw [ho] at ho';cases ho'
    exact ⟨_,es',ep',hL,r'⟩) hok I.bare
theorem Inv.call {g':Array GenState} {t':Nat} {d':Drawn} {ch:List Addr} (I:Inv X pins σ H s) (u:Un (frs X.stack) ch H H' s.heap h') (hok:HOk X.prog X.w H' h') (hg:AllBare g')
    (hch:∀ b∈ch,(b∈X.ex\/X.s₀.heap.objs.size<=b)/\b≠X.env.locals/\(∀ x c,X.env.cells.lookup x=some c->c≠b)/\∀ p∈X.pn++pins,p.1≠b) :
    Inv X pins σ H' { s with heap:=h',gens:=g',drawn:=d',toks:=t' }:=by
  obtain ⟨m,⟨o,es,ep,ho,r⟩,_⟩:=id I.loc
  obtain ⟨sl,hL⟩:=u.any ho I.free fun z=>(hch _ z).2.1 rfl
  exact I.step (ch:=ch) hch (fun b o hL hb hc e n=>u.keep b o e n (fun z=>(List.mem_cons.mp (I.stkSub b z)).elim hL hb) hc) (fun b o _ _ hc e n=>u.any e n hc) (fun b o hc e n=>u.free b o e n hc) (fun b o hc e=>u.there b o e hc) u.tups u.frzs u.tbls (fun m' hm=>by
    obtain ⟨o',es',ep',ho',r'⟩:=hm
    rw [ho] at ho';cases ho'
    exact ⟨_,es',ep',hL,r'⟩) hok hg
theorem Inv.turned {t':Nat} {it:Addr} (I:Inv X pins σ H s) (k:∀ b o,b≠it->s.heap.get? b=some o->h'.get? b=some o) (hn:H it=none) (hL:it≠X.env.locals)
    (h1:it∈X.ex\/X.s₀.heap.objs.size<=it) (h2:∀ x c,X.env.cells.lookup x=some c->c≠it) (h3:∀ p∈X.pn++pins,p.1≠it):Inv X pins σ H { s with heap:=h',toks:=t' }:=by
  have nit:∀ b u,H b=some u->b≠it:=fun b u e z=>by rw [z,hn] at e;cases e
  refine I.step (g':=s.gens) (d':=s.drawn) (ch:=[it]) (fun b hb=>?_) (fun b o _ _ hc e _=>k b o (fun z=>hc (by simp [z])) e) (fun b o _ _ hc e _=>⟨o.slots,k b o (fun z=>hc (by simp [z])) e⟩) (fun _ _ _ _ n=>n)
    (fun b o hc e=>⟨o,k b o (fun z=>hc (by simp [z])) e⟩) (fun _ _ e=>e) (fun _ _ _ e=>e) (fun b ps e=>⟨#[],by rw [e];simp⟩) (fun m hm=>?_) (fun b u e=>?_) I.bare
  . have e:b=it:=by simpa using hb
    subst e
    exact ⟨h1,hL,h2,h3⟩
  . obtain ⟨o,es,ep,ho,r⟩:=hm
    exact ⟨o,es,ep,k _ o (Ne.symm hL) ho,r⟩
  . refine (I.hok b u e).stay (fun c v hc q=>k c v ?_ q) (fun _ q=>q) fun _ _ q=>q
    rcases hc with z | z
    . rw [z];exact nit b u e
    . exact nit c _ z
theorem Inv.tok (I:Inv X pins σ H s) (t:Nat):Inv X pins σ H { s with toks:=t }:=I.un (h':=s.heap) (t':=t) Un.refl I.hok
theorem Inv.kept {t':Nat} (I:Inv X pins σ H s) (k:∀ b u,s.heap.get? b=some u->h'.get? b=some u):Inv X pins σ H { s with heap:=h',toks:=t' }:=I.un (Un.kept k) (I.hok.kept k)
theorem Inv.laid {a:Addr} {o:HO} {t':Nat} (I:Inv X pins σ H s) (k:∀ b u,s.heap.get? b=some u->h'.get? b=some u) (hp:s.heap.objs.size<=a) (new:ObjOk X.prog X.w (upd H a o) h' a o) :
    Inv X pins σ (upd H a o) { s with heap:=h',toks:=t' }:=I.un (Un.laid k hp (I.hok.fresh hp)) (I.hok.laid k hp new)
theorem Inv.write {x e:Addr} {o:HO} {t':Nat} (I:Inv X pins σ H s) (mu:Mut (H x)) (he:e=x\/H e=some (.own x)) (k:∀ b u,b≠e->s.heap.get? b=some u->h'.get? b=some u) (heo:∃ u,h'.get? e=some u)
    (new:ObjOk X.prog X.w (upd H x o) h' x o):Inv X pins σ (upd H x o) { s with heap:=h',toks:=t' }:=I.un (Un.write mu he k heo) (I.hok.write mu he k heo new)
theorem Inv.pins_of {pins':List (Addr × Obj)} (I:Inv X pins σ H s) (h:∀ p∈pins',s.heap.get? p.1=some p.2/\H p.1=none/\p.1≠X.env.locals/\p.1 ∉ X.fs/\∀ v,p.2.data≠.cell v):Inv X pins' σ H s :=
  ⟨I.ok,I.os,I.bare,I.base,I.loc,I.cell,I.free,I.freeC,fun p hp=>(List.mem_append.mp hp).elim (fun z=>I.pin p (List.mem_append_left _ z)) (h p),I.hok,I.len⟩
theorem nodup_ix {N:List Str} (hN:N.Nodup) {i j:Nat} {x:Str} (a:N[i]? = some x) (b:N[j]? = some x):i=j:=by
  obtain ⟨h1,e1⟩:=List.getElem?_eq_some_iff.mp a
  obtain ⟨h2,e2⟩:=List.getElem?_eq_some_iff.mp b
  exact (List.getElem_inj hN).mp (e1.trans e2.symm)
theorem store_ok2 {M:Model} {A:Around} {E:Value->Shared->Prop} {i:Nat} {x:Str} {v:V} {u:Value} {Q:Unit->Shared->Prop} (I:Inv X pins σ H s) (hN:X.N.Nodup) (hi:X.N[i]? = some x) (hx:Loc X.env.scope x) (r:RelV v u)
    (h:∀ s',Inv X pins (σ.set i (some v)) H s'->(∃ a,Heap.SameBut a s.heap s'.heap/\(a=X.env.locals\/X.env.cells.lookup x=some a))->Q () s') (hf:X.fn x=true\/X.env.scope.names.lookup x=some .local:=by first | exact .inl rfl | exact .inr rfl | assumption):wpAny M A (storeName X.env x u) Q E s:=by
  obtain ⟨m,hn,hl⟩:=id I.loc
  have hcls:(X.env.scope.kind == .class || (X.env.scope.kind == .module && X.env.locals != X.env.globals))=false:=by rw [I.ok.kind];rfl
  have hiσ:i < σ.length:=by rw [I.len];exact (List.getElem?_eq_some_iff.mp hi).1
  have cne:=I.cne
  have tracked:∀ {a:Addr} {h':Heap},(∃ o,s.heap.get? a=some o/\H a=none)->Heap.SameBut a s.heap h'->HOk X.prog X.w H h':=fun {a h'} ha hs b ob e=>by
    obtain ⟨_,_,hfree⟩:=ha
    refine (I.hok b ob e).stay (fun c w' hc q=>(hs.2 c ?_).trans q) (fun _ q=>q) fun _ _ q=>q
    rintro rfl
    rcases hc with rfl | hc
    . rw [hfree] at e;cases e
    . rw [hfree] at hc;cases hc
  rcases hx with hk | hk
  . refine wpAny_storeName_local hk hn (fun h' hn' hs=>?_) hcls
    obtain ⟨oL,_,_,hoL,_⟩:=id hn
    refine h _ ⟨I.ok,I.os,I.bare,⟨fun b o e n hb hx=>?_,fun b o e n hb hx=>?_,I.base.free,fun b o e hx=>?_,I.base.tups,I.base.frzs,I.base.tbls⟩,⟨_,hn',fun j y v' e1 e2 e3=>?_⟩,fun y c e=>?_,I.free,I.freeC,fun p hp=>?_,tracked ⟨oL,hoL,I.free⟩ hs,by simpa using I.len⟩ ⟨_,hs,.inl rfl⟩
    . exact (hs.2 b (Nat.ne_of_lt (Nat.lt_of_lt_of_le (Heap.lt_size e) I.ok.above))).trans (I.base.keep b o e n hb hx)
    . obtain ⟨sl,e1⟩:=I.base.slot b o e n hb hx
      exact ⟨sl,(hs.2 b (Nat.ne_of_lt (Nat.lt_of_lt_of_le (Heap.lt_size e) I.ok.above))).trans e1⟩
    . obtain ⟨o',e1⟩:=I.base.there b o e hx
      exact ⟨o',(hs.2 b (Nat.ne_of_lt (Nat.lt_of_lt_of_le (Heap.lt_size e) I.ok.above))).trans e1⟩
    . by_cases hj:j=i
      . subst hj
        rw [hi] at e1;cases e1
        rw [List.getElem?_set_self hiσ] at e2
        cases e2
        exact ⟨u,r,.inl ⟨hk,by simp⟩⟩
      . rw [List.getElem?_set_ne (Ne.symm hj)] at e2
        obtain ⟨u',r',q⟩:=hl j y v' e1 e2 e3
        refine ⟨u',r',?_⟩
        rcases q with ⟨k,e⟩ | ⟨k,c,e,z⟩
        . refine .inl ⟨k,?_⟩
          have:y≠x:=fun e=>hj (nodup_ix hN e1 (e ▸ hi))
          simp [this,e]
        . exact .inr ⟨k,c,e,z.sameBut hs (cne y c e)⟩
    . obtain ⟨w',z⟩:=I.cell y c e
      exact ⟨w',z.sameBut hs (cne y c e)⟩
    . obtain ⟨e,n,ne,nf,d⟩:=I.pin p hp
      exact ⟨(hs.2 p.1 ne).trans e,n,ne,nf,d⟩
  . have hfn:X.fn x=true:=by
      rcases hf with z | z
      . exact z
      . rw [z] at hk;cases hk
    obtain ⟨c,hc⟩:=I.ok.has x (.inl hk)
    obtain ⟨w',z⟩:=I.cell x c hc
    refine wpAny_storeName_cell I.ok.kind hk hc z (fun h' hc' hs=>?_)
    obtain ⟨oc,hoc,hocd⟩:=id z
    refine h { s with heap:=h' } ⟨I.ok,I.os,I.bare,⟨fun b o e n hb hx=>?_,fun b o e n hb hx=>?_,I.base.free,fun b o e hx=>?_,I.base.tups,I.base.frzs,I.base.tbls⟩,⟨m,hn.sameBut hs (Ne.symm (cne x c hc)),fun j y v' e1 e2 e3=>?_⟩,fun y c' e=>?_,I.free,I.freeC,fun p hp=>?_,tracked ⟨oc,hoc,I.freeC x c hc⟩ hs,by simpa using I.len⟩ ⟨c,hs,.inr hc⟩
    . exact (hs.2 b (Nat.ne_of_lt (Nat.lt_of_lt_of_le (Heap.lt_size e) (I.ok.cab x c hfn hc)))).trans (I.base.keep b o e n hb hx)
    . obtain ⟨sl,e1⟩:=I.base.slot b o e n hb hx
      exact ⟨sl,(hs.2 b (Nat.ne_of_lt (Nat.lt_of_lt_of_le (Heap.lt_size e) (I.ok.cab x c hfn hc)))).trans e1⟩
    . obtain ⟨o',e1⟩:=I.base.there b o e hx
      exact ⟨o',(hs.2 b (Nat.ne_of_lt (Nat.lt_of_lt_of_le (Heap.lt_size e) (I.ok.cab x c hfn hc)))).trans e1⟩
    . by_cases hj:j=i
      . subst hj
        rw [hi] at e1;cases e1
        rw [List.getElem?_set_self hiσ] at e2
        cases e2
        exact ⟨u,r,.inr ⟨.inl hk,c,hc,hc'⟩⟩
      . rw [List.getElem?_set_ne (Ne.symm hj)] at e2
        obtain ⟨u',r',q⟩:=hl j y v' e1 e2 e3
        refine ⟨u',r',?_⟩
        rcases q with q | ⟨k,c',e,z'⟩
        . exact .inl q
        . refine .inr ⟨k,c',e,z'.sameBut hs ?_⟩
          rintro rfl
          exact hj (nodup_ix hN e1 (I.ok.inj _ _ _ e hc ▸ hi))
    . by_cases hcc:c'=c
      . subst hcc;exact ⟨_,hc'⟩
      . obtain ⟨w2,z2⟩:=I.cell y c' e
        exact ⟨w2,z2.sameBut hs hcc⟩
    . obtain ⟨e,n,ne,nf,d⟩:=I.pin p hp
      refine ⟨(hs.2 p.1 ?_).trans e,n,ne,nf,d⟩
      intro q
      rw [q,hoc] at e
      have q':oc=p.2:=Option.some.inj e
      exact d w' (by rw [<- q'];exact hocd)
theorem store_ok {M:Model} {A:Around} {E:Value->Shared->Prop} {i:Nat} {x:Str} {v:V} {u:Value} {Q:Unit->Shared->Prop} (I:Inv X pins σ H s) (hN:X.N.Nodup) (hi:X.N[i]? = some x) (hx:Loc X.env.scope x) (r:RelV v u)
    (h:∀ s',Inv X pins (σ.set i (some v)) H s'->Q () s') (hf:X.fn x=true\/X.env.scope.names.lookup x=some .local:=by first | exact .inl rfl | exact .inr rfl | assumption):wpAny M A (storeName X.env x u) Q E s :=
  store_ok2 I hN hi hx r (fun s' I' _=>h s' I') hf
theorem Inv.call' {s':Shared} {ch:List Addr} (I:Inv X pins σ H s) (ho:s'.os=s.os) (u:Un (frs X.stack) ch H H' s.heap s'.heap) (hok:HOk X.prog X.w H' s'.heap) (hg:AllBare s'.gens)
    (hch:∀ b∈ch,(b∈X.ex\/X.s₀.heap.objs.size<=b)/\b≠X.env.locals/\(∀ x c,X.env.cells.lookup x=some c->c≠b)/\∀ p∈X.pn++pins,p.1≠b):Inv X pins σ H' s':=by
  obtain ⟨h',g',d',t',o'⟩:=s'
  have e:o'=s.os:=ho
  subst e
  exact I.call (g':=g') (t':=t') (d':=d') u hok hg hch
end
noncomputable abbrev XK:=Value->Option Addr->Hp->Prop
noncomputable abbrev St:=List (Option V)
noncomputable abbrev VK:=V->Hp->Prop
noncomputable abbrev TE:=St->Hp->VK->Prop
noncomputable abbrev TT:=St->Hp->(Bool->Hp->Prop)->Prop
noncomputable abbrev TA:=St->Hp->(List V->Hp->Prop)->Prop
structure Ends where
  nx:St->Hp->Prop
  rt:VK
  bk:St->Hp->Prop:=fun _ _=>False
  ct:St->Hp->Prop:=fun _ _=>False
noncomputable abbrev TS:=Ends->St->Hp->Prop
noncomputable def EP (X:Cx) (pins:List (Addr × Obj)) (σ:St) (Q:VK) (u:Value) (s':Shared):Prop:=∃ v H',Inv X pins σ H' s'/\RelV v u/\Q v H'
noncomputable def TP (X:Cx) (pins:List (Addr × Obj)) (σ:St) (Q:Bool->Hp->Prop) (b:Bool) (s':Shared):Prop:=∃ H',Inv X pins σ H' s'/\Q b H'
noncomputable def AP (X:Cx) (pins:List (Addr × Obj)) (σ:St) (Q:List V->Hp->Prop) (us:List Value) (s':Shared):Prop:=∃ vs H',Inv X pins σ H' s'/\Vals vs us/\Q vs H'
noncomputable def SP (X:Cx) (pins:List (Addr × Obj)) (D:Ends) (f:Flow) (s':Shared):Prop :=
  match f with
  | .next=>∃ σ' H',Inv X pins σ' H' s'/\D.nx σ' H'
  | .brk=>∃ σ' H',Inv X pins σ' H' s'/\D.bk σ' H'
  | .cont=>∃ σ' H',Inv X pins σ' H' s'/\D.ct σ' H'
  | .ret u=>∃ v σ' H',Inv X pins σ' H' s'/\RelV v u/\D.rt v H'
noncomputable def PE (X:Cx) (e:Expr) (t:TE):Prop :=
  ∀ (pins:List (Addr × Obj)) (s:Shared) (σ:St) (H:Hp) (Q:VK),Inv X pins σ H s->t σ H Q->wpAny (model X.prog X.w) X.A (eval e X.env) (EP X pins σ Q) X.xe s
noncomputable def PT (X:Cx) (e:Expr) (t:TT):Prop :=
  ∀ (pins:List (Addr × Obj)) (s:Shared) (σ:St) (H:Hp) (Q:Bool->Hp->Prop),Inv X pins σ H s->t σ H Q->wpAny (model X.prog X.w) X.A (isTrue e X.env (eval e X.env)) (TP X pins σ Q) X.xe s
noncomputable def PW (X:Cx) (e:Expr) (t:TT):Prop :=
  ∀ (whole:Sem Value) (pins:List (Addr × Obj)) (s:Shared) (σ:St) (H:Hp) (Q:Bool->Hp->Prop),Inv X pins σ H s->t σ H Q->wpAny (model X.prog X.w) X.A (isTrue e X.env whole) (TP X pins σ Q) X.xe s
theorem PW.pt {X:Cx} {e:Expr} {t:TT} (h:PW X e t):PT X e t:=h _
noncomputable def PA (X:Cx) (es:List Expr) (t:TA):Prop :=
  ∀ (pos:Pos) (pins:List (Addr × Obj)) (s:Shared) (σ:St) (H:Hp) (Q:List V->Hp->Prop),Inv X pins σ H s->t σ H Q->wpAny (model X.prog X.w) X.A (spliced (backTo pos (starEach es X.env))) (AP X pins σ Q) X.xe s
noncomputable def PS (X:Cx) (st:Stmt) (t:TS):Prop :=
  ∀ (pins:List (Addr × Obj)) (s:Shared) (σ:St) (H:Hp) (D:Ends),Inv X pins σ H s->t D σ H->wpAny (model X.prog X.w) X.A (exec st X.env) (SP X pins D) X.xe s
noncomputable def PSs (X:Cx) (st:List Stmt) (t:TS):Prop :=
  ∀ (pins:List (Addr × Obj)) (s:Shared) (σ:St) (H:Hp) (D:Ends),Inv X pins σ H s->t D σ H->wpAny (model X.prog X.w) X.A (execs st X.env) (SP X pins D) X.xe s
theorem thn {α:Type} {t:Sem α} {Q Q':α->Shared->Prop} {M:Model} {A:Around} {E:Value->Shared->Prop} {s:Shared} (h:wpAny M A t Q E s) (hQ:∀ a s,Q a s->Q' a s):wpAny M A t Q' E s:=wpAny_mono h hQ fun _ _ x=>x
end L2
namespace L2
open PySem PySem.Spec PyProof.Rows
section
variable {X:Cx}
theorem bin {a b:Expr} {ta tb:TE} (ha:PE X a ta) (hb:PE X b tb) {pins:List (Addr × Obj)} {s:Shared} {σ:St} {H:Hp} {R:V->V->Hp->Prop} (I:Inv X pins σ H s) (h:ta σ H fun x H1=>tb σ H1 fun y H2=>R x y H2)
    {α:Type} {Q:α->Shared->Prop} {f:Value->Value->Sem α}
    (hf:∀ v u s2 x y H2,Inv X pins σ H2 s2->RelV x v->RelV y u->R x y H2->wpAny (model X.prog X.w) X.A (f v u) Q X.xe s2) :
    wpAny (model X.prog X.w) X.A (eval a X.env) (fun v s₁=>wpAny (model X.prog X.w) X.A (eval b X.env) (fun u s₂=>wpAny (model X.prog X.w) X.A (f v u) Q X.xe s₂) X.xe s₁) X.xe s:=by
  refine thn (ha pins s σ H _ I h) fun v s1 h_q=>?_
  obtain ⟨x,H1,I1,r1,q1⟩:=h_q
  refine thn (hb pins s1 σ H1 _ I1 q1) fun u s2 h_q=>?_
  obtain ⟨y,H2,I2,r2,q2⟩:=h_q
  exact hf v u s2 x y H2 I2 r1 r2 q2
noncomputable def tVar (i:Nat):TE:=fun σ H Q=>∃ v,σ[i]? = some (some v)/\Q v H
noncomputable def tC (v:V):TE:=fun _ H Q=>Q v H
theorem pe_var {i:Nat} {x:Str} {pos:Pos} (hN:X.N[i]? = some x) (hv:Vis X.env.scope x) (hd:(x == ("__debug__":Str))=false:=by decide) (hcd:(x == ("__classdict__":Str))=false:=by decide):PE X (.Name x pos) (tVar i):=by
  intro pins s σ H Q I h
  obtain ⟨v,e,h⟩:=h
  obtain ⟨m,hn,hl⟩:=I.loc
  obtain ⟨u,r,l⟩:=hl i x v hN e hv
  have fin:EP X pins σ Q u s:=⟨v,H,I,r,h⟩
  rcases l with ⟨hk,hm⟩ | ⟨hk,c,hc,hcell⟩
  . exact wpAny_Name (wpAny_loadName_local I.ok.kind hk hn hm fin) hd
  . rcases hk with hk | hk
    . exact wpAny_Name (wpAny_loadName_cell I.ok.kind hk hc hcell fin) hd
    . exact wpAny_Name (wpAny_loadName_free I.ok.kind hk hc hcell fin hcd) hd
theorem pe_int {i j pos}:PE X (.Constant (.int i) j pos) (tC (.int i)):=fun _ _ _ H _ I h=>wpAny_Constant_int ⟨.int i,H,I.tok _,⟨_,rfl⟩,h⟩
theorem pe_bl {b j pos}:PE X (.Constant (.bool b) j pos) (tC (.bl b)):=fun _ _ _ H _ I h=>Constant_bool ⟨.bl b,H,I,rfl,h⟩
theorem pe_non {j pos}:PE X (.Constant .none j pos) (tC .non):=fun _ _ _ H _ I h=>Constant_none ⟨.non,H,I,rfl,h⟩
theorem pe_str {x j pos}:PE X (.Constant (.str x) j pos) (tC (.str x)):=fun _ _ _ H _ I h=>Calls.Constant_str ⟨.str x,H,I.tok _,⟨_,rfl⟩,h⟩
noncomputable def Gl (X:Cx) (x:Str):Prop:=X.env.kindOf x=some .globalImplicit
theorem ld_glob {E:Value->Shared->Prop} {pins:List (Addr × Obj)} {s:Shared} {σ:St} {H:Hp} {x:Str} {u:Value} {pos:Pos} {Q:Value->Shared->Prop} (I:Inv X pins σ H s) (hg:Gl X x) (hm:X.mg x=some u) (h:Q u s)
    (hd:(x == ("__debug__":Str))=false:=by decide):wpAny (model X.prog X.w) X.A (eval (.Name x pos) X.env) Q E s :=
  Calls.Name_function_global I.ok.kind hg (Calls.loadGlobal_global (by rw [I.ok.glob];exact I.mod.glob.keeps I.bk) hm h) hd
theorem ld_blt {E:Value->Shared->Prop} {pins:List (Addr × Obj)} {s:Shared} {σ:St} {H:Hp} {x:Str} {u:Value} {pos:Pos} {Q:Value->Shared->Prop} (I:Inv X pins σ H s) (hg:Gl X x) (hm:X.mg x=none) (hv:bootBuiltins x=some u) (h:Q u s)
    (hn:x≠"__name__":=by decide) (hd:(x == ("__debug__":Str))=false:=by decide):wpAny (model X.prog X.w) X.A (eval (.Name x pos) X.env) Q E s:=by
  obtain ⟨mb,h1,h2⟩:=I.mod.blt
  exact Calls.Name_function_global I.ok.kind hg (Calls.loadGlobal_builtin (by rw [I.ok.glob];exact I.mod.glob.keeps I.bk) hm (by rw [I.ok.blt];exact h1.keeps I.bk) ((h2 x hn).trans hv) h) hd
theorem pe_glob {x:Str} {v:V} {u:Value} {pos:Pos} (hg:Gl X x) (hm:X.mg x=some u) (r:RelV v u) (hd:(x == ("__debug__":Str))=false:=by decide):PE X (.Name x pos) (tC v) :=
  fun _ _ _ H _ I h=>ld_glob I hg hm ⟨v,H,I,r,h⟩ hd
theorem pe_bltn {x:Str} {v:V} {u:Value} {pos:Pos} (hg:Gl X x) (hm:X.mg x=none) (hv:bootBuiltins x=some u) (r:RelV v u) (hn:x≠"__name__":=by decide) (hd:(x == ("__debug__":Str))=false:=by decide):PE X (.Name x pos) (tC v) :=
  fun _ _ _ H _ I h=>ld_blt I hg hm hv ⟨v,H,I,r,h⟩ hn hd
variable {a b:Expr} {ta tb:TE} {pos:Pos}
noncomputable def PC (X:Cx) (op:CmpOp) (a b:Expr) (t:TE):Prop :=
  ∀ (pins:List (Addr × Obj)) (s:Shared) (σ:St) (H:Hp) (Q:VK),Inv X pins σ H s->t σ H Q ->
    wpAny (model X.prog X.w) X.A (eval a X.env) (fun v s₁=>wpAny (model X.prog X.w) X.A (eval b X.env) (fun u s₂=>wpAny (model X.prog X.w) X.A (compareOp op v u) (EP X pins σ Q) X.xe s₂) X.xe s₁) X.xe s
theorem nobehind (b:Expr) {op:CmpOp} (h:op≠.In) (h2:op≠.NotIn):behindInMarks op b=false:=by
  have e1:(op == CmpOp.In)=false:=by cases op <;> first | rfl | exact absurd rfl h
  have e2:(op == CmpOp.NotIn)=false:=by cases op <;> first | rfl | exact absurd rfl h2
  cases b <;> simp [behindInMarks,e1,e2]
noncomputable def tB (t:TE):TT:=fun σ H Q=>t σ H fun x H1=>∃ c,x=.bl c/\Q c H1
theorem pt_cmp {op:CmpOp} {t:TE} (h:PC X op a b t) (h1:behindInMarks op b=false:=by first | exact nobehind _ (by decide) (by decide) | rfl):PT X (.Compare a [op] [b] pos) (tB t):=by
  intro pins s σ H Q I hw
  refine wpAny_isTrue_Compare1 (thn (h pins s σ H _ I hw) fun v s1 h1=>thn h1 fun u s2 h2=>thn h2 fun c s3 ⟨x,H1,I1,r1,q1⟩=>?_) h1
  obtain ⟨d,rfl,q⟩:=q1
  cases r1
  exact wpAny_truthy_bool ⟨H1,I1,q⟩
theorem pt_val {e:Expr} {t:TE} (h:PE X e t) (he:∀ whole,isTrue e X.env whole=(do let v <- whole;standAt e.pos;holding [v] (truthy v)):=by intro _;rfl):PT X e (tB t):=by
  intro pins s σ H Q I hw
  refine isTrue_plain (thn (h pins s σ H _ I hw) fun v s1 ⟨x,H1,I1,r1,q1⟩=>?_) (he _)
  obtain ⟨d,rfl,q⟩:=q1
  cases r1
  exact wpAny_truthy_bool ⟨H1,I1,q⟩
variable {tA tB':TT} {rest:List Expr}
noncomputable def tAnd (t u:TT):TT:=fun σ H Q=>t σ H fun c H1=>if c=true then u σ H1 Q else Q false H1
noncomputable def tOr (t u:TT):TT:=fun σ H Q=>t σ H fun c H1=>if c=true then Q true H1 else u σ H1 Q
noncomputable def tNot (t:TT):TT:=fun σ H Q=>t σ H fun c H1=>Q (!c) H1
theorem pw_and1 (ha:PT X a tA):PW X (.BoolOp .And [a] pos) tA:=by
  intro wh pins s σ H Q I h
  refine isTrue_and (thn (ha pins s σ H Q I h) fun c s1 e=>?_)
  cases c with
  | true=>exact isTrue_and_nil e
  | false=>exact e
theorem pw_or1 (ha:PT X a tA):PW X (.BoolOp .Or [a] pos) tA:=by
  intro wh pins s σ H Q I h
  refine isTrue_or (thn (ha pins s σ H Q I h) fun c s1 e=>?_)
  cases c with
  | false=>exact isTrue_or_nil e
  | true=>exact e
theorem pw_and (ha:PT X a tA) (hb:PW X (.BoolOp .And (b::rest) pos) tB'):PW X (.BoolOp .And (a::b::rest) pos) (tAnd tA tB'):=by
  intro wh pins s σ H Q I h
  refine isTrue_and (thn (ha pins s σ H _ I h) fun c s1 h_q=>?_)
  obtain ⟨H1,I1,q1⟩:=h_q
  cases c with
  | true=>exact hb wh pins s1 σ H1 Q I1 q1
  | false=>exact ⟨H1,I1,q1⟩
theorem pw_or (ha:PT X a tA) (hb:PW X (.BoolOp .Or (b::rest) pos) tB'):PW X (.BoolOp .Or (a::b::rest) pos) (tOr tA tB'):=by
  intro wh pins s σ H Q I h
  refine isTrue_or (thn (ha pins s σ H _ I h) fun c s1 h_q=>?_)
  obtain ⟨H1,I1,q1⟩:=h_q
  cases c with
  | true=>exact ⟨H1,I1,q1⟩
  | false=>exact hb wh pins s1 σ H1 Q I1 q1
theorem pt_not (ha:PT X a tA):PT X (.UnaryOp .Not a pos) (tNot tA):=by
  intro pins s σ H Q I h
  exact isTrue_not (ha pins s σ H (fun c H1=>Q (!c) H1) I h)
noncomputable def tAndV (ta tb:TE):TE:=fun σ H Q=>ta σ H fun x H1=>∃ c,x=.bl c/\if c=true then tb σ H1 Q else Q (.bl false) H1
noncomputable def tOrV (ta tb:TE):TE:=fun σ H Q=>ta σ H fun x H1=>∃ c,x=.bl c/\if c=true then Q (.bl true) H1 else tb σ H1 Q
noncomputable def tNotV (ta:TE):TE:=fun σ H Q=>ta σ H fun x H1=>∃ c,x=.bl c/\Q (.bl (!c)) H1
theorem pe_one {op} {t:TE} (h:PE X a t):PE X (.BoolOp op [a] pos) t:=fun pins s σ H Q I hw=>BoolOp_one (h pins s σ H Q I hw)
theorem pe_and (ha:PE X a ta) (hb:PE X (.BoolOp .And (b::rest) pos) tb):PE X (.BoolOp .And (a::b::rest) pos) (tAndV ta tb):=by
  intro pins s σ H Q I h
  refine BoolOp_and (thn (ha pins s σ H _ I h) fun v s1 h_q=>?_)
  obtain ⟨x,H1,I1,r1,q1⟩:=h_q
  obtain ⟨c,rfl,q1⟩:=q1
  cases r1
  refine wpAny_truthy_bool ?_
  cases c with
  | true=>exact hb pins s1 σ H1 Q I1 q1
  | false=>exact ⟨.bl false,H1,I1,rfl,q1⟩
theorem pe_or (ha:PE X a ta) (hb:PE X (.BoolOp .Or (b::rest) pos) tb):PE X (.BoolOp .Or (a::b::rest) pos) (tOrV ta tb):=by
  intro pins s σ H Q I h
  refine BoolOp_or (thn (ha pins s σ H _ I h) fun v s1 h_q=>?_)
  obtain ⟨x,H1,I1,r1,q1⟩:=h_q
  obtain ⟨c,rfl,q1⟩:=q1
  cases r1
  refine wpAny_truthy_bool ?_
  cases c with
  | false=>exact hb pins s1 σ H1 Q I1 q1
  | true=>exact ⟨.bl true,H1,I1,rfl,q1⟩
theorem pe_not (ha:PE X a ta):PE X (.UnaryOp .Not a pos) (tNotV ta):=by
  intro pins s σ H Q I h
  refine UnaryOp_ (thn (ha pins s σ H _ I h) fun v s1 h_q=>?_)
  obtain ⟨x,H1,I1,r1,q1⟩:=h_q
  obtain ⟨c,rfl,q1⟩:=q1
  cases r1
  exact not_of (wpAny_truthy_bool ⟨.bl (!c),H1,I1,rfl,q1⟩)
end
end L2
namespace L2
open PySem PySem.Spec PyProof.Rows
noncomputable def SqL (K:PySem.W.Frag) (H:Hp) (a:Addr) (xs:List V):Prop :=
  Rd H a (.lst xs) \/
    ∃ (o:Obj) (its:Array Value) (n:Nat),K.lookup a=some o/\o.cls=.type "list"/\o.dict=none/\o.data=.seq its n/\its.size<=sizeLine/\Vals xs its.toList
noncomputable def SqT (K:PySem.W.Frag) (H:Hp) (a:Addr) (xs:List V):Prop :=
  Rd H a (.tup xs) \/
    ∃ (o:Obj) (its:Array Value) (n:Nat),K.lookup a=some o/\o.cls=.type "tuple"/\o.data=.seq its n/\its.size<=sizeLine/\Vals xs its.toList
noncomputable def absV:Value->Option V
  | .none=>some .non
  | .bool b=>some (.bl b)
  | .int i _=>some (.int i)
  | .str x _=>some (.str x)
  | .bytes b _=>some (.byt b)
  | .float b _=>some (.flt b)
  | .ref a=>some (.ref a)
  | .type n=>some (.ty n)
  | _=>none
theorem RelV.abs {x:V} {u:Value} (r:RelV x u):absV u=some x:=by
  cases x with
  | non=>cases r;rfl
  | bl _=>cases r;rfl
  | int _=>obtain ⟨t,rfl⟩:=r;rfl
  | str _=>obtain ⟨t,rfl⟩:=r;rfl
  | byt _=>obtain ⟨t,rfl⟩:=r;rfl
  | flt _=>obtain ⟨t,rfl⟩:=r;rfl
  | ref _=>cases r;rfl
  | ty _=>cases r;rfl
theorem RelV.inj {x y:V} {u:Value} (r:RelV x u) (q:RelV y u):x=y:=Option.some.inj (r.abs.symm.trans q.abs)
theorem Vals.inj:∀ {xs ys:List V} {us:List Value},Vals xs us->Vals ys us->xs=ys
  | _,_,_,.nil,.nil=>rfl
  | _,_,_,.cons r t,.cons r' t'=>by rw [r.inj r',Vals.inj t t']
section
variable {X:Cx} {pins:List (Addr × Obj)} {σ:St} {H:Hp} {s:Shared} {a:Addr} {xs ys:List V}
theorem SqL.of {K:PySem.W.Frag} (h:H a=some (.lst xs)):SqL K H a xs:=.inl (.inl h)
theorem SqT.of {K:PySem.W.Frag} (h:H a=some (.tup xs)):SqT K H a xs:=.inl (.inl h)
theorem Inv.list (I:Inv X pins σ H s) (h:SqL X.K H a xs):∃ its:List Value,Vals xs its/\PlainL s.heap a its.toArray/\xs.length<=sizeLine:=by
  rcases h with h | ⟨o,its,n,hk,hc,hd,hs,hz,r⟩
  . obtain ⟨z,its,n,r,e⟩:=h.ok I.hok
    exact ⟨its,r,⟨_,n,e,rfl,rfl,rfl⟩,z⟩
  . refine ⟨its.toList,r,⟨o,n,I.kIn a o hk,hc,hd,by simpa using hs⟩,?_⟩
    have e:=r.length
    simp only [Array.length_toList] at e
    lia
theorem Inv.tuple (I:Inv X pins σ H s) (h:SqT X.K H a xs):∃ its:List Value,Vals xs its/\IsTup s.heap a its.toArray/\xs.length<=sizeLine:=by
  rcases h with h | ⟨o,its,n,hk,hc,hs,hz,r⟩
  . obtain ⟨z,its,r,p⟩:=h.ok I.hok
    exact ⟨its,r,p,z⟩
  . refine ⟨its.toList,r,⟨o,I.kIn a o hk,hc,n,by simpa using hs⟩,?_⟩
    have e:=r.length
    simp only [Array.length_toList] at e
    lia
theorem Inv.list_inj (I:Inv X pins σ H s) (h:SqL X.K H a xs) (h':SqL X.K H a ys):xs=ys:=by
  obtain ⟨its,r,⟨o,n,e,_,_,d⟩,_⟩:=I.list h
  obtain ⟨its',r',⟨o',n',e',_,_,d'⟩,_⟩:=I.list h'
  rw [e] at e';cases e'
  rw [d] at d'
  injection d' with d1 _
  have:its=its':=by simpa using congrArg Array.toList d1
  subst this
  exact r.inj r'
theorem Inv.tuple_inj (I:Inv X pins σ H s) (h:SqT X.K H a xs) (h':SqT X.K H a ys):xs=ys:=by
  obtain ⟨its,r,⟨o,e,_,n,d⟩,_⟩:=I.tuple h
  obtain ⟨its',r',⟨o',e',_,n',d'⟩,_⟩:=I.tuple h'
  rw [e] at e';cases e'
  rw [d] at d'
  injection d' with d1 _
  have:its=its':=by simpa using congrArg Array.toList d1
  subst this
  exact r.inj r'
end
noncomputable abbrev Cx.wish (X:Cx) (E:Value->Shared->Prop):Cx:={ X with xe:=E }
noncomputable abbrev Cx.nox (X:Cx):Cx:=X.wish fun _ _=>False
theorem Cx.Ok.wish {X:Cx} (ok:X.Ok) (E:Value->Shared->Prop):(X.wish E).Ok :=
  ⟨ok.mod,ok.kind,ok.glob,ok.blt,ok.above,ok.inj,ok.has,ok.cab,ok.hd,ok.frames,ok.stk,ok.exf,ok.bs,ok.bsz,ok.noex,ok.exfs,ok.funs,ok.frf⟩
theorem Cx.Ok.unwish {X:Cx} {E:Value->Shared->Prop} (ok:(X.wish E).Ok):X.Ok :=
  ⟨ok.mod,ok.kind,ok.glob,ok.blt,ok.above,ok.inj,ok.has,ok.cab,ok.hd,ok.frames,ok.stk,ok.exf,ok.bs,ok.bsz,ok.noex,ok.exfs,ok.funs,ok.frf⟩
section
variable {X:Cx} {pins:List (Addr × Obj)} {σ:St} {H:Hp} {s:Shared} {E:Value->Shared->Prop}
theorem Inv.wish (I:Inv X pins σ H s) (E:Value->Shared->Prop):Inv (X.wish E) pins σ H s:=⟨I.ok.wish E,I.os,I.bare,I.base,I.loc,I.cell,I.free,I.freeC,I.pin,I.hok,I.len⟩
theorem Inv.unwish (I:Inv (X.wish E) pins σ H s):Inv X pins σ H s:=⟨I.ok.unwish,I.os,I.bare,I.base,I.loc,I.cell,I.free,I.freeC,I.pin,I.hok,I.len⟩
theorem SP.unwish {D:Ends} {f:Flow} {s':Shared} (h:SP (X.wish E) pins D f s'):SP X pins D f s':=by
  cases f with
  | next=>obtain ⟨σ',H',I,q⟩:=h;exact ⟨σ',H',I.unwish,q⟩
  | brk=>obtain ⟨σ',H',I,q⟩:=h;exact ⟨σ',H',I.unwish,q⟩
  | cont=>obtain ⟨σ',H',I,q⟩:=h;exact ⟨σ',H',I.unwish,q⟩
  | ret u=>obtain ⟨v,σ',H',I,r,q⟩:=h;exact ⟨v,σ',H',I.unwish,r,q⟩
theorem PSs.nox {st:List Stmt} {t:TS} (h:PSs X.nox st t):PSs X st t:=fun pins s σ H D I hw =>
  wpAny_mono (h pins s σ H D (I.wish _) hw) (fun _ _ q=>q.unwish) fun _ _ z=>False.elim z
end
section
variable {X:Cx} {st:Stmt} {rest:List Stmt} {t u:TS} {e:Expr} {te:TE} {pos:Pos}
noncomputable def tNext:TS:=fun D σ H=>D.nx σ H
noncomputable def tSeq (t u:TS):TS:=fun D σ H=>t { D with nx:=u D } σ H
theorem pss_nil:PSs X [] tNext:=fun _ _ σ H _ I h=>wpAny_execs_nil ⟨σ,H,I,h⟩
theorem pss_cons (h1:PS X st t) (h2:PSs X rest u):PSs X (st::rest) (tSeq t u):=by
  intro pins s σ H D I h
  refine wpAny_execs_cons (thn (h1 pins s σ H { D with nx:=u D } I h) fun f s1 q=>?_)
  cases f with
  | next =>
    obtain ⟨σ',H',I',q⟩:=q
    exact h2 pins s1 σ' H' D I' q
  | ret v=>exact q
  | brk=>exact q
  | cont=>exact q
theorem pss_one (h1:PS X st t):PSs X [st] t:=by
  intro pins s σ H D I h
  refine wpAny_execs_cons (thn (h1 pins s σ H D I h) fun f s1 q=>?_)
  cases f with
  | next=>exact wpAny_execs_nil q
  | ret v=>exact q
  | brk=>exact q
  | cont=>exact q
theorem Inv.quiet {pins:List (Addr × Obj)} {σ:St} {H:Hp} {s:Shared} (I:Inv X pins σ H s):interactive X.env=false:=by simp [interactive,I.ok.kind]
noncomputable def tDrop (te:TE):TS:=fun D σ H=>te σ H fun _ H1=>D.nx σ H1
theorem ps_expr (he:PE X e te) (hs:swapsWith e none pos.line X.env=pure false:=by rfl):PS X (.Expr e pos) (tDrop te):=by
  intro pins s σ H D I h
  exact wpAny_Expr_any (thn (he pins s σ H _ I h) fun v s1 ⟨x,H1,I1,r1,q1⟩=>⟨σ,H1,I1,q1⟩) I.quiet hs
noncomputable def tRet (te:TE):TS:=fun D σ H=>te σ H D.rt
theorem ps_ret (he:PE X e te):PS X (.Return (some e) pos) (tRet te):=by
  intro pins s σ H D I h
  exact wpAny_Return_some (thn (he pins s σ H _ I h) fun v s1 ⟨x,H1,I1,r1,q1⟩=>⟨x,σ,H1,I1,r1,q1⟩)
noncomputable def tIfS (c:TT) (t u:TS):TS:=fun D σ H=>c σ H fun b H1=>if b=true then t D σ H1 else u D σ H1
theorem ps_if {c:Expr} {a b:List Stmt} {tc:TT} (hc:PT X c tc) (ha:PSs X a t) (hb:PSs X b u):PS X (.If c a b pos) (tIfS tc t u):=by
  intro pins s σ H D I h
  refine wpAny_If (thn (hc pins s σ H _ I h) fun d s1 h_q=>?_)
  obtain ⟨H1,I1,q1⟩:=h_q
  cases d with
  | true=>exact ha pins s1 σ H1 D I1 q1
  | false=>exact hb pins s1 σ H1 D I1 q1
end
noncomputable abbrev TG:=V->St->Hp->(St->Hp->Prop)->Prop
noncomputable abbrev TGs:=List V->St->Hp->(St->Hp->Prop)->Prop
noncomputable def PG (X:Cx) (target:Expr) (t:TG):Prop :=
  ∀ (pins:List (Addr × Obj)) (s:Shared) (σ:St) (H:Hp) (v:V) (u:Value) (Q:St->Hp->Prop),Inv X pins σ H s->RelV v u->t v σ H Q ->
    wpAny (model X.prog X.w) X.A (assign target X.env u) (fun _ s'=>∃ σ' H',Inv X pins σ' H' s'/\Q σ' H') X.xe s
noncomputable def PGs (X:Cx) (ts:List Expr) (t:TGs):Prop :=
  ∀ (pins:List (Addr × Obj)) (s:Shared) (σ:St) (H:Hp) (vs:List V) (us:List Value) (Q:St->Hp->Prop),Inv X pins σ H s->Vals vs us->t vs σ H Q ->
    wpAny (model X.prog X.w) X.A (assignInOrder ((assignEach ts X.env).map (·.2)) us) (fun _ s'=>∃ σ' H',Inv X pins σ' H' s'/\Q σ' H') X.xe s
section
variable {X:Cx} {pos:Pos}
noncomputable def gName (i:Nat):TG:=fun v σ H Q=>Q (σ.set i (some v)) H
theorem pg_name {i:Nat} {x:Str} (hN:X.N.Nodup) (hi:X.N[i]? = some x) (hx:Loc X.env.scope x) (hf:X.fn x=true\/X.env.scope.names.lookup x=some .local:=by first | exact .inl rfl | exact .inr rfl | assumption):PG X (.Name x pos) (gName i):=by
  intro pins s σ H v u Q I r h
  exact wpAny_assign_Name (store_ok I hN hi hx r (fun s' I'=>⟨_,H,I',h⟩) hf)
noncomputable def gNil:TGs:=fun vs σ H Q=>vs=[]/\Q σ H
noncomputable def gCons (t:TG) (u:TGs):TGs:=fun vs σ H Q=>∃ v r,vs=v::r/\t v σ H fun σ' H'=>u r σ' H' Q
theorem pgs_nil:PGs X [] gNil:=by
  intro pins s σ H vs us Q I r h
  obtain ⟨e,h⟩:=h
  subst e
  cases r
  exact assignInOrder_nil ⟨σ,H,I,h⟩
theorem pgs_cons {e:Expr} {es:List Expr} {t:TG} {u:TGs} (h1:PG X e t) (h2:PGs X es u)
    (hs:(assignEach (e::es) X.env).map (·.2)=assign e X.env::(assignEach es X.env).map (·.2):=by rfl):PGs X (e::es) (gCons t u):=by
  intro pins s σ H vs us Q I r h
  obtain ⟨v,vr,e1,h⟩:=h
  subst e1
  cases r with
  | cons r rr =>
    rw [hs]
    refine assignInOrder_cons (thn (h1 pins s σ H _ _ _ I r h) fun _ s1 h_q=>?_)
    obtain ⟨σ1,H1,I1,q1⟩:=h_q
    exact h2 pins s1 σ1 H1 _ _ Q I1 rr q1
noncomputable def gTup (K:PySem.W.Frag) (n:Nat) (t:TGs):TG:=fun v σ H Q=>∃ a xs,v=.ref a/\SqT K H a xs/\xs.length=n/\t xs σ H Q
theorem pg_tup {es:List Expr} {k:Nat} {t:TGs} {n:Nat} (hc:X.calm=true) (h:PGs X es t)
    (hn:(assignEach es X.env).length=n:=by rfl) (hst:(assignEach es X.env).findIdx? (·.1)=none:=by rfl):PG X (.Tuple es k pos) (gTup X.K n t):=by
  intro pins s σ H v u Q I r hw
  obtain ⟨a,xs,e1,hq,hl,hw⟩:=hw
  subst e1
  cases r
  obtain ⟨its,rv,ht,hz⟩:=I.tuple hq
  refine assign_Tuple_tuple (I.ok.hd hc) ht (by simp [hn,<- hl,rv.length]) hst fun h' hx=>?_
  have I1:Inv X pins σ H { s with heap:=h' }:=I.kept (t':=s.toks) fun b o e=>hx b o (Nat.ne_of_lt (Heap.lt_size e)) e
  exact h pins _ σ H xs _ Q I1 (by simpa using rv) hw
noncomputable def tAsg (te:TE) (g:TG):TS:=fun D σ H=>te σ H fun x H1=>g x σ H1 D.nx
theorem ps_set {i:Nat} {x:Str} {e:Expr} {te:TE} {pos':Pos} (hN:X.N.Nodup) (hi:X.N[i]? = some x) (hx:Loc X.env.scope x) (he:PE X e te) (hs:swapsWith e (some (.Name x pos')) pos.line X.env=pure false:=by rfl) (hf:X.fn x=true\/X.env.scope.names.lookup x=some .local:=by first | exact .inl rfl | exact .inr rfl | assumption) :
    PS X (.Assign [.Name x pos'] e pos) (tAsg te (gName i)):=by
  intro pins s σ H D I h
  refine wpAny_Assign_Name (thn (he pins s σ H _ I h) fun v s1 ⟨y,H1,I1,r1,q1⟩=>?_) hs
  exact store_ok I1 hN hi hx r1 (fun s2 I2=>⟨_,H1,I2,q1⟩) hf
end
section
variable {X:Cx} {pos:Pos}
noncomputable def tWhile (c:TT) (tb:TS):TS:=fun D σ H=>∃ W:Nat->St->Hp->Prop,(∃ m,W m σ H)/\∀ m σ H,W m σ H ->
  c σ H fun b H1=>if b=true then ∃ N:St->Hp->Prop,(∀ σ' H',N σ' H'->∃ m',m' < m/\W m' σ' H')/\tb { D with nx:=N,ct:=N,bk:=D.nx } σ H1 else D.nx σ H1
theorem ps_while {c:Expr} {body:List Stmt} {tc:TT} {tb:TS} (hp:PassesOwn (model X.prog X.w) X.A X.env X.xe) (hc:PT X c tc) (hb:PSs X body tb):PS X (.While c body [] pos) (tWhile tc tb):=by
  intro pins s σ H D I h
  obtain ⟨W,⟨m0,w0⟩,turn⟩:=h
  refine wpAny_While (codeAny_whileLoop (fun n s'=>∃ σ' H',Inv X pins σ' H' s'/\W n σ' H') ?_ m0 ⟨σ,H,I,w0⟩)
  rintro n s1 ⟨σ1,H1,I1,w1⟩
  refine wpAny_passesOwn hp (thn (hc pins s1 σ1 H1 _ I1 (turn n σ1 H1 w1)) fun b s2 h_q=>?_)
  obtain ⟨H2,I2,q2⟩:=h_q
  cases b with
  | true =>
    obtain ⟨N,hN,q2⟩:=q2
    rw [if_pos rfl]
    refine wpAny_passesOwn hp (thn (hb pins s2 σ1 H2 _ I2 q2) fun f s3 q3=>?_)
    cases f with
    | next =>
      obtain ⟨σ3,H3,I3,n3⟩:=q3
      obtain ⟨m',hm,w3⟩:=hN σ3 H3 n3
      exact ⟨m',hm,σ3,H3,I3,w3⟩
    | cont =>
      obtain ⟨σ3,H3,I3,n3⟩:=q3
      obtain ⟨m',hm,w3⟩:=hN σ3 H3 n3
      exact ⟨m',hm,σ3,H3,I3,w3⟩
    | brk=>exact q3
    | ret v=>exact q3
  | false =>
    rw [if_neg Bool.false_ne_true]
    exact wpAny_execs_nil ⟨σ1,H2,I2,q2⟩
end
structure It where
  go:Nat->Hp->Prop
  yld:Nat->Hp->V->Hp->Prop
  stop:Nat->Hp->Prop
noncomputable def FpOk (X:Cx) (pins:List (Addr × Obj)) (H:Hp) (b:Addr):Prop :=
  H b=none/\b≠X.env.locals/\b ∉ X.fs/\(b∈X.ex\/X.s₀.heap.objs.size<=b)/\(∀ x c,X.env.cells.lookup x=some c->c≠b)/\∀ p∈X.pn++pins,p.1≠b
theorem Inv.fpOk {X:Cx} {pins:List (Addr × Obj)} {σ:St} {H H':Hp} {s:Shared} {b:Addr} (I:Inv X pins σ H s) (hb:s.heap.objs.size<=b) (hn:H' b=none):FpOk X pins H' b:=by
  refine ⟨hn,Nat.ne_of_gt (Nat.lt_of_lt_of_le I.lt hb),I.nofs hb,.inr (Nat.le_trans I.sz hb),fun x c e z=>?_,fun p hp z=>?_⟩
  . obtain ⟨v,q⟩:=I.cell x c e
    exact absurd (Nat.lt_of_lt_of_le q.lt (by rw [z];exact hb)) (Nat.lt_irrefl _)
  . exact absurd (Nat.lt_of_lt_of_le (Heap.lt_size (I.pin p hp).1) (by rw [z];exact hb)) (Nat.lt_irrefl _)
structure Turn (P:Program) (w:World) (K:PySem.W.Frag) (tg:Expr) (J:It) (fp:List Addr) (it:Addr) (tn:Nat->Heap->Prop):Prop where
  mem:it∈fp
  obj:∀ i h,tn i h->∀ b∈fp,∃ o,h.get? b=some o/\∀ v,o.data≠.cell v
  keep:∀ i h h',tn i h->(∀ b∈fp,∀ o,h.get? b=some o->h'.get? b=some o)->tn i h'
  item : ∀ (X:Cx),X.prog=P->X.w=w->X.K=K->X.calm=true->∀ (i:Nat) (pins:List (Addr × Obj)) (s:Shared) (σ:St) (H:Hp) (E:Value->Shared->Prop),Inv X pins σ H s->(∀ b∈fp,FpOk X pins H b)->tn i s.heap->J.go i H ->
    wpAny (model P w) X.A (pyNext (.ref it)) (fun r s1=>∃ u,r=some u /\
      wpAny (model P w) X.A (letOwnedTupleGo tg (.ref it) u) (fun _ s2=>∃ x H',Inv X pins σ H' s2/\RelV x u/\J.yld i H x H'/\tn (i + 1) s2.heap/\∀ b∈fp,H' b=none) E s1) E s
  done:∀ (X:Cx),X.prog=P->X.w=w->X.K=K->X.calm=true->∀ (i:Nat) (pins:List (Addr × Obj)) (s:Shared) (σ:St) (H:Hp) (E:Value->Shared->Prop),Inv X pins σ H s->(∀ b∈fp,FpOk X pins H b)->tn i s.heap->J.stop i H ->
    wpAny (model P w) X.A (pyNext (.ref it)) (fun r s1=>r=none/\Inv X pins σ H s1) E s
  self:∀ (A:Around) (i:Nat) (s:Shared) (Q:Value->Shared->Prop) (E:Value->Shared->Prop),tn i s.heap->Q (.ref it) s->wpAny (model P w) A (pyIter (.ref it)) Q E s
noncomputable abbrev TI:=St->Hp->(It->Hp->Prop)->Prop
noncomputable def PIE (X:Cx) (pins:List (Addr × Obj)) (σ:St) (tg:Expr) (R:It->Hp->Prop) (itv:Value) (s2:Shared):Prop :=
  ∃ (it:Addr) (fp:List Addr) (tn:Nat->Heap->Prop) (J:It) (H':Hp),itv=.ref it/\Inv X pins σ H' s2/\Turn X.prog X.w X.K tg J fp it tn/\tn 0 s2.heap/\(∀ b∈fp,FpOk X pins H' b)/\R J H'
noncomputable def PI (X:Cx) (tg iter:Expr) (wi:TI):Prop :=
  ∀ (pins:List (Addr × Obj)) (s:Shared) (σ:St) (H:Hp) (R:It->Hp->Prop),Inv X pins σ H s->wi σ H R ->
    wpAny (model X.prog X.w) X.A (eval iter X.env) (fun v s1=>wpAny (model X.prog X.w) X.A (pyIter v) (PIE X pins σ tg R) X.xe s1) X.xe s
theorem go_of {M:Model} {A:Around} {E:Value->Shared->Prop} {s:Shared} {tg:Expr} {it:Addr} {u:Value} {o:Obj} {n:String} {vs:Array Value} {Q:Unit->Shared->Prop} (ho:s.heap.get? it=some o) (hc:o.cls=.type n) (hd:o.data=.fields vs)
    (hn:["enumerate","zip","dict_itemiterator","dict_reverseitemiterator","odict_iterator","itertools.zip_longest","itertools.pairwise"].contains n=false) (hQ:Q () s):wpAny M A (letOwnedTupleGo tg (.ref it) u) Q E s:=by
  unfold letOwnedTupleGo
  cases tg <;> first
    | exact wpAny_pure hQ
    | (cases u <;> first
        | exact wpAny_pure hQ
        | (refine wpAny_bind (wpAny_load ho ?_)
           rw [hc,hd]
           show wpAny M A (if (["enumerate","zip","dict_itemiterator","dict_reverseitemiterator","odict_iterator","itertools.zip_longest","itertools.pairwise"].contains n && vs[0]? == some (rawInt _))=true then _ else _) Q E s
           rw [if_neg (by intro h;rw [hn,Bool.false_and] at h;cases h)]
           exact wpAny_pure hQ))
noncomputable def Itl (K:PySem.W.Frag) (a:Addr):It :=
  ⟨fun i H=>∃ xs x,SqL K H a xs/\xs[i]? = some x,fun i H x H'=>H'=H/\∀ xs,SqL K H a xs->xs[i]? = some x,fun i H=>∃ xs,SqL K H a xs/\xs.length<=i⟩
noncomputable def Itt (K:PySem.W.Frag) (a:Addr):It :=
  ⟨fun i H=>∃ xs x,SqT K H a xs/\xs[i]? = some x,fun i H x H'=>H'=H/\∀ xs,SqT K H a xs->xs[i]? = some x,fun i H=>∃ xs,SqT K H a xs/\xs.length<=i⟩
noncomputable def Itr (lo:Int) (n:Nat):It:=⟨fun i _=>i < n,fun i H x H'=>H'=H/\x=.int (lo + i),fun i _=>n<=i⟩
theorem turn_list {P:Program} {w:World} {K:PySem.W.Frag} {tg:Expr} (a it:Addr):Turn P w K tg (Itl K a) [it] it (fun i h=>h.IsListIter it a i) where
  mem:=by simp
  obj := fun i h st b hb=>by
    have e:b=it:=by simpa using hb
    subst e
    obtain ⟨o,e,c,d⟩:=st
    exact ⟨o,e,fun v z=>by rw [d] at z;cases z⟩
  keep:=fun i h h' st k=>st.at fun o e=>k it (by simp) o e
  item:=by
    intro X hP hw hK hc i pins s σ H E I hf st hg
    subst hP hw hK
    obtain ⟨xs,x,hq,hx⟩:=hg
    obtain ⟨its,rv,p,hz⟩:=I.list hq
    obtain ⟨u,hu,ru⟩:=rv.get hx
    obtain ⟨f0,f1,f2,f3,f4,f5⟩:=hf it (by simp)
    refine wpAny_pyNext_list_item st p.isList (x:=u) (by simpa using hu) fun h' st' sb=>?_
    have I1:Inv X pins σ H { s with heap:=h' }:=I.turned (t':=s.toks) (fun b o hb e=>(sb.2 b hb).trans e) f0 f1 f3 f4 f5
    obtain ⟨o,e,c,d⟩:=id st'
    exact ⟨u,rfl,go_of (s:={ s with heap:=h' }) e c d (by decide) ⟨x,H,I1,ru,⟨rfl,fun ys hy=>by rw [I.list_inj hy hq];exact hx⟩,st',fun b hb=>(hf b hb).1⟩⟩
  done:=by
    intro X hP hw hK hc i pins s σ H E I hf st hg
    subst hP hw hK
    obtain ⟨xs,hq,hx⟩:=hg
    obtain ⟨its,rv,p,hz⟩:=I.list hq
    obtain ⟨f0,f1,f2,f3,f4,f5⟩:=hf it (by simp)
    have hl:=rv.length
    exact wpAny_pyNext_list_end (I.ok.hd hc) st p.isList (by simp;lia) fun h' eb=>⟨rfl,I.turned (t':=s.toks) (fun b o hb e=>eb b o hb e) f0 f1 f3 f4 f5⟩
  self:=fun _ _ _ _ _ st h=>wpAny_pyIter_listiter st h
theorem turn_tuple {P:Program} {w:World} {K:PySem.W.Frag} {tg:Expr} (a it:Addr):Turn P w K tg (Itt K a) [it] it (fun i h=>h.IsTupleIter it a i) where
  mem:=by simp
  obj := fun i h st b hb=>by
    have e:b=it:=by simpa using hb
    subst e
    obtain ⟨o,e,c,d⟩:=st
    exact ⟨o,e,fun v z=>by rw [d] at z;cases z⟩
  keep:=fun i h h' st k=>st.at fun o e=>k it (by simp) o e
  item:=by
    intro X hP hw hK hc i pins s σ H E I hf st hg
    subst hP hw hK
    obtain ⟨xs,x,hq,hx⟩:=hg
    obtain ⟨its,rv,p,hz⟩:=I.tuple hq
    obtain ⟨u,hu,ru⟩:=rv.get hx
    obtain ⟨f0,f1,f2,f3,f4,f5⟩:=hf it (by simp)
    refine wpAny_pyNext_tuple_item st (show s.heap.IsTuple a its.toArray from p) (x:=u) (by simpa using hu) fun h' st' sb=>?_
    have I1:Inv X pins σ H { s with heap:=h' }:=I.turned (t':=s.toks) (fun b o hb e=>(sb.2 b hb).trans e) f0 f1 f3 f4 f5
    obtain ⟨o,e,c,d⟩:=id st'
    exact ⟨u,rfl,go_of (s:={ s with heap:=h' }) e c d (by decide) ⟨x,H,I1,ru,⟨rfl,fun ys hy=>by rw [I.tuple_inj hy hq];exact hx⟩,st',fun b hb=>(hf b hb).1⟩⟩
  done:=by
    intro X hP hw hK hc i pins s σ H E I hf st hg
    subst hP hw hK
    obtain ⟨xs,hq,hx⟩:=hg
    obtain ⟨its,rv,p,hz⟩:=I.tuple hq
    obtain ⟨f0,f1,f2,f3,f4,f5⟩:=hf it (by simp)
    have hl:=rv.length
    exact wpAny_pyNext_tuple_end (I.ok.hd hc) st (show s.heap.IsTuple a its.toArray from p) (by simp;lia) fun h' eb=>⟨rfl,I.turned (t':=s.toks) (fun b o hb e=>eb b o hb e) f0 f1 f3 f4 f5⟩
  self:=fun _ _ _ _ _ st h=>wpAny_pyIter_tupleiter st h
theorem turn_range {P:Program} {w:World} {K:PySem.W.Frag} {tg:Expr} (it:Addr) (lo:Int) (n:Nat):Turn P w K tg (Itr lo n) [it] it (fun i h=>IsRangeIter h it (lo + (i:Nat) * 1) ((n:Int) - (i:Nat)) 1) where
  mem:=by simp
  obj := fun i h st b hb=>by
    have e:b=it:=by simpa using hb
    subst e
    exact ⟨_,st,fun v z=>by
      have z':Data.fields _=Data.cell v:=z
      cases z'⟩
  keep:=fun i h h' st k=>k it (by simp) _ st
  item:=by
    intro X hP hw hK hc i pins s σ H E I hf st hg
    subst hP hw hK
    obtain ⟨f0,f1,f2,f3,f4,f5⟩:=hf it (by simp)
    have W:=Walks.range (prog:=X.prog) (w:=X.w) (I.ok.hd hc) it lo 1 n
    refine W.item i s _ _ hg st fun v h' tk hv st' kk=>?_
    obtain ⟨t,rfl⟩:=hv
    have I1:Inv X pins σ H { s with heap:=h',toks:=tk }:=I.turned (fun b o hb e=>kk b o (by simpa using hb) e) f0 f1 f3 f4 f5
    refine ⟨_,rfl,go_of (s:={ s with heap:=h',toks:=tk }) (n:="range_iterator") st' rfl rfl (by decide) ⟨.int (lo + i),H,I1,⟨t,?_⟩,⟨rfl,rfl⟩,st',fun b hb=>(hf b hb).1⟩⟩
    rw [Int.mul_one]
  done:=by
    intro X hP hw hK hc i pins s σ H E I hf st hg
    subst hP hw hK
    obtain ⟨f0,f1,f2,f3,f4,f5⟩:=hf it (by simp)
    exact wpAny_pyNext_range_end (I.ok.hd hc) st (by have:n<=i:=hg;lia) fun h' eb=>⟨rfl,I.turned (t':=s.toks) (fun b o hb e=>eb b o hb e) f0 f1 f3 f4 f5⟩
  self:=fun _ _ _ _ _ st h=>wpAny_pyIter_rangeiter st h
end L2
namespace L2
open PySem PySem.Spec PyProof.Rows
section
variable {X:Cx} {tg:Expr}
theorem range_it {pins:List (Addr × Obj)} {σ:St} {H:Hp} {s:Shared} {R:It->Hp->Prop} {E:Value->Shared->Prop} {lo hi:Int} {t u v:Tok} {tk:Nat} (I:Inv X pins σ H s) (h1:-(2 ^ 62)<=lo) (h2:lo < 2 ^ 62) (h3:-(2 ^ 62)<=hi) (h4:hi < 2 ^ 62)
    (q:R (Itr lo (hi - lo).toNat) H):wpAny (model X.prog X.w) X.A (pyIter (.ref s.heap.objs.size)) (PIE X pins σ tg R) E { s with heap:=s.heap.push { cls:=.type "range",data:=.fields #[.int lo t,.int hi u,.int 1 v] },toks:=tk }:=by
  refine wpAny_pyIter_range (IsRange.new ..) (small_one h1 h2 h3 h4) ?_
  have I1:Inv X pins σ H { s with heap:=s.heap.push { cls:=.type "range",data:=.fields #[.int lo t,.int hi u,.int 1 v] },toks:=tk }:=I.kept fun b o e=>Heap.get?_push_of_some _ e
  refine ⟨(s.heap.push { cls:=.type "range",data:=.fields #[.int lo t,.int hi u,.int 1 v] }).objs.size,[(s.heap.push { cls:=.type "range",data:=.fields #[.int lo t,.int hi u,.int 1 v] }).objs.size],_,_,H,rfl,
    I1.kept (t':=tk) fun b o e=>Heap.get?_push_of_some _ e,turn_range _ lo (hi - lo).toNat,?_,fun b hb=>?_,q⟩
  . have e1:lo + ((0:Nat):Int) * 1=lo:=by simp
    have e2:(((hi - lo).toNat:Nat):Int) - ((0:Nat):Int)=Builtin.Range.rangeSize lo hi 1:=by rw [rangeSize_one];split <;> lia
    show IsRangeIter _ _ (lo + ((0:Nat):Int) * 1) ((((hi - lo).toNat:Nat):Int) - ((0:Nat):Int)) 1
    rw [e1,e2]
    exact Heap.get?_push_size _ rfl
  . have e:b=(s.heap.push { cls:=.type "range",data:=.fields #[.int lo t,.int hi u,.int 1 v] }).objs.size:=by simpa using hb
    subst e
    exact I1.fpOk (Nat.le_refl _) (I1.hok.fresh (Nat.le_refl _))
noncomputable def tFor (wi:TI) (g:TG) (tb:TS):TS:=fun D σ H=>wi σ H fun J H1=>∃ W:Nat->Nat->St->Hp->Prop,(∃ m,W 0 m σ H1)/\∀ i m σ H,W i m σ H ->
  (J.stop i H/\D.nx σ H)\/(J.go i H/\∃ N:St->Hp->Prop,(∀ σ' H',N σ' H'->∃ m',m' < m/\W (i + 1) m' σ' H')/\∀ x H',J.yld i H x H'->g x σ H' fun σ2 H2=>tb { D with nx:=N,ct:=N,bk:=D.nx } σ2 H2)
noncomputable def pinsAt (fp:List Addr) (h:Heap):List (Addr × Obj):=fp.filterMap fun b=>(h.get? b).map fun o=>(b,o)
theorem mem_pinsAt {fp:List Addr} {h:Heap} {b:Addr} {o:Obj} (hb:b∈fp) (e:h.get? b=some o):(b,o)∈pinsAt fp h:=List.mem_filterMap.mpr ⟨b,hb,by rw [e];rfl⟩
theorem of_pinsAt {fp:List Addr} {h:Heap} {p:Addr × Obj} (hp:p∈pinsAt fp h):p.1∈fp/\h.get? p.1=some p.2:=by
  obtain ⟨b,hb,e⟩:=List.mem_filterMap.mp hp
  cases q:h.get? b with
  | none=>rw [q] at e;cases e
  | some o =>
    rw [q] at e
    have e':(b,o)=p:=Option.some.inj e
    subst e'
    exact ⟨hb,q⟩
theorem Inv.pinned {pins:List (Addr × Obj)} {σ:St} {H:Hp} {s:Shared} {fp:List Addr} (I:Inv X pins σ H s) (hf:∀ b∈fp,FpOk X pins H b) (ho:∀ b∈fp,∃ o,s.heap.get? b=some o/\∀ v,o.data≠.cell v):Inv X (pins++pinsAt fp s.heap) σ H s :=
  I.pins_of fun p hp=>(List.mem_append.mp hp).elim (fun z=>I.pin p (List.mem_append_right _ z)) fun z=>by
    obtain ⟨hb,e⟩:=of_pinsAt z
    obtain ⟨f0,f1,f2,_⟩:=hf p.1 hb
    obtain ⟨o,e',d⟩:=ho p.1 hb
    rw [e] at e';cases e'
    exact ⟨e,f0,f1,f2,d⟩
theorem Inv.unpinned {pins pl:List (Addr × Obj)} {σ:St} {H:Hp} {s:Shared} (I:Inv X (pins++pl) σ H s):Inv X pins σ H s:=I.pins_of fun p hp=>I.pin p (List.mem_append_right _ (List.mem_append_left _ hp))
theorem ps_for {iter:Expr} {body:List Stmt} {wi:TI} {g:TG} {tb:TS} {pos:Pos} (hp:PassesOwn (model X.prog X.w) X.A X.env X.xe) (hc:X.calm=true) (hi:PI X tg iter wi) (hg:PG X tg g) (hb:PSs X body tb)
    (hs:∀ x,foldedSetIterable iter X.env x=pure x:=by intro _;rfl):PS X (.For tg iter body [] pos) (tFor wi g tb):=by
  intro pins s σ H D I h
  refine wpAny_For (thn (hi pins s σ H _ I h) fun v s1 h1=>thn h1 fun itv s2 h2=>?_) hs
  obtain ⟨it,fp,tn,J,H2,e,I2,T,st2,f2,W,⟨m0,w0⟩,turn⟩:=h2
  subst e
  have stat:∀ {H':Hp},(∀ b∈fp,H' b=none)->∀ b∈fp,FpOk X pins H' b:=fun hn b hb=>⟨hn b hb,(f2 b hb).2⟩
  refine codeAny_forLoop_any (fun n s'=>∃ i σ' H',Inv X pins σ' H' s'/\tn i s'.heap/\(∀ b∈fp,H' b=none)/\W i n σ' H') ?_ m0 ⟨0,σ,H2,I2,st2,fun b hb=>(f2 b hb).1,w0⟩
  rintro n s3 ⟨i,σ3,H3,I3,st3,fr3,w3⟩
  rcases turn i n σ3 H3 w3 with ⟨stop,qn⟩ | ⟨go,N,hN,step⟩
  . refine wpAny_passesOwn hp (thn (T.done X rfl rfl rfl hc i pins s3 σ3 H3 X.xe I3 (stat fr3) st3 stop) fun r s4 h_q=>?_)
    obtain ⟨hr,I4⟩:=h_q
    subst hr
    exact wpAny_execs_nil ⟨σ3,H3,I4,qn⟩
  . refine wpAny_passesOwn hp (thn (T.item X rfl rfl rfl hc i pins s3 σ3 H3 X.xe I3 (stat fr3) st3 go) fun r s4 h_q=>?_)
    obtain ⟨u,hr,h4⟩:=h_q
    subst hr
    refine wpAny_passesOwn hp (thn h4 fun _ s5 h_q=>?_)
    obtain ⟨x,H5,I5,r5,y5,st5,fr5⟩:=h_q
    have I5':=I5.pinned (stat fr5) (T.obj _ _ st5)
    refine wpAny_passesOwn hp (thn (hg _ s5 σ3 H5 x u _ I5' r5 (step x H5 y5)) fun _ s6 h_q=>?_)
    obtain ⟨σ6,H6,I6,q6⟩:=h_q
    refine wpAny_passesOwn hp (thn (hb _ s6 σ6 H6 _ I6 q6) fun f s7 q7=>?_)
    have again:∀ {σ7:St} {H7:Hp},Inv X (pins++pinsAt fp s5.heap) σ7 H7 s7->N σ7 H7->∃ m,m < n/\∃ i σ' H',Inv X pins σ' H' s7/\tn i s7.heap/\(∀ b∈fp,H' b=none)/\W i m σ' H':=fun {σ7 H7} I7 n7=>by
      obtain ⟨m',hm,w7⟩:=hN σ7 H7 n7
      refine ⟨m',hm,i + 1,σ7,H7,I7.unpinned,T.keep _ _ _ st5 fun b hb o e=>(I7.pin (b,o) (List.mem_append_right _ (List.mem_append_right _ (mem_pinsAt hb e)))).1,fun b hb=>?_,w7⟩
      obtain ⟨o,e,d⟩:=T.obj _ _ st5 b hb
      exact (I7.pin (b,o) (List.mem_append_right _ (List.mem_append_right _ (mem_pinsAt hb e)))).2.1
    cases f with
    | next=>obtain ⟨σ7,H7,I7,n7⟩:=q7;exact again I7 n7
    | cont=>obtain ⟨σ7,H7,I7,n7⟩:=q7;exact again I7 n7
    | brk=>obtain ⟨σ7,H7,I7,q7⟩:=q7;exact ⟨σ7,H7,I7.unpinned,q7⟩
    | ret v=>obtain ⟨x7,σ7,H7,I7,r7,q7⟩:=q7;exact ⟨x7,σ7,H7,I7.unpinned,r7,q7⟩
end
end L2
namespace L2
open PySem PySem.Spec PyProof.Rows
noncomputable abbrev R2:=V->V->Hp->VK->Prop
noncomputable def OpR (X:Cx) (f:Value->Value->Sem Value) (r:R2):Prop :=
  ∀ (pins:List (Addr × Obj)) (s:Shared) (σ:St) (H:Hp) (x y:V) (v u:Value) (Q:VK),Inv X pins σ H s->RelV x v->RelV y u->r x y H Q ->
    wpAny (model X.prog X.w) X.A (f v u) (EP X pins σ Q) X.xe s
noncomputable def UnR (X:Cx) (f:Value->Sem Value) (r:V->Hp->VK->Prop):Prop :=
  ∀ (pins:List (Addr × Obj)) (s:Shared) (σ:St) (H:Hp) (x:V) (v:Value) (Q:VK),Inv X pins σ H s->RelV x v->r x H Q ->
    wpAny (model X.prog X.w) X.A (f v) (EP X pins σ Q) X.xe s
noncomputable def CallR (X:Cx) (f:Value) (r:List V->Hp->VK->Prop):Prop :=
  ∀ (pins:List (Addr × Obj)) (s:Shared) (σ:St) (H:Hp) (xs:List V) (us:List Value) (Q:VK),Inv X pins σ H s->Vals xs us->r xs H Q ->
    wpAny (model X.prog X.w) X.A (call f us) (EP X pins σ Q) X.xe s
noncomputable def tOp (r:R2) (ta tb:TE):TE:=fun σ H Q=>ta σ H fun x H1=>tb σ H1 fun y H2=>r x y H2 Q
noncomputable def tUn (r:V->Hp->VK->Prop) (ta:TE):TE:=fun σ H Q=>ta σ H fun x H1=>r x H1 Q
noncomputable def rI (C:Int->Int->Prop) (g:Int->Int->V):R2:=fun x y H Q=>∃ i j,x=.int i/\y=.int j/\C i j/\Q (g i j) H
noncomputable def rI0 (g:Int->Int->V):R2:=fun x y H Q=>∃ i j,x=.int i/\y=.int j/\Q (g i j) H
noncomputable def rU (g:Int->V):V->Hp->VK->Prop:=fun x H Q=>∃ i,x=.int i/\Q (g i) H
section
variable {X:Cx} {a b c:Expr} {ta tb tc:TE} {pos:Pos}
theorem binT (ha:PE X a ta) (hb:PE X b tb) {pins:List (Addr × Obj)} {s:Shared} {σ:St} {H:Hp} {R:V->V->Hp->Prop} (I:Inv X pins σ H s)
    (h:ta σ H fun x H1=>tb σ H1 fun y H2=>R x y H2) {Q:Value->Shared->Prop} {f:Value->Value->Sem Value}
    (hf:∀ v u s2 x y H2,Inv X pins σ H2 s2->RelV x v->RelV y u->R x y H2->wpAny (model X.prog X.w) X.A (f v u) Q X.xe s2) :
    wpAny (model X.prog X.w) X.A (eval a X.env) (fun v s₁=>wpAny (model X.prog X.w) X.A (eval b X.env) (fun u s₂=>wpAny (model X.prog X.w) X.A (f v u) Q X.xe s₂) X.xe s₁) X.xe s:=by
  refine thn (ha pins s σ H _ I h) fun v s1 h_q=>?_
  obtain ⟨x,H1,I1,r1,q1⟩:=h_q
  refine thn (hb pins s1 σ H1 _ I1 q1) fun u s2 h_q=>?_
  obtain ⟨y,H2,I2,r2,q2⟩:=h_q
  exact hf v u s2 x y H2 I2 r1 r2 q2
theorem pe_op {op:Operator} {r:R2} (ho:OpR X (binaryOp op) r) (ha:PE X a ta) (hb:PE X b tb):PE X (.BinOp a op b pos) (tOp r ta tb):=by
  intro pins s σ H Q I h
  exact wpAny_BinOp (binT ha hb I h fun v u s2 x y H2 I2 rx ry q=>ho pins s2 σ H2 x y v u Q I2 rx ry q)
theorem pe_un {op:UnaryOp} {r:V->Hp->VK->Prop} (ho:UnR X (unaryOp op) r) (ha:PE X a ta):PE X (.UnaryOp op a pos) (tUn r ta):=by
  intro pins s σ H Q I h
  exact UnaryOp_ (thn (ha pins s σ H _ I h) fun v s1 ⟨x,H1,I1,r1,q1⟩=>ho pins s1 σ H1 x v Q I1 r1 q1)
theorem opI {f:Value->Value->Sem Value} {C:Int->Int->Prop} {g:Int->Int->Int}
    (rule:∀ (i j:Int) (t u:Tok) (s:Shared) (Q:Value->Shared->Prop) (E:Value->Shared->Prop),C i j->Q (.int (g i j) s.toks) { s with toks:=s.toks + 1 }->wpAny (model X.prog X.w) X.A (f (.int i t) (.int j u)) Q E s) :
    OpR X f (rI C fun i j=>.int (g i j)):=by
  intro pins s σ H x y v u Q I rx ry h
  obtain ⟨i,j,rfl,rfl,hc,q⟩:=h
  obtain ⟨t,rfl⟩:=rx
  obtain ⟨t',rfl⟩:=ry
  exact rule i j t t' s _ _ hc ⟨.int (g i j),H,I.tok _,⟨_,rfl⟩,q⟩
theorem opI0 {f:Value->Value->Sem Value} {g:Int->Int->Int}
    (rule:∀ (i j:Int) (t u:Tok) (s:Shared) (Q:Value->Shared->Prop) (E:Value->Shared->Prop),Q (.int (g i j) s.toks) { s with toks:=s.toks + 1 }->wpAny (model X.prog X.w) X.A (f (.int i t) (.int j u)) Q E s) :
    OpR X f (rI0 fun i j=>.int (g i j)):=by
  intro pins s σ H x y v u Q I rx ry h
  obtain ⟨i,j,rfl,rfl,q⟩:=h
  obtain ⟨t,rfl⟩:=rx
  obtain ⟨t',rfl⟩:=ry
  exact rule i j t t' s _ _ ⟨.int (g i j),H,I.tok _,⟨_,rfl⟩,q⟩
theorem opB0 {f:Value->Value->Sem Value} {g:Int->Int->Bool}
    (rule:∀ (i j:Int) (t u:Tok) (s:Shared) (Q:Value->Shared->Prop) (E:Value->Shared->Prop),Q (.bool (g i j)) s->wpAny (model X.prog X.w) X.A (f (.int i t) (.int j u)) Q E s) :
    OpR X f (rI0 fun i j=>.bl (g i j)):=by
  intro pins s σ H x y v u Q I rx ry h
  obtain ⟨i,j,rfl,rfl,q⟩:=h
  obtain ⟨t,rfl⟩:=rx
  obtain ⟨t',rfl⟩:=ry
  exact rule i j t t' s _ _ ⟨.bl (g i j),H,I,rfl,q⟩
noncomputable def CDiv (i j:Int):Prop:=0 < j/\j < 1073741824
noncomputable def CPow (i j:Int):Prop:=0<=j/\j<=1000000/\i.natAbs < 2 ^ 64
noncomputable def CMul (i j:Int):Prop:=(-(2 ^ 64) < i/\i < 2 ^ 64)\/(-(2 ^ 64) < j/\j < 2 ^ 64)
theorem CMul.ok {i j:Int} (h:CMul i j):IntMulOk i j:=by
  rcases h with ⟨h1,h2⟩ | ⟨h1,h2⟩
  . exact .of_left (intBits_le_64 h1 h2)
  . exact .of_right (intBits_le_64 h1 h2)
theorem op_add:OpR X (binaryOp .Add) (rI0 fun i j=>.int (i + j)):=opI0 fun _ _ _ _ _ _ _ q=>add_int q
theorem op_sub:OpR X (binaryOp .Sub) (rI0 fun i j=>.int (i - j)):=opI0 fun _ _ _ _ _ _ _ q=>sub_int q
theorem op_fdiv:OpR X (binaryOp .FloorDiv) (rI CDiv fun i j=>.int (i / j)):=opI fun i j _ _ _ _ _ hc q=>by
  have h1:(0:Int) < j:=hc.1
  have h2:j < 1073741824:=hc.2
  exact floordiv_int (by lia) (by rw [Int.fdiv_eq_ediv_of_nonneg i (by lia)];exact q) (.inl (PyProof.noPylong_small (by lia)))
theorem op_mod:OpR X (binaryOp .Mod) (rI (fun _ j=>0 < j) fun i j=>.int (i % j)):=opI fun i j _ _ _ _ _ hc q=>by
  have h1:(0:Int) < j:=hc
  exact mod_int' (by lia) (by rw [Int.fmod_eq_emod_of_nonneg i (by lia)];exact q)
theorem op_pow:OpR X (binaryOp .Pow) (rI CPow fun i j=>.int (i ^ j.toNat)):=opI fun _ _ _ _ _ _ _ hc q=>pow_int_small hc.1 hc.2.1 hc.2.2 q
theorem unI {f:Value->Sem Value} {g:Int->Int}
    (rule:∀ (i:Int) (t:Tok) (s:Shared) (Q:Value->Shared->Prop) (E:Value->Shared->Prop),Q (.int (g i) s.toks) { s with toks:=s.toks + 1 }->wpAny (model X.prog X.w) X.A (f (.int i t)) Q E s) :
    UnR X f (rU fun i=>.int (g i)):=by
  intro pins s σ H x v Q I rx h
  obtain ⟨i,rfl,q⟩:=h
  obtain ⟨t,rfl⟩:=rx
  exact rule i t s _ _ ⟨.int (g i),H,I.tok _,⟨_,rfl⟩,q⟩
theorem un_neg:UnR X (unaryOp .USub) (rU fun i=>.int (-i)):=unI fun _ _ _ _ _ q=>neg_int q
end
noncomputable def scal:V->V->Bool
  | .non,.non=>true | .non,.int _=>true | .int _,.non=>true | .non,.bl _=>true | .bl _,.non=>true | .non,.str _=>true | .str _,.non=>true
  | .int _,.int _=>true | .bl _,.bl _=>true | .str _,.str _=>true | .byt _,.byt _=>true
  | .int _,.str _=>true | .str _,.int _=>true | .bl _,.str _=>true | .str _,.bl _=>true
  | _,_=>false
noncomputable def rEq:R2:=fun x y H Q=>scal x y=true/\Q (.bl (decide (x=y))) H
noncomputable def rNe:R2:=fun x y H Q=>scal x y=true/\Q (.bl (!decide (x=y))) H
theorem dec_int {i j:Int}:decide (V.int i=V.int j)=(i == j):=by
  rw [Bool.eq_iff_iff]
  simp
theorem dec_bl {i j:Bool}:decide (V.bl i=V.bl j)=(i == j):=by
  rw [Bool.eq_iff_iff]
  simp
theorem dec_str {i j:Str}:decide (V.str i=V.str j)=(i == j):=by
  rw [Bool.eq_iff_iff]
  simp
theorem dec_byt {i j:Array UInt8}:decide (V.byt i=V.byt j)=(i.toList == j.toList):=by
  rw [Bool.eq_iff_iff]
  cases i
  cases j
  simp
section
variable {X:Cx} {a b c:Expr} {ta tb tc:TE} {pos:Pos}
theorem fin_bl {pins:List (Addr × Obj)} {σ:St} {H:Hp} {s:Shared} {Q:VK} {k k':Bool} (I:Inv X pins σ H s) (q:Q (.bl k) H) (e:k=k'):EP X pins σ Q (.bool k') s:=by
  subst e
  exact ⟨.bl k,H,I,rfl,q⟩
theorem op_eq:OpR X (compareOp .Eq) rEq:=by
  intro pins s σ H x y v u Q I rx ry h
  obtain ⟨hs,q⟩:=h
  cases x with
  | non =>
    cases rx
    cases y with
    | non=>cases ry;exact PySem.EqNone.eq_none_none (fin_bl I q (by simp))
    | bl j=>cases ry;exact PySem.EqNone.eq_none_bool (fin_bl I q (by simp))
    | int j=>obtain ⟨t',rfl⟩:=ry;exact PySem.EqNone.eq_none_int (fin_bl I q (by simp))
    | str j=>obtain ⟨t',rfl⟩:=ry;exact PySem.EqNone.eq_none_str (fin_bl I q (by simp))
    | _=>exact absurd (show false=true from hs) Bool.false_ne_true
  | bl i =>
    cases rx
    cases y with
    | non=>cases ry;exact PySem.EqNone.eq_bool_none (fin_bl I q (by simp))
    | bl j=>cases ry;exact eq_bool (fin_bl I q dec_bl)
    | str j=>obtain ⟨t',rfl⟩:=ry;exact PySem.EqMixed.eq_bool_str (fin_bl I q (by simp))
    | _=>exact absurd (show false=true from hs) Bool.false_ne_true
  | int i =>
    obtain ⟨t,rfl⟩:=rx
    cases y with
    | non=>cases ry;exact PySem.EqNone.eq_int_none (fin_bl I q (by simp))
    | int j=>obtain ⟨t',rfl⟩:=ry;exact eq_int (fin_bl I q dec_int)
    | str j=>obtain ⟨t',rfl⟩:=ry;exact PySem.EqMixed.eq_int_str (fin_bl I q (by simp))
    | _=>exact absurd (show false=true from hs) Bool.false_ne_true
  | str i =>
    obtain ⟨t,rfl⟩:=rx
    cases y with
    | non=>cases ry;exact PySem.EqNone.eq_str_none (fin_bl I q (by simp))
    | bl j=>cases ry;exact PySem.EqMixed.eq_str_bool (fin_bl I q (by simp))
    | int j=>obtain ⟨t',rfl⟩:=ry;exact PySem.EqMixed.eq_str_int (fin_bl I q (by simp))
    | str j=>obtain ⟨t',rfl⟩:=ry;exact eq_str (fin_bl I q dec_str)
    | _=>exact absurd (show false=true from hs) Bool.false_ne_true
  | byt i =>
    obtain ⟨t,rfl⟩:=rx
    cases y with
    | byt j=>obtain ⟨t',rfl⟩:=ry;exact PySem.W.eq_bytes (fin_bl I q dec_byt)
    | _=>exact absurd (show false=true from hs) Bool.false_ne_true
  | _=>cases y <;> exact absurd (show false=true from hs) Bool.false_ne_true
theorem op_ne:OpR X (compareOp .NotEq) rNe:=by
  intro pins s σ H x y v u Q I rx ry h
  obtain ⟨hs,q⟩:=h
  cases x with
  | non =>
    cases rx
    cases y with
    | non=>cases ry;exact PySem.EqNone.ne_none_none (fin_bl I q (by simp))
    | bl j=>cases ry;exact PySem.EqNone.ne_none_bool (fin_bl I q (by simp))
    | int j=>obtain ⟨t',rfl⟩:=ry;exact PySem.EqNone.ne_none_int (fin_bl I q (by simp))
    | str j=>obtain ⟨t',rfl⟩:=ry;exact PySem.EqNone.ne_none_str (fin_bl I q (by simp))
    | _=>exact absurd (show false=true from hs) Bool.false_ne_true
  | bl i =>
    cases rx
    cases y with
    | non=>cases ry;exact PySem.EqNone.ne_bool_none (fin_bl I q (by simp))
    | bl j=>cases ry;exact ne_bool (fin_bl I q (congrArg not dec_bl))
    | str j=>obtain ⟨t',rfl⟩:=ry;exact PySem.EqMixed.ne_bool_str (fin_bl I q (by simp))
    | _=>exact absurd (show false=true from hs) Bool.false_ne_true
  | int i =>
    obtain ⟨t,rfl⟩:=rx
    cases y with
    | non=>cases ry;exact PySem.EqNone.ne_int_none (fin_bl I q (by simp))
    | int j=>obtain ⟨t',rfl⟩:=ry;exact ne_int (fin_bl I q (congrArg not dec_int))
    | str j=>obtain ⟨t',rfl⟩:=ry;exact PySem.EqMixed.ne_int_str (fin_bl I q (by simp))
    | _=>exact absurd (show false=true from hs) Bool.false_ne_true
  | str i =>
    obtain ⟨t,rfl⟩:=rx
    cases y with
    | non=>cases ry;exact PySem.EqNone.ne_str_none (fin_bl I q (by simp))
    | bl j=>cases ry;exact PySem.EqMixed.ne_str_bool (fin_bl I q (by simp))
    | int j=>obtain ⟨t',rfl⟩:=ry;exact PySem.EqMixed.ne_str_int (fin_bl I q (by simp))
    | str j=>obtain ⟨t',rfl⟩:=ry;exact ne_str (fin_bl I q (congrArg not dec_str))
    | _=>exact absurd (show false=true from hs) Bool.false_ne_true
  | byt i =>
    obtain ⟨t,rfl⟩:=rx
    cases y with
    | byt j=>obtain ⟨t',rfl⟩:=ry;exact PySem.W.ne_bytes (fin_bl I q (congrArg not dec_byt))
    | _=>exact absurd (show false=true from hs) Bool.false_ne_true
  | _=>cases y <;> exact absurd (show false=true from hs) Bool.false_ne_true
theorem op_lt:OpR X (compareOp .Lt) (rI0 fun i j=>.bl (decide (i < j))):=opB0 fun _ _ _ _ _ _ _ q=>lt_int q
theorem op_le:OpR X (compareOp .LtE) (rI0 fun i j=>.bl (decide (i<=j))):=opB0 fun _ _ _ _ _ _ _ q=>le_int q
theorem op_gt:OpR X (compareOp .Gt) (rI0 fun i j=>.bl (decide (j < i))):=opB0 fun _ _ _ _ _ _ _ q=>gt_int q
theorem op_ge:OpR X (compareOp .GtE) (rI0 fun i j=>.bl (decide (j<=i))):=opB0 fun _ _ _ _ _ _ _ q=>ge_int q
theorem op_lt_str:OpR X (compareOp .Lt) (fun x y H Q=>∃ i j,x=.str i/\y=.str j/\Q (.bl (decide (i.cps.toList < j.cps.toList))) H):=by
  intro pins s σ H x y v u Q I rx ry h
  obtain ⟨i,j,rfl,rfl,q⟩:=h
  obtain ⟨t,rfl⟩:=rx
  obtain ⟨t',rfl⟩:=ry
  exact lt_str (fin_bl I q rfl)
theorem op_in_str:OpR X (compareOp .In) (fun x y H Q=>∃ i j,x=.str i/\y=.str j/\Q (.bl (!(Builtin.Str.occurrences j i 0 j.length 1).isEmpty)) H):=by
  intro pins s σ H x y v u Q I rx ry h
  obtain ⟨i,j,rfl,rfl,q⟩:=h
  obtain ⟨t,rfl⟩:=rx
  obtain ⟨t',rfl⟩:=ry
  exact in_str (fin_bl I q rfl)
theorem op_isN:OpR X (compareOp .Is) (fun x y H Q=>y=.non/\Q (.bl (decide (x=.non))) H):=by
  intro pins s σ H x y v u Q I rx ry h
  obtain ⟨rfl,q⟩:=h
  cases ry
  refine is_none_gen (fin_bl I q ?_)
  cases x <;> first
    | (cases rx;rfl)
    | (obtain ⟨t,rfl⟩:=rx;rfl)
theorem op_notN:OpR X (compareOp .IsNot) (fun x y H Q=>y=.non/\Q (.bl (!decide (x=.non))) H):=by
  intro pins s σ H x y v u Q I rx ry h
  obtain ⟨rfl,q⟩:=h
  cases ry
  refine isnot_none_gen (fin_bl I q ?_)
  cases x <;> first
    | (cases rx;rfl)
    | (obtain ⟨t,rfl⟩:=rx;rfl)
theorem OpR.or {f:Value->Value->Sem Value} {r r':R2} (h:OpR X f r) (h':OpR X f r'):OpR X f (fun x y H Q=>r x y H Q\/r' x y H Q):=by
  intro pins s σ H x y v u Q I rx ry q
  rcases q with q | q
  . exact h pins s σ H x y v u Q I rx ry q
  . exact h' pins s σ H x y v u Q I rx ry q
theorem nomark (b:Expr) {op:CmpOp} (h:op≠.In:=by decide) (h2:op≠.NotIn:=by decide):behindInMarks op b=false:=by
  have e1:(op == CmpOp.In)=false:=by cases op <;> first | rfl | exact absurd rfl h
  have e2:(op == CmpOp.NotIn)=false:=by cases op <;> first | rfl | exact absurd rfl h2
  cases b <;> simp [behindInMarks,e1,e2]
theorem pe_cmpR {op:CmpOp} {r:R2} (ho:OpR X (compareOp op) r) (ha:PE X a ta) (hb:PE X b tb) (hm:behindInMarks op b=false):PE X (.Compare a [op] [b] pos) (tOp r ta tb):=by
  intro pins s σ H Q I h
  exact wpAny_Compare1 (binT ha hb I h fun v u s2 x y H2 I2 rx ry q=>ho pins s2 σ H2 x y v u Q I2 rx ry q) hm
noncomputable def tTest (t:TE):TT:=fun σ H Q=>t σ H fun x H'=>∃ k,x=.bl k/\Q k H'
theorem pt_cmpR {op:CmpOp} {r:R2} (ho:OpR X (compareOp op) r) (ha:PE X a ta) (hb:PE X b tb) (hm:behindInMarks op b=false):PT X (.Compare a [op] [b] pos) (tTest (tOp r ta tb)):=by
  intro pins s σ H Q I h
  refine wpAny_isTrue_Compare1 (thn (ha pins s σ H _ I h) fun v s1 ⟨x,H1,I1,r1,q1⟩=>thn (hb pins s1 σ H1 _ I1 q1) fun u s2 ⟨y,H2,I2,r2,q2⟩ =>
    thn (ho pins s2 σ H2 x y v u _ I2 r1 r2 q2) fun c s3 ⟨z,H3,I3,r3,k,e,q3⟩=>?_) hm
  subst e
  cases r3
  exact wpAny_truthy_bool ⟨H3,I3,q3⟩
noncomputable def tChain (r r':R2) (ta tb tc:TE):TE:=fun σ H Q=>ta σ H fun x H1=>tb σ H1 fun y H2=>r x y H2 fun z H3=>∃ k,z=.bl k /\
  (if k=true then tc σ H3 fun w' H4=>r' y w' H4 Q else Q (.bl false) H3)
theorem pe_chain {op op':CmpOp} {r r':R2} (ho:OpR X (compareOp op) r) (ho':OpR X (compareOp op') r') (ha:PE X a ta) (hb:PE X b tb) (hc:PE X c tc)
    (hm:lastMarks [op,op'] [b,c]=false:=by with_unfolding_all rfl):PE X (.Compare a [op,op'] [b,c] pos) (tChain r r' ta tb tc):=by
  intro pins s σ H Q I h
  refine Compare_chain (thn (ha pins s σ H _ I h) fun v s1 ⟨x,H1,I1,r1,q1⟩=>chain_link (thn (hb pins s1 σ H1 _ I1 q1) fun u s2 ⟨y,H2,I2,r2,q2⟩ =>
    thn (ho pins s2 σ H2 x y v u _ I2 r1 r2 q2) fun d s3 ⟨z,H3,I3,r3,k,e,q3⟩=>?_)) hm
  subst e
  cases r3
  refine wpAny_truthy_bool ?_
  cases k with
  | false=>exact ite_ff ⟨.bl false,H3,I3,rfl,q3⟩
  | true=>exact ite_tt (chain_last (thn (hc pins s3 σ H3 _ I3 q3) fun w' s4 ⟨z',H4,I4,r4,q4⟩=>ho' pins s4 σ H4 y z' u w' Q I4 r2 r4 q4))
theorem line63:(sizeLine:Nat) < 2 ^ 63:=by rw [sizeLine_eq];decide
theorem op_add_str:OpR X (binaryOp .Add) (fun x y H Q=>∃ i j,x=.str i/\y=.str j/\i.length + j.length<=sizeLine/\Q (.str (i++j)) H):=by
  intro pins s σ H x y v u Q I rx ry h
  obtain ⟨i,j,rfl,rfl,hz,q⟩:=h
  obtain ⟨t,rfl⟩:=rx
  obtain ⟨t',rfl⟩:=ry
  exact add_str (fun t' tk=>⟨.str (i++j),H,I.tok _,⟨_,rfl⟩,q⟩) hz
theorem vals1 {x:V} {us:List Value} (r:Vals [x] us):∃ u,us=[u]/\RelV x u:=by
  cases r with
  | cons r1 r2=>cases r2;exact ⟨_,rfl,r1⟩
theorem vals2 {x y:V} {us:List Value} (r:Vals [x,y] us):∃ u w',us=[u,w']/\RelV x u/\RelV y w':=by
  cases r with
  | cons r1 r2 =>
    cases r2 with
    | cons r3 r4=>cases r4;exact ⟨_,_,rfl,r1,r3⟩
theorem call_max2 (hc:X.calm=true):CallR X (.builtin "max") (fun xs H Q=>∃ i j,xs=[.int i,.int j]/\Q (.int (if j > i then j else i)) H):=by
  intro pins s σ H xs us Q I r h
  obtain ⟨i,j,rfl,q⟩:=h
  obtain ⟨u,w',rfl,⟨t,rfl⟩,⟨t',rfl⟩⟩:=vals2 r
  refine max_two_ints (I.ok.hd hc) fun h' tk k=>⟨_,H,I.kept k,?_,q⟩
  by_cases hj:j > i
  . rw [if_pos hj,if_pos hj];exact ⟨_,rfl⟩
  . rw [if_neg hj,if_neg hj];exact ⟨_,rfl⟩
theorem call_min2 (hc:X.calm=true):CallR X (.builtin "min") (fun xs H Q=>∃ i j,xs=[.int i,.int j]/\Q (.int (if j < i then j else i)) H):=by
  intro pins s σ H xs us Q I r h
  obtain ⟨i,j,rfl,q⟩:=h
  obtain ⟨u,w',rfl,⟨t,rfl⟩,⟨t',rfl⟩⟩:=vals2 r
  refine min_two_ints (I.ok.hd hc) fun h' tk k=>⟨_,H,I.kept k,?_,q⟩
  by_cases hj:j < i
  . rw [if_pos hj,if_pos hj];exact ⟨_,rfl⟩
  . rw [if_neg hj,if_neg hj];exact ⟨_,rfl⟩
theorem call_int1:CallR X (.type "int") (fun xs H Q=>(∃ i,xs=[.int i]/\Q (.int i) H)\/∃ k,xs=[.bl k]/\Q (.int (if k then 1 else 0)) H):=by
  intro pins s σ H xs us Q I r h
  rcases h with ⟨i,rfl,q⟩ | ⟨k,rfl,q⟩
  . obtain ⟨u,rfl,t,rfl⟩:=vals1 r
    exact call_int_int ⟨.int i,H,I,⟨_,rfl⟩,q⟩
  . obtain ⟨u,rfl,r1⟩:=vals1 r
    cases r1
    exact call_int_bool ⟨.int (if k then 1 else 0),H,I.tok _,⟨_,rfl⟩,q⟩
end
end L2
namespace L2
open PySem PySem.Spec PyProof.Rows
structure ObjM (h:Heap) (x dx C:Addr) (mA:Str->Option Value):Prop where
  obj:h.get? x=some (PySem.W.instObj C dx)
  ns:h.Ns1 dx mA
  ne:dx≠x
theorem lookIn_ns {h:Heap} {dx:Addr} {mA:Str->Option Value} (n:h.Ns1 dx mA):∃ od,h.get? dx=some od/\∀ name,PySem.W.lookIn name od=some (mA name):=by
  obtain ⟨o,es,ep,ho,hd,hk,_,hm⟩:=n
  refine ⟨o,ho,fun name=>?_⟩
  have e:=hm name
  unfold nsFind findBy at e
  rw [<- Array.find?_toList] at e
  unfold PySem.W.lookIn
  rw [hd]
  dsimp only
  split
  . rename_i y q
    rw [q] at e
    exact congrArg some e
  . rename_i q
    rw [q] at e
    have a:es.toList.any (·.refKey)=false:=by
      rw [List.any_eq_false]
      intro y hy
      obtain ⟨z,t,hkey⟩:=hk y (Array.mem_toList_iff.mp hy)
      simp [DictEntry.refKey,hkey]
    have a':¬ es.toList.any (·.refKey)=true:=by rw [a];exact Bool.false_ne_true
    rw [if_neg a']
    exact congrArg some e
theorem ObjM.look {h:Heap} {x dx C:Addr} {mA:Str->Option Value} (I:ObjM h x dx C mA):∃ od,PySem.W.InstAt h x (PySem.W.instObj C dx) C (some od)/\∀ name,PySem.W.lookIn name od=some (mA name) :=
  let ⟨od,ho,hl⟩:=lookIn_ns I.ns
  ⟨od,⟨I.obj,rfl,rfl,ho⟩,hl⟩
section
variable {prog:Program} {w:World} {A:Around} {E:Value->Shared->Prop} {s:Shared} {K:PySem.W.Frag} {x dx C f:Addr} {mA:Str->Option Value} {name:Str} {v:Value}
theorem get_map {expr:Bool} {Q:Value->Shared->Prop} (X:K.In s.heap) (I:ObjM s.heap x dx C mA) (hg:PySem.W.plainGet K C name=true) (hh:PySem.W.hasDictIn K C=true)
    (ha:PySem.W.findIn K (.ref C) name=some none) (hv:mA name=some v) (hv':PySem.W.handedIn v=true) (h:Q v { s with toks:=s.toks + 1 }) :
    wpAny (model prog w) A (getAttr (.ref x) name expr) Q E s:=by
  obtain ⟨od,J,hl⟩:=I.look
  exact PySem.W.get_value X J (PySem.W.plainGet_of hg).1 (PySem.W.findObj_own hh ha rfl (by rw [hl,hv])) hv' h
theorem get_meth {pl:Sem Bool} {Q:Value × List Value->Shared->Prop} (X:K.In s.heap) (I:ObjM s.heap x dx C mA) (hg:PySem.W.plainGet K C name=true)
    (hf:PySem.W.findIn K (.ref C) name=some (some (.ref f))) (ht:PySem.W.isFn K (.ref f)=true) (hv:mA name=none) (h:Q (.ref f,[.ref x]) s) :
    wpAny (model prog w) A (getMethod (.ref x) name pl) Q E s:=by
  obtain ⟨od,J,hl⟩:=I.look
  exact PySem.W.method_fn X J (PySem.W.plainGet_of hg).1 (PySem.W.plainGet_of hg).2 hf (beq_iff_eq.mp ht) (by show (PySem.W.lookIn name od).map (·.isSome)=some false;rw [hl,hv];rfl) h
theorem set_map {ns:List Str} {Q:Unit->Shared->Prop} (X:K.In s.heap) (I:ObjM s.heap x dx C mA)
    (hs:PySem.W.findIn K (.ref C) "__setattr__"=some (some (.builtin "object.__setattr__"))) (hp:PySem.W.plainOver K C=true) (ht:PySem.W.takerIn K C name=some none) (hh:PySem.W.hasDictIn K C=true)
    (hw:PySem.Within mA ns) (hsz:ns.length<=sizeLine)
    (h:∀ h',ObjM h' x dx C (fun y=>if y=name then some v else mA y)->Heap.SameBut dx s.heap h'->Q () { s with heap:=h',toks:=s.toks + 2 }) :
    wpAny (model prog w) A (setAttr (.ref x) name v) Q E s:=by
  obtain ⟨od,J,hl⟩:=I.look
  refine PySem.W.set_plain X J hs (PySem.W.osa_open (s:={ s with toks:=s.toks + 1 }) (r:=none) X J hp ht fun b=>?_)
  obtain ⟨cd,hc,hd'⟩:=PySem.W.any_some hh
  have hx:s.heap.get? x=some ⟨.ref C,some dx,.plain,#[]⟩:=I.obj
  refine wpAny_bind (wpAny_pure (wpAny_bind (wpAny_bind (wpAny_loadPart hx (wpAny_bind (PySem.W.Looks.here (s:={ s with toks:=s.toks + 1 }) (PySem.W.looks_clsIn X hc) ?_))))))
  rw [hd']
  refine wpAny_pure (a:=some dx) (wpAny_bind (wpAny_pure (wpAny_bind ?_)))
  refine wpAny_nsSet1 (s:={ s with toks:=s.toks + 1 }) I.ns fun h' hn2 hs2=>?_
  obtain ⟨oD,esD,epD,hoD,hdD,hcD⟩:=hn2.count (PySem.Within.cons name v hw)
  refine wpAny_bind (wpAny_lookBehind hoD (by rw [hdD];exact pastItsLine_dict (Nat.le_trans hcD (by rw [List.length_cons];lia))) ?_)
  exact wpAny_pure (h _ ⟨(hs2.2 _ (Ne.symm I.ne)).trans I.obj,hn2,I.ne⟩ hs2)
theorem make_map {R:Result->Shared->Prop} {vs:List Value} {kw:List (Str × Value)} (X:K.In s.heap) (hm:PySem.W.makesIn K C=true)
    (hi:PySem.W.findIn K (.ref C) "__init__"=some (some (.ref f))) (hf:PySem.W.typeIn K (.ref f)=some (.type "function"))
    (h : codeAny (model prog w) (A.under (.builtin "type.__call__" ⟨.ref C::vs,kw⟩)) (.call (.ref f) ⟨.ref (s.heap.objs.size + 1)::vs,kw⟩) (PySem.W.InitBack (s.heap.objs.size + 1) R)
      { s with heap:=(s.heap.push PySem.W.emptyDict).push (PySem.W.instObj C s.heap.objs.size) }) :
    codeAny (model prog w) A (.call (.ref C) ⟨vs,kw⟩) R s:=by
  obtain ⟨hh,g,d,t,os⟩:=s
  exact PySem.W.make_core (PySem.W.makes_of X hm) (PySem.W.looks_findIn X hi) (fun self=>PySem.W.bind_fn X self hf) (.inl rfl) h
theorem make_map0 {R:Result->Shared->Prop} (X:K.In s.heap) (hm:PySem.W.makesIn K C=true)
    (hi:PySem.W.findIn K (.ref C) "__init__"=some (some (.builtin "object.__init__")))
    (hb:∀ self,PySem.W.Looks (model prog w) s.heap (bindSpecial (.builtin "object.__init__") self) (.builtin "object.__init__",[self]))
    (h : codeAny (model prog w) (A.under (.builtin "type.__call__" ⟨[.ref C],[]⟩)) (.call (.builtin "object.__init__") ⟨[.ref (s.heap.objs.size + 1)],[]⟩) (PySem.W.InitBack (s.heap.objs.size + 1) R)
      { s with heap:=(s.heap.push PySem.W.emptyDict).push (PySem.W.instObj C s.heap.objs.size) }) :
    codeAny (model prog w) A (.call (.ref C) ⟨[],[]⟩) R s:=by
  obtain ⟨hh,g,d,t,os⟩:=s
  exact PySem.W.make_core (PySem.W.makes_of X hm) (PySem.W.looks_findIn X hi) hb (.inr ⟨rfl,rfl⟩) h
end
noncomputable def putF (f:Str) (v:V):List (Str × V)->List (Str × V)
  | []=>[(f,v)]
  | (g,x)::r=>if g=f then (g,v)::r else (g,x)::putF f v r
theorem lookup_putF (f g:Str) (v:V):∀ fs:List (Str × V),(putF f v fs).lookup g=if g=f then some v else fs.lookup g
  | [] => by
    show List.lookup g [(f,v)]=_
    by_cases h:g=f
    . have hb:(g == f)=true:=beq_iff_eq.mpr h
      simp only [List.lookup,hb,if_pos h]
    . have hb:(g == f)=false:=beq_eq_false_iff_ne.mpr h
      simp only [List.lookup,hb,if_neg h]
  | (k, x)::r=>by
    have ih:=lookup_putF f g v r
    rw [show putF f v ((k,x)::r)=(if k=f then (k,v)::r else (k,x)::putF f v r) from rfl]
    by_cases hk:k=f
    . rw [if_pos hk]
      by_cases h:g=k
      . have hb:(g == k)=true:=beq_iff_eq.mpr h
        simp only [List.lookup,hb,if_pos (h.trans hk)]
      . have hb:(g == k)=false:=beq_eq_false_iff_ne.mpr h
        simp only [List.lookup,hb,if_neg (fun e:g=f=>h (e.trans hk.symm))]
    . rw [if_neg hk]
      by_cases h:g=k
      . have hb:(g == k)=true:=beq_iff_eq.mpr h
        simp only [List.lookup,hb,if_neg (fun e:g=f=>hk (h.symm.trans e))]
      . have hb:(g == k)=false:=beq_eq_false_iff_ne.mpr h
        simp only [List.lookup,hb]
        exact ih
theorem keys_putF (f:Str) (v:V):∀ fs:List (Str × V),f∈(putF f v fs).map (·.1)/\∀ g,g∈fs.map (·.1)->g∈(putF f v fs).map (·.1)
  | []=>⟨by simp [putF],fun g h=>by simp at h⟩
  | (k, x)::r=>by
    obtain ⟨i1,i2⟩:=keys_putF f v r
    rw [show putF f v ((k,x)::r)=(if k=f then (k,v)::r else (k,x)::putF f v r) from rfl]
    by_cases hk:k=f
    . rw [if_pos hk]
      subst hk
      exact ⟨by simp,fun g h=>by simpa using h⟩
    . rw [if_neg hk]
      refine ⟨?_,fun g h=>?_⟩
      . rw [List.map_cons]
        exact List.mem_cons_of_mem _ i1
      . rw [List.map_cons] at h ⊢
        rcases List.mem_cons.mp h with e | e
        . exact List.mem_cons.mpr (.inl e)
        . exact List.mem_cons_of_mem _ (i2 g e)
theorem length_putF (f:Str) (v:V):∀ fs:List (Str × V),(putF f v fs).length<=fs.length + 1
  | []=>by simp [putF]
  | (k,x)::r=>by
    have ih:=length_putF f v r
    rw [show putF f v ((k,x)::r)=(if k=f then (k,v)::r else (k,x)::putF f v r) from rfl]
    by_cases hk:k=f
    . rw [if_pos hk,List.length_cons,List.length_cons];lia
    . rw [if_neg hk,List.length_cons,List.length_cons];lia
theorem RelO.some_of {v:V} {o:Option Value} (r:RelO (some v) o):∃ u,o=some u/\RelV v u:=by
  cases o with
  | none=>exact (show False from r).elim
  | some u=>exact ⟨u,rfl,r⟩
theorem RelO.none_of {o:Option Value} (r:RelO none o):o=none:=by
  cases o with
  | none=>rfl
  | some u=>exact (show False from r).elim
theorem handed_of {v:V} {u:Value} (r:RelV v u):PySem.W.handedIn u=true:=by
  cases v with
  | non=>cases (show u=Value.none from r);rfl
  | bl b=>cases (show u=Value.bool b from r);rfl
  | int i=>obtain ⟨t,e⟩:=(show ∃ t,u=Value.int i t from r);cases e;rfl
  | str x=>obtain ⟨t,e⟩:=(show ∃ t,u=Value.str x t from r);cases e;rfl
  | byt b=>obtain ⟨t,e⟩:=(show ∃ t,u=Value.bytes b t from r);cases e;rfl
  | flt b=>obtain ⟨t,e⟩:=(show ∃ t,u=Value.float b t from r);cases e;rfl
  | ref a=>cases (show u=Value.ref a from r);rfl
  | ty n=>cases (show u=Value.type n from r);rfl
section
variable {P:Program} {w:World} {H H':Hp} {h h':Heap} {a C dx:Addr} {fs fs':List (Str × V)}
theorem ins_get (hok:HOk P w H h) (e:H a=some (.ins C dx fs)):∃ mA,ObjM h a dx C mA/\(∀ f,RelO (fs.lookup f) (mA f))/\PySem.Within mA (fs.map (·.1))/\fs.length<=1000/\H dx=some (.own a):=by
  obtain ⟨d,z,ne,ob,mA,n,r,q⟩:=(show ObjOk P w H h a (.ins C dx fs) from hok a _ e)
  exact ⟨mA,⟨ob,n,ne⟩,r,q,z,d⟩
end
structure Cls (K:PySem.W.Frag) (C:Addr):Prop where
  pg:PySem.W.plainGet K C Str.empty=true
  hd:PySem.W.hasDictIn K C=true
  po:PySem.W.plainOver K C=true
  sa:PySem.W.findIn K (.ref C) "__setattr__"=some (some (.builtin "object.__setattr__"))
theorem Cls.get {K:PySem.W.Frag} {C:Addr} (c:Cls K C) (f:Str):PySem.W.plainGet K C f=true:=c.pg
noncomputable def NoAttr (K:PySem.W.Frag) (C:Addr) (f:Str):Prop:=PySem.W.findIn K (.ref C) f=some none
theorem NoAttr.taker {K:PySem.W.Frag} {C:Addr} {f:Str} (n:NoAttr K C f):PySem.W.takerIn K C f=some none:=by
  unfold PySem.W.takerIn
  rw [show PySem.W.findIn K (.ref C) f=some none from n]
  rfl
structure Meth (K:PySem.W.Frag) (C:Addr) (m:Str) (f:Addr):Prop where
  at_:PySem.W.findIn K (.ref C) m=some (some (.ref f))
  fn:PySem.W.isFn K (.ref f)=true
  kp:PySem.W.keepIn K (.ref f)=true
section
variable {X:Cx} {pins:List (Addr × Obj)} {σ:St} {H:Hp} {s:Shared} {a C dx:Addr} {fs:List (Str × V)} {f:Str} {v:V} {A:Around} {E:Value->Shared->Prop}
theorem getattr_ok {b:Bool} {Q:Value->Shared->Prop} (I:Inv X pins σ H s) (e:H a=some (.ins C dx fs)) (c:Cls X.K C) (n:NoAttr X.K C f) (l:fs.lookup f=some v)
    (h:∀ u s',Inv X pins σ H s'->RelV v u->Q u s'):wpAny (model X.prog X.w) A (getAttr (.ref a) f b) Q E s:=by
  obtain ⟨mA,O,r,_,_,_⟩:=ins_get I.hok e
  obtain ⟨u,hu,ru⟩:=RelO.some_of (v:=v) (o:=mA f) (by rw [<- l];exact r f)
  exact get_map I.kIn O (c.get f) c.hd n hu (handed_of ru) (h u _ (I.tok _) ru)
theorem getmeth_ok {m:Str} {g:Addr} {pl:Sem Bool} {Q:Value × List Value->Shared->Prop} (I:Inv X pins σ H s) (e:H a=some (.ins C dx fs)) (c:Cls X.K C) (k:Meth X.K C m g) (l:fs.lookup m=none)
    (h:Q (.ref g,[.ref a]) s):wpAny (model X.prog X.w) A (getMethod (.ref a) m pl) Q E s:=by
  obtain ⟨mA,O,r,_,_,_⟩:=ins_get I.hok e
  have hn:mA m=none:=RelO.none_of (by rw [<- l];exact r m)
  exact get_meth I.kIn O (c.get m) k.at_ k.fn hn h
theorem setattr_ok {y:V} {u:Value} {Q:Unit->Shared->Prop} (I:Inv X pins σ H s) (e:H a=some (.ins C dx fs)) (c:Cls X.K C) (n:NoAttr X.K C f) (hl:fs.length < 1000) (ry:RelV y u)
    (h:∀ s',Inv X pins σ (upd H a (.ins C dx (putF f y fs))) s'->Q () s'):wpAny (model X.prog X.w) A (setAttr (.ref a) f u) Q E s:=by
  obtain ⟨mA,O,r,wi,_,ho⟩:=ins_get I.hok e
  have hz:(fs.map (·.1)).length<=sizeLine:=by rw [List.length_map,sizeLine_eq];lia
  refine set_map I.kIn O c.sa c.po n.taker c.hd wi hz fun h' O' sb=>h _ ?_
  have hd:∃ o,h'.get? dx=some o:=let ⟨o,_,_,e',_⟩:=O'.ns;⟨o,e'⟩
  refine I.write (x:=a) (e:=dx) (by rw [e];exact True.intro) (.inr ho) (fun b q hb z=>(sb.2 b hb).trans z) hd ?_
  refine ⟨by rw [upd_ne O.ne];exact ho,?_,O.ne,O'.obj,_,O'.ns,fun g=>?_,fun g hg=>?_⟩
  . have:=length_putF f y fs;lia
  . show RelO ((putF f y fs).lookup g) (if g=f then some u else mA g)
    rw [lookup_putF]
    by_cases q:g=f
    . rw [if_pos q,if_pos q];exact ry
    . rw [if_neg q,if_neg q];exact r g
  . by_cases q:g=f
    . rw [q];exact (keys_putF f y fs).1
    . refine (keys_putF f y fs).2 g (wi g fun z=>hg ?_)
      show (if g=f then some u else mA g)=none
      rw [if_neg q];exact z
theorem Inv.made (I:Inv X pins σ H s):Inv X pins σ (upd (upd H s.heap.objs.size (.own (s.heap.objs.size + 1))) (s.heap.objs.size + 1) (.ins C s.heap.objs.size []))
    { s with heap:=(s.heap.push PySem.W.emptyDict).push (PySem.W.instObj C s.heap.objs.size) }:=by
  have e1:(s.heap.push PySem.W.emptyDict).get? s.heap.objs.size=some PySem.W.emptyDict:=Heap.get?_push_size s.heap rfl
  have e2:((s.heap.push PySem.W.emptyDict).push (PySem.W.instObj C s.heap.objs.size)).get? (s.heap.objs.size + 1)=some (PySem.W.instObj C s.heap.objs.size):=by
    have:=Heap.get?_push_size (s.heap.push PySem.W.emptyDict) (o:=PySem.W.instObj C s.heap.objs.size) rfl
    rwa [Heap.size_push] at this
  have e3:(s.heap.push PySem.W.emptyDict).Ns s.heap.objs.size (fun _=>none):=⟨PySem.W.emptyDict,#[],_,e1,rfl,(fun e he=>absurd he (by simp)),fun _=>rfl⟩
  have I1:=I.laid (a:=s.heap.objs.size) (o:=.own (s.heap.objs.size + 1)) (h':=s.heap.push PySem.W.emptyDict) (t':=s.toks) (fun b u q=>Heap.get?_push_of_some _ q) (Nat.le_refl _) ⟨_,e1⟩
  refine I1.laid (a:=s.heap.objs.size + 1) (o:=.ins C s.heap.objs.size []) (t':=s.toks) (fun b u q=>Heap.get?_push_of_some _ q) (Nat.le_of_eq (Heap.size_push _ _)) ?_
  have ne:s.heap.objs.size≠s.heap.objs.size + 1:=Nat.ne_of_lt (Nat.lt_succ_self _)
  refine ⟨by rw [upd_ne ne,upd_same],Nat.zero_le _,ne,e2,fun _=>none,(Heap.Ns1.of_empty e3).at fun o q=>Heap.get?_push_of_some _ q,fun _=>True.intro,fun y hy=>absurd rfl hy⟩
theorem attr_of {prog:Program} {w:World} {env:Env} {e:Expr} {f:Str} {pos:Pos} {s:Shared} {Q:Value->Shared->Prop} (hb:attributeBase e f env (eval e env)=eval e env)
    (h:wpAny (model prog w) A (eval e env) (fun o s₁=>wpAny (model prog w) A (getAttr o f true) Q E s₁) E s):wpAny (model prog w) A (eval (.Attribute e f pos) env) Q E s :=
  Attribute_any_ h (by rw [arm_eval_Attribute,hb])
end
noncomputable def tFld (K:PySem.W.Frag) (ta:TE) (f:Str):TE:=fun σ H Q=>ta σ H fun x H1=>∃ a C dx fs v,x=.ref a/\H1 a=some (.ins C dx fs)/\Cls K C/\NoAttr K C f/\fs.lookup f=some v/\Q v H1
noncomputable def sFld (K:PySem.W.Frag) (ta tv:TE) (f:Str):TS:=fun D σ H=>tv σ H fun y H1=>ta σ H1 fun x H2=>∃ a C dx fs,x=.ref a/\H2 a=some (.ins C dx fs)/\Cls K C/\NoAttr K C f/\fs.length < 1000 /\
  D.nx σ (upd H2 a (.ins C dx (putF f y fs)))
noncomputable def InOp (X:Cx) (op:Operator) (rd:V->V->Hp->VK->Prop):Prop :=
  ∀ (pins:List (Addr × Obj)) (s:Shared) (σ:St) (H:Hp) (x y:V) (u v:Value) (Q:VK),Inv X pins σ H s->RelV x u->RelV y v->rd x y H Q->wpAny (model X.prog X.w) X.A (inplaceOp op u v) (EP X pins σ Q) X.xe s
noncomputable def sFldAug (K:PySem.W.Frag) (ta tv:TE) (rd:V->V->Hp->VK->Prop) (f:Str):TS:=fun D σ H=>ta σ H fun x H1=>∃ a C dx fs v,x=.ref a/\H1 a=some (.ins C dx fs)/\Cls K C/\NoAttr K C f/\fs.lookup f=some v /\
  tv σ H1 fun y H2=>rd v y H2 fun z H3=>∃ dx' fs',H3 a=some (.ins C dx' fs')/\fs'.length < 1000/\D.nx σ (upd H3 a (.ins C dx' (putF f z fs')))
section
variable {X:Cx} {o e value:Expr} {f:Str} {pos pos' tpos:Pos} {ta tv:TE}
theorem pe_fld (he:PE X e ta) (hb:attributeBase e f X.env (eval e X.env)=eval e X.env):PE X (.Attribute e f pos) (tFld X.K ta f):=by
  intro pins s σ H Q I h
  refine attr_of hb (thn (he pins s σ H _ I h) fun u s1 h_q=>?_)
  obtain ⟨x,H1,I1,rx,a,C,dx,fs,v,ex,ea,c,n,l,q⟩:=h_q
  subst ex
  obtain rfl:u=Value.ref a:=rx
  exact getattr_ok I1 ea c n l fun u' s2 I2 ru=>⟨v,H1,I2,ru,q⟩
theorem ps_fld (ha:PE X o ta) (hv:PE X value tv) (hs:swapsWith value (some (.Attribute o f pos')) pos.line X.env=pure false):PS X (.Assign [.Attribute o f pos'] value pos) (sFld X.K ta tv f):=by
  intro pins s σ H D I h
  refine plainObj_wpAny_Assign_Attribute (thn (hv pins s σ H _ I h) fun u s1 ⟨y,H1,I1,ry,q⟩=>thn (ha pins s1 σ H1 _ I1 q) fun ov s2 ⟨x,H2,I2,rx,a,C,dx,fs,ex,ea,c,n,l,q2⟩=>?_) hs
  subst ex
  obtain rfl:ov=Value.ref a:=rx
  exact setattr_ok I2 ea c n l ry fun s3 I3=>⟨σ,_,I3,q2⟩
theorem ps_fldaug {op:Operator} {rd:V->V->Hp->VK->Prop} (ha:PE X o ta) (hv:PE X value tv) (hop:InOp X op rd):PS X (.AugAssign (.Attribute o f tpos) op value pos) (sFldAug X.K ta tv rd f):=by
  intro pins s σ H D I h
  refine wpAny_AugAssign_AttributeAny (thn (ha pins s σ H _ I h) fun ov s1 h_q=>?_)
  obtain ⟨x,H1,I1,rx,a,C,dx,fs,v,ex,ea,c,n,l,q⟩:=h_q
  subst ex
  obtain rfl:ov=Value.ref a:=rx
  refine getattr_ok I1 ea c n l fun u s2 I2 ru=>thn (hv pins s2 σ H1 _ I2 q) fun w3 s3 ⟨y,H2,I3,ry,q3⟩=>thn (hop pins s3 σ H2 v y u w3 _ I3 ru ry q3) fun w4 s4 h_q=>?_
  obtain ⟨z,H3,I4,rz,dx',fs',ea',l',q4⟩:=h_q
  exact setattr_ok I4 ea' c n l' rz fun s5 I5=>⟨σ,_,I5,q4⟩
noncomputable def rAdd:V->V->Hp->VK->Prop:=fun x y H Q=>∃ i j,x=.int i/\y=.int j/\Q (.int (i + j)) H
theorem in_add:InOp X .Add rAdd:=by
  rintro pins s σ H x y u v Q I rx ry ⟨i,j,rfl,rfl,q⟩
  obtain ⟨t,rfl⟩:=(show ∃ t,u=Value.int i t from rx)
  obtain ⟨t',rfl⟩:=(show ∃ t',v=Value.int j t' from ry)
  exact PyProof.Rows.iadd_int ⟨.int (i + j),H,I.tok _,⟨_,rfl⟩,q⟩
theorem methcall_of {pl:Sem Bool} {m:Str} {apos:Pos} {args:List Expr} {pins:List (Addr × Obj)} {s:Shared} {σ:St} {H:Hp} {Q:Value->Shared->Prop} {te:TE} (he:PE X e te) (I:Inv X pins σ H s)
    (h : te σ H fun x H1=>∃ a C dx fs g,x=.ref a/\H1 a=some (.ins C dx fs)/\Cls X.K C/\Meth X.K C m g/\fs.lookup m=none /\
      ∀ s1,Inv X pins σ H1 s1->wpAny (model X.prog X.w) X.A (callWith pos (.ref g) [.ref a] (backTo pos (starEach args X.env)) (backToKw pos (keywordEach [] X.env))) Q X.xe s1)
    (ht : eval (.Call (.Attribute e m apos) args [] pos) X.env=(do
      let ov <- eval e X.env
      standAt apos.atName
      let (f,first) <- holding [ov] (getMethod ov m pl)
      callWith pos f first (backTo pos (starEach args X.env)) (backToKw pos (keywordEach [] X.env)))) :
    wpAny (model X.prog X.w) X.A (eval (.Call (.Attribute e m apos) args [] pos) X.env) Q X.xe s:=by
  refine PySem.W.methodCall_KW (pl:=pl) (thn (he pins s σ H _ I h) fun u s1 ⟨x,H1,I1,rx,a,C,dx,fs,g,ex,ea,c,k,l,q⟩=>?_) ht
  subst ex
  obtain rfl:u=Value.ref a:=rx
  exact getmeth_ok I1 ea c k l (q s1 I1)
end
section
variable {X:Cx} {pins:List (Addr × Obj)} {σ:St} {H:Hp} {s:Shared} {A:Around} {E:Value->Shared->Prop} {Q:Value->Shared->Prop} {c:Value} {b:Bool}
inductive TyOf (K:PySem.W.Frag) (H:Hp):V->Value->Prop where
  | non:TyOf K H .non (.type "NoneType")
  | bl (x:Bool):TyOf K H (.bl x) (.type "bool")
  | int (i:Int):TyOf K H (.int i) (.type "int")
  | str (x:Str):TyOf K H (.str x) (.type "str")
  | flt (x:UInt64):TyOf K H (.flt x) (.type "float")
  | lst {a:Addr} {xs:List V} (e:H a=some (.lst xs)):TyOf K H (.ref a) (.type "list")
  | frz {a:Addr} {o:Obj} {xs:List V} (e:H a=some (.frz o (.lst xs))):TyOf K H (.ref a) (.type "list")
  | tup {a:Addr} {xs:List V} (e:H a=some (.tup xs)):TyOf K H (.ref a) (.type "tuple")
  | dK {a:Addr} {kvs:List (Key × V)} (e:H a=some (.dK kvs)):TyOf K H (.ref a) (.type "dict")
  | dT {a:Addr} {kvs:List (List Key × V)} (e:H a=some (.dT kvs)):TyOf K H (.ref a) (.type "dict")
  | ins {a C dx:Addr} {fs:List (Str × V)} (e:H a=some (.ins C dx fs)) (cl:Cls K C) (ha:PySem.W.findIn K (.ref C) "__class__"=some (some (.builtin "object.__class__")))
      (hn:PySem.W.specialIn K (.builtin "object.__class__") "__get__"=some (some (.builtin "getset_descriptor.__get__"))) (htk:PySem.W.takesIn K (.builtin "object.__class__")=some true)
      (hm:PySem.W.mroIn K C (.type "object")=some true):TyOf K H (.ref a) (.ref C)
theorem isinst_ok {x:V} {u t:Value} (I:Inv X pins σ H s) (rx:RelV x u) (ty:TyOf X.K H x t) (e:PySem.W.kitOne X.K t c=some b) (h:∀ tk,Q (.bool b) { s with toks:=tk }) :
    wpAny (model X.prog X.w) A (call (.builtin "isinstance") [u,c]) Q E s:=by
  cases ty with
  | non=>cases (show u=Value.none from rx);exact PySem.W.kia_one PySem.W.kitx_none I.kIn True.intro e (fun z=>nomatch z) h
  | bl y=>cases (show u=Value.bool y from rx);exact PySem.W.kia_one PySem.W.kitx_bool I.kIn True.intro e (fun z=>nomatch z) h
  | int i=>obtain ⟨t,q⟩:=(show ∃ t,u=Value.int i t from rx);cases q;exact PySem.W.kia_one PySem.W.kitx_int I.kIn True.intro e (fun z=>nomatch z) h
  | str y=>obtain ⟨t,q⟩:=(show ∃ t,u=Value.str y t from rx);cases q;exact PySem.W.kia_one PySem.W.kitx_str I.kIn True.intro e (fun z=>nomatch z) h
  | flt y=>obtain ⟨t,q⟩:=(show ∃ t,u=Value.float y t from rx);cases q;exact PySem.W.kia_one PySem.W.kitx_float I.kIn True.intro e (fun z=>nomatch z) h
  | @lst a xs ea =>
    cases (show u=Value.ref a from rx)
    obtain ⟨_,_,n,_,h1⟩:=(show ObjOk X.prog X.w H s.heap a (.lst xs) from I.hok a _ ea)
    exact PySem.W.kia_one PySem.W.kitx_list I.kIn ⟨_,h1,rfl⟩ e (fun z=>nomatch z) h
  | @frz a ob xs ea =>
    cases (show u=Value.ref a from rx)
    obtain ⟨_,_,_,n,_,h1⟩:=(show ObjOk X.prog X.w H s.heap a (.frz ob (.lst xs)) from I.hok a _ ea)
    exact PySem.W.kia_one PySem.W.kitx_list I.kIn ⟨_,h1,rfl⟩ e (fun z=>nomatch z) h
  | @tup a xs ea =>
    cases (show u=Value.ref a from rx)
    obtain ⟨_,_,_,p⟩:=(show ObjOk X.prog X.w H s.heap a (.tup xs) from I.hok a _ ea)
    obtain ⟨o,h1,h2,_⟩:=p
    exact PySem.W.kia_one PySem.W.kitx_tuple I.kIn ⟨o,h1,h2⟩ e (fun z=>nomatch z) h
  | @dK a kvs ea =>
    cases (show u=Value.ref a from rx)
    obtain ⟨_,_,vs,_,p⟩:=(show ObjOk X.prog X.w H s.heap a (.dK kvs) from I.hok a _ ea)
    obtain ⟨o,es,ep,h1,h2,_⟩:=p
    exact PySem.W.kia_one PySem.W.kitx_dict I.kIn ⟨o,h1,h2.1⟩ e (fun z=>nomatch z) h
  | @dT a kvs ea =>
    cases (show u=Value.ref a from rx)
    obtain ⟨_,_,xs,_,o,es,ep,h1,h2,_⟩:=(show ObjOk X.prog X.w H s.heap a (.dT kvs) from I.hok a _ ea)
    exact PySem.W.kia_one PySem.W.kitx_dict I.kIn ⟨o,h1,h2.1⟩ e (fun z=>nomatch z) h
  | @ins a C dx fs ea cl ha hn htk hm =>
    cases (show u=Value.ref a from rx)
    obtain ⟨mA,O,_⟩:=ins_get I.hok ea
    obtain ⟨od,J,_⟩:=O.look
    exact PySem.W.kia_one (PySem.W.kitx_own (cl.get _) cl.hd ha hn htk hm) I.kIn J e (fun z=>nomatch z) h
end
end L2
namespace L2
open PySem PySem.Spec PyProof.Rows
structure Room (k:Nat) (A:Around):Prop where
  hd:A.handled=none
  dp:A.depth + 3 * k + 5 < recursionLimit
  un:A.units + 16 * k + 200 < cLine
theorem Room.mono {j k:Nat} {A:Around} (r:Room k A) (h:j<=k):Room j A:=⟨r.hd,by have:=r.dp;lia,by have:=r.un;lia⟩
theorem Room.deeper {k:Nat} {A:Around} (r:Room (k + 1) A) (env:Env):Room k (A.deeper env) :=
  ⟨r.hd,by have:=r.dp;show A.depth + 1 + 3 * k + 5 < _;lia,by have:=r.un;show A.units + 3 + 16 * k + 200 < _;lia⟩
theorem make_depth {A:Around} {C:Addr} {us:List Value} {kw:List (Str × Value)}:(A.under (.builtin "type.__call__" ⟨.ref C::us,kw⟩)).depth=A.depth + 1:=by
  first | rfl | simp [Around.under,Code.weight,Code.isCreation,Code.isGuard,Code.isCaller,Code.frames,Code.isFrame,guardIds]
theorem make_units {A:Around} {C:Addr} {us:List Value} {kw:List (Str × Value)}:(A.under (.builtin "type.__call__" ⟨.ref C::us,kw⟩)).units=A.units + 1:=by
  first | rfl | simp [Around.under,Code.cUnits,Code.frames,Code.isFrame]
theorem Room.make {k:Nat} {A:Around} (r:Room (k + 1) A) (C:Addr) (us:List Value) (kw:List (Str × Value)):Room k (A.under (.builtin "type.__call__" ⟨.ref C::us,kw⟩)) :=
  ⟨r.hd,by have:=r.dp;rw [make_depth];lia,by have:=r.un;rw [make_units];lia⟩
theorem Room.depth {k:Nat} {A:Around} (r:Room k A):A.depth < recursionLimit:=by have:=r.dp;lia
noncomputable def tNil:TA:=fun _ H Q=>Q [] H
noncomputable def tCons (ta:TE) (tr:TA):TA:=fun σ H Q=>ta σ H fun x H1=>tr σ H1 fun xs H2=>Q (x::xs) H2
section
variable {X:Cx} {e:Expr} {es:List Expr} {te:TE} {t:TA} {pos:Pos}
theorem pa_nil:PA X [] tNil:=fun _ _ _ _ H Q I h=>Calls.spliced_nil ⟨[],H,I,.nil,h⟩
theorem pa_cons (ha:PE X e te) (hr:PA X es t) (hs:starEach (e::es) X.env=(false,eval e X.env)::starEach es X.env:=by rfl):PA X (e::es) (tCons te t):=by
  intro pos pins s σ H Q I h
  rw [hs]
  show wpAny _ _ (spliced ((false,eval e X.env)::backTo pos (starEach es X.env))) _ _ s
  refine Calls.spliced_cons (thn (ha pins s σ H _ I h) fun u s1 h_q=>?_)
  obtain ⟨x,H1,I1,r1,q1⟩:=h_q
  exact thn (hr pos pins s1 σ H1 _ I1 q1) fun us s2 ⟨xs,H2,I2,r2,q2⟩=>⟨x::xs,H2,I2,.cons r1 r2,q2⟩
noncomputable def tTup (t:TA):TE:=fun σ H Q=>t σ H fun xs H1=>xs.length<=sizeLine/\∀ p,H1 p=none->Q (.ref p) (upd H1 p (.tup xs))
noncomputable def tLst (t:TA):TE:=fun σ H Q=>t σ H fun xs H1=>xs.length<=sizeLine/\∀ p,H1 p=none->Q (.ref p) (upd H1 p (.lst xs))
theorem pe_tup {x1} (h:PA X es t):PE X (.Tuple es x1 pos) (tTup t):=by
  intro pins s σ H Q I hq
  refine wpAny_Tuple_spliced (thn (h pos pins s σ H _ I hq) fun us s1 ⟨xs,H1,I1,r,z,q⟩=>⟨by rw [<- r.length];exact z,?_⟩)
  have hf:H1 s1.heap.objs.size=none:=I1.hok.fresh (Nat.le_refl _)
  refine ⟨.ref s1.heap.objs.size,upd H1 s1.heap.objs.size (.tup xs),I1.laid (t':=s1.toks) (fun b u e=>Heap.get?_push_of_some _ e) (Nat.le_refl _) ?_,rfl,q _ hf⟩
  exact ⟨z,us,r,⟨_,Heap.get?_push_size _ rfl,rfl,_,rfl⟩⟩
theorem pe_lst (h:PA X es t):PE X (.List es pos) (tLst t):=by
  intro pins s σ H Q I hq
  refine wpAny_List_spliced (thn (h pos pins s σ H _ I hq) fun us s1 ⟨xs,H1,I1,r,z,q⟩=>⟨by rw [<- r.length];exact z,?_⟩)
  have hf:H1 s1.heap.objs.size=none:=I1.hok.fresh (Nat.le_refl _)
  refine ⟨.ref s1.heap.objs.size,upd H1 s1.heap.objs.size (.lst xs),I1.laid (t':=s1.toks) (fun b u e=>Heap.get?_push_of_some _ e) (Nat.le_refl _) ?_,rfl,q _ hf⟩
  exact ⟨z,us,0,r,Heap.get?_push_size _ rfl⟩
end
noncomputable abbrev Sp:=List V->Hp->VK->XK->Prop
noncomputable abbrev CXT:=List Env->Hp->Shared->XK->Value->Shared->Prop
structure Env0 (P:Program) (w:World) (K:PySem.W.Frag) (mg:Str->Option Value) (base:Heap) (A:Around) (outer:List Env) (s:Shared) (H:Hp):Prop where
  frames:A.frames=some outer
  mod:Mod K mg base
  bs:∀ b o,base.get? b=some o->s.heap.get? b=some o/\H b=none
  bsz:base.objs.size<=s.heap.objs.size
  funs:s.heap.FunFrames base outer
  frf:∀ b∈frs outer,H b=none
  hok:HOk P w H s.heap
  bare:AllBare s.gens
noncomputable def CE (outer:List Env) (P:Program) (w:World) (H:Hp) (s:Shared) (Q:VK) (u:Value) (s':Shared):Prop :=
  ∃ v H',s'.os=s.os/\AllBare s'.gens/\Un (frs outer) [] H H' s.heap s'.heap/\HOk P w H' s'.heap/\RelV v u/\Q v H'
noncomputable def CR (CX:CXT) (outer:List Env) (P:Program) (w:World) (H:Hp) (s:Shared) (Q:VK) (E:XK) (r:Result) (s':Shared):Prop :=
  match r with
  | .ok (.ret u)=>CE outer P w H s Q u s'
  | .ok _=>False
  | .error e=>CX outer H s E e s'
structure FnOk (P:Program) (w:World) (K:PySem.W.Frag) (mg:Str->Option Value) (base:Heap) (CX:CXT) (k:Nat) (f:Addr) (fd:FuncData) (ps:List Str) (sp:Sp):Prop where
  len:∀ vs H Q E,sp vs H Q E->vs.length=ps.length
  run : ∀ (A:Around) (outer:List Env) (s:Shared) (H:Hp) (args:Args) (us:List Value) (vs:List V) (Q:VK) (E:XK),Room k A->Env0 P w K mg base A outer s H->BindsTo s fd args (ps.zip us)->Vals vs us->sp vs H Q E ->
    codeAny (model P w) A (.call (.ref f) args) (CR CX outer P w H s Q E) s
theorem FnOk.mono {P:Program} {w:World} {K:PySem.W.Frag} {mg:Str->Option Value} {base:Heap} {CX:CXT} {j k:Nat} {f:Addr} {fd:FuncData} {ps:List Str} {sp:Sp} (F:FnOk P w K mg base CX j f fd ps sp) (h:j<=k) :
    FnOk P w K mg base CX k f fd ps sp:=⟨F.len,fun A outer s H args us vs Q E hr=>F.run A outer s H args us vs Q E (hr.mono h)⟩
theorem FnOk.imp {P:Program} {w:World} {K:PySem.W.Frag} {mg:Str->Option Value} {base:Heap} {CX:CXT} {k:Nat} {f:Addr} {fd:FuncData} {ps:List Str} {sp sp':Sp} (F:FnOk P w K mg base CX k f fd ps sp)
    (h:∀ vs H Q E,sp' vs H Q E->sp vs H Q E):FnOk P w K mg base CX k f fd ps sp' :=
  ⟨fun vs H Q E q=>F.len vs H Q E (h _ _ _ _ q),fun A outer s H args us vs Q E hr he hb hv hs=>F.run A outer s H args us vs Q E hr he hb hv (h _ _ _ _ hs)⟩
theorem Env0.make {P:Program} {w:World} {K:PySem.W.Frag} {mg:Str->Option Value} {base:Heap} {A:Around} {outer:List Env} {s:Shared} {H:Hp} (e:Env0 P w K mg base A outer s H) (C:Addr) (us:List Value) (kw:List (Str × Value)) :
    Env0 P w K mg base (A.under (.builtin "type.__call__" ⟨.ref C::us,kw⟩)) outer s H:=⟨by first | exact e.frames | (simpa [Around.under,Code.envs,Code.isFrame,pushEnvs] using e.frames),e.mod,e.bs,e.bsz,e.funs,e.frf,e.hok,e.bare⟩
section
variable {X:Cx} {pins:List (Addr × Obj)} {σ:St} {H:Hp} {s s':Shared}
theorem Inv.env0 (I:Inv X pins σ H s):Env0 X.prog X.w X.K X.mg X.base X.A X.stack s H :=
  ⟨I.ok.frames,I.ok.mod,I.bs,Nat.le_trans I.ok.bsz I.sz,I.stack,I.stkFree,I.hok,I.bare⟩
theorem Inv.after {Q:VK} {u:Value} (I:Inv X pins σ H s) (h:CE X.stack X.prog X.w H s Q u s'):EP X pins σ Q u s':=by
  obtain ⟨v,H',os,bare,un,hok,r,q⟩:=h
  obtain ⟨hh,g,d,t,os'⟩:=s'
  obtain rfl:os'=s.os:=os
  exact ⟨v,H',I.call (h':=hh) (g':=g) (d':=d) (t':=t) (ch:=[]) un hok bare (fun b z=>absurd z (by simp)),r,q⟩
end
noncomputable def tCall (sp:Sp) (dvs:List V) (E:XK) (t:TA):TE:=fun σ H Q=>t σ H fun vs H1=>sp (vs++dvs) H1 Q E
noncomputable def tMeth (C:Addr) (m:Str) (sp:Sp) (dvs:List V) (E:XK) (ta:TE) (t:TA):TE:=fun σ H Q=>ta σ H fun x H1=>∃ a dx fs,x=.ref a/\H1 a=some (.ins C dx fs)/\fs.lookup m=none /\
  t σ H1 fun vs H2=>sp (x::(vs++dvs)) H2 Q E
noncomputable def tMake (C:Addr) (sp:Sp) (dvs:List V) (E:XK) (t:TA):TE:=fun σ H Q=>t σ H fun vs H1=>∀ x dx,H1 x=none->H1 dx=none->dx≠x ->
  sp (.ref x::(vs++dvs)) (upd (upd H1 dx (.own x)) x (.ins C dx [])) (fun v H2=>v=.non/\Q (.ref x) H2) E
noncomputable def Binds (K:PySem.W.Frag) (fd:FuncData) (ps:List Str) (ds:List Value):Prop :=
  ∀ (s:Shared) (us:List Value),K.In s.heap->(us++ds).length=ps.length->BindsTo s fd ⟨us,[]⟩ (ps.zip (us++ds))
theorem Binds.all {K:PySem.W.Frag} {fd:FuncData} {ps:List Str} (h:∀ us:List Value,us.length=ps.length->bindArgs fd ⟨us,[]⟩=pure (ps.zip us)):Binds K fd ps []:=fun s us _ hl=>by
  rw [List.append_nil] at hl ⊢
  exact .of_eq (h us hl)
noncomputable def Passes (CX:CXT) (X:Cx) (E:XK):Prop:=∀ (pins:List (Addr × Obj)) (σ:St) (H:Hp) (s:Shared) (e:Value) (s':Shared),Inv X pins σ H s->CX X.stack H s E e s'->X.xe e s'
section
variable {X:Cx} {CX:CXT} {k:Nat} {f C:Addr} {fd:FuncData} {ps:List Str} {sp:Sp} {dvs:List V} {ds:List Value} {E:XK} {x m:Str} {p pos apos:Pos} {e o:Expr} {es:List Expr} {ta:TE} {t:TA}
theorem run_fn {pins:List (Addr × Obj)} {σ:St} {H:Hp} {s:Shared} {Q:VK} {us:List Value} {vs:List V} (F:FnOk X.prog X.w X.K X.mg X.base CX k f fd ps sp) (hr:Room k X.A) (hb:Binds X.K fd ps ds) (hd:Vals dvs ds) (hx:Passes CX X E)
    (I:Inv X pins σ H s) (r:Vals vs us) (h:sp (vs++dvs) H Q E):wpAny (model X.prog X.w) X.A (call (.ref f) us) (EP X pins σ Q) X.xe s:=by
  have r2:Vals (vs++dvs) (us++ds):=r.append hd
  have hl:(us++ds).length=ps.length:=by rw [<- r2.length];exact F.len _ _ _ _ h
  refine wpAny_call (codeAny_mono (F.run X.A X.stack s H ⟨us,[]⟩ (us++ds) (vs++dvs) Q E hr I.env0 (hb s us I.kIn hl) r2 h) fun r s' hq=>?_)
  cases r with
  | error e=>exact hx pins σ H s e s' I hq
  | ok fl =>
    cases fl with
    | ret u=>exact I.after hq
    | next=>exact False.elim hq
    | brk=>exact False.elim hq
    | cont=>exact False.elim hq
theorem pe_call (F:FnOk X.prog X.w X.K X.mg X.base CX k f fd ps sp) (hr:Room k X.A) (hg:Gl X x) (hm:X.mg x=some (.ref f)) (hk:PySem.W.keepIn X.K (.ref f)=true) (hb:Binds X.K fd ps ds) (hd:Vals dvs ds) (hx:Passes CX X E)
    (ha:PA X (e::es) t) (hdb:(x == ("__debug__":Str))=false:=by decide) (he:starEach (e::es) X.env=(false,eval e X.env)::starEach es X.env:=by rfl) (hpl:(backTo pos (starEach es X.env)).any (·.1)=false:=by rfl) :
    PE X (.Call (.Name x p) (e::es) [] pos) (tCall sp dvs E t):=by
  intro pins s σ H Q I h
  refine wpAny_Call_Name_kw (ld_glob I hg hm ?_ hdb)
  refine PySem.W.callWith_K (h₀:=X.base) I.ok.mod.kin hk (thn (ha pos pins s σ H _ I h) fun us s1 ⟨vs,H1,I1,r,q⟩=>⟨I1.kIn,?_⟩) he hpl
  exact run_fn F hr hb hd hx I1 r q
theorem pe_call0 (F:FnOk X.prog X.w X.K X.mg X.base CX k f fd ps sp) (hr:Room k X.A) (hg:Gl X x) (hm:X.mg x=some (.ref f)) (hk:PySem.W.keepIn X.K (.ref f)=true) (hb:Binds X.K fd ps ds) (hd:Vals dvs ds) (hx:Passes CX X E)
    (hdb:(x == ("__debug__":Str))=false:=by decide):PE X (.Call (.Name x p) [] [] pos) (tCall sp dvs E tNil):=by
  intro pins s σ H Q I h
  refine wpAny_Call_Name_kw (ld_glob I hg hm ?_ hdb)
  exact PySem.W.callWith_K0 I.kIn hk (run_fn (us:=[]) F hr hb hd hx I .nil h)
theorem pe_meth {pl:Sem Bool} (he:PE X o ta) (c:Cls X.K C) (hm:Meth X.K C m f) (F:FnOk X.prog X.w X.K X.mg X.base CX k f fd ps sp) (hr:Room k X.A) (hb:Binds X.K fd ps ds) (hd:Vals dvs ds) (hx:Passes CX X E) (ha:PA X (e::es) t)
    (hst:starEach (e::es) X.env=(false,eval e X.env)::starEach es X.env:=by rfl) (hpl:(backTo pos (starEach es X.env)).any (·.1)=false:=by rfl)
    (ht : eval (.Call (.Attribute o m apos) (e::es) [] pos) X.env=(do
      let ov <- eval o X.env
      standAt apos.atName
      let (f,first) <- holding [ov] (getMethod ov m pl)
      callWith pos f first (backTo pos (starEach (e::es) X.env)) (backToKw pos (keywordEach [] X.env))):=by rfl) :
    PE X (.Call (.Attribute o m apos) (e::es) [] pos) (tMeth C m sp dvs E ta t):=by
  intro pins s σ H Q I h
  refine PySem.W.methodCall_KW (pl:=pl) (thn (he pins s σ H _ I h) fun u s1 ⟨x,H1,I1,rx,a,dx,fs,ex,ea,l,q⟩=>?_) ht
  subst ex
  obtain rfl:u=Value.ref a:=rx
  refine getmeth_ok I1 ea c hm l ?_
  refine PySem.W.callWith_K (first:=[.ref a]) (h₀:=X.base) I.ok.mod.kin hm.kp (thn (ha pos pins s1 σ H1 _ I1 q) fun us s2 ⟨vs,H2,I2,r,q2⟩=>⟨I2.kIn,?_⟩) hst hpl
  exact run_fn (us:=.ref a::us) (vs:=.ref a::vs) F hr hb hd hx I2 (.cons rfl r) q2
theorem pe_meth0 {pl:Sem Bool} (he:PE X o ta) (c:Cls X.K C) (hm:Meth X.K C m f) (F:FnOk X.prog X.w X.K X.mg X.base CX k f fd ps sp) (hr:Room k X.A) (hb:Binds X.K fd ps ds) (hd:Vals dvs ds) (hx:Passes CX X E)
    (ht : eval (.Call (.Attribute o m apos) [] [] pos) X.env=(do
      let ov <- eval o X.env
      standAt apos.atName
      let (f,first) <- holding [ov] (getMethod ov m pl)
      callWith pos f first (backTo pos (starEach [] X.env)) (backToKw pos (keywordEach [] X.env))):=by rfl) :
    PE X (.Call (.Attribute o m apos) [] [] pos) (tMeth C m sp dvs E ta tNil):=by
  intro pins s σ H Q I h
  refine PySem.W.methodCall_KW (pl:=pl) (thn (he pins s σ H _ I h) fun u s1 ⟨x,H1,I1,rx,a,dx,fs,ex,ea,l,q⟩=>?_) ht
  subst ex
  obtain rfl:u=Value.ref a:=rx
  refine getmeth_ok I1 ea c hm l ?_
  exact PySem.W.callWith_K0 (first:=[.ref a]) I1.kIn hm.kp (run_fn (us:=[.ref a]) (vs:=[.ref a]) F hr hb hd hx I1 (.cons rfl .nil) q)
structure Mk (K:PySem.W.Frag) (C f:Addr):Prop where
  makes:PySem.W.makesIn K C=true
  init:PySem.W.findIn K (.ref C) "__init__"=some (some (.ref f))
  fn:PySem.W.isFn K (.ref f)=true
  kp:PySem.W.keepIn K (.ref C)=true
theorem run_make {pins:List (Addr × Obj)} {σ:St} {H:Hp} {s:Shared} {Q:VK} {us:List Value} {vs:List V} (M:Mk X.K C f) (F:FnOk X.prog X.w X.K X.mg X.base CX k f fd ps sp) (hr:Room (k + 1) X.A) (hb:Binds X.K fd ps ds) (hd:Vals dvs ds)
    (hx:Passes CX X E) (I:Inv X pins σ H s) (r:Vals vs us)
    (h:∀ x dx,H x=none->H dx=none->dx≠x->sp (.ref x::(vs++dvs)) (upd (upd H dx (.own x)) x (.ins C dx [])) (fun v H2=>v=.non/\Q (.ref x) H2) E) :
    wpAny (model X.prog X.w) X.A (call (.ref C) us) (EP X pins σ Q) X.xe s:=by
  have hq:=h (s.heap.objs.size + 1) s.heap.objs.size (I.hok.fresh (Nat.le_succ _)) (I.hok.fresh (Nat.le_refl _)) (Nat.ne_of_lt (Nat.lt_succ_self _))
  have I2:=Inv.made (C:=C) I
  have r2:Vals (V.ref (s.heap.objs.size + 1)::(vs++dvs)) (Value.ref (s.heap.objs.size + 1)::(us++ds)):=.cons rfl (r.append hd)
  have hl:(Value.ref (s.heap.objs.size + 1)::us++ds).length=ps.length:=by
    have e:=r2.length
    rw [F.len _ _ _ _ hq] at e
    exact e.symm
  refine wpAny_call (make_map (f:=f) I.kIn M.makes M.init (beq_iff_eq.mp M.fn) (codeAny_mono (F.run _ X.stack _ _ ⟨Value.ref (s.heap.objs.size + 1)::us,[]⟩ (Value.ref (s.heap.objs.size + 1)::(us++ds)) _ _ E (hr.make C us [])
    (I2.env0.make C us []) (hb _ (Value.ref (s.heap.objs.size + 1)::us) I2.kIn hl) r2 hq) fun r s' hq'=>?_))
  cases r with
  | error e=>exact hx pins σ _ _ e s' I2 hq'
  | ok fl =>
    cases fl with
    | ret u =>
      obtain ⟨v,H',I3,rv,ev,q3⟩:=I2.after hq'
      subst ev
      exact ⟨rv,⟨V.ref (s.heap.objs.size + 1),H',I3,rfl,q3⟩⟩
    | next=>exact False.elim hq'
    | brk=>exact False.elim hq'
    | cont=>exact False.elim hq'
theorem pe_make (M:Mk X.K C f) (F:FnOk X.prog X.w X.K X.mg X.base CX k f fd ps sp) (hr:Room (k + 1) X.A) (hg:Gl X x) (hm:X.mg x=some (.ref C)) (hb:Binds X.K fd ps ds) (hd:Vals dvs ds) (hx:Passes CX X E)
    (ha:PA X (e::es) t) (hdb:(x == ("__debug__":Str))=false:=by decide) (he:starEach (e::es) X.env=(false,eval e X.env)::starEach es X.env:=by rfl) (hpl:(backTo pos (starEach es X.env)).any (·.1)=false:=by rfl) :
    PE X (.Call (.Name x p) (e::es) [] pos) (tMake C sp dvs E t):=by
  intro pins s σ H Q I h
  refine wpAny_Call_Name_kw (ld_glob I hg hm ?_ hdb)
  refine PySem.W.callWith_K (h₀:=X.base) I.ok.mod.kin M.kp (thn (ha pos pins s σ H _ I h) fun us s1 ⟨vs,H1,I1,r,q⟩=>⟨I1.kIn,?_⟩) he hpl
  exact run_make M F hr hb hd hx I1 r q
end
structure FnScope (N P:List Str) (sc:Scope):Prop where
  kind:sc.kind=.function
  co:sc.isCoroutine=false
  gen:sc.isGenerator=false
  nd:N.Nodup
  pre:N.take P.length=P
  par:∀ x∈P,sc.names.lookup x=some .local\/sc.names.lookup x=some .cell
  nofree:∀ y∈sc.names,y.2≠.free
theorem bindL_out {kindOf:Str->Option NameKind} {x:Str}:∀ {binds:List (Str × Value)} {m:Str->Option Value},(∀ v,(x,v) ∉ binds)->bindL kindOf binds m x=m x
  | [],_,_=>rfl
  | (n, v)::r,m,h=>by
    unfold bindL
    rw [bindL_out fun w hw=>h w (List.mem_cons_of_mem _ hw)]
    split
    . have:x≠n:=by rintro rfl;exact h v List.mem_cons_self
      simp [this]
    . rfl
theorem bindC_out {kindOf:Str->Option NameKind} {x:Str}:∀ {binds:List (Str × Value)} {m:Str->Option Value},(∀ v,(x,v) ∉ binds)->bindC kindOf binds m x=m x
  | [],_,_=>rfl
  | (n, v)::r,m,h=>by
    unfold bindC
    rw [bindC_out fun w hw=>h w (List.mem_cons_of_mem _ hw)]
    split
    . rfl
    . have:x≠n:=by rintro rfl;exact h v List.mem_cons_self
      simp [this]
theorem bindL_get {kindOf:Str->Option NameKind} {x:Str} {v:Value}:∀ {P:List Str} {vs:List Value} {i:Nat} {m:Str->Option Value},P.Nodup->P[i]? = some x->vs[i]? = some v->kindOf x=some .local ->
    bindL kindOf (P.zip vs) m x=some v
  | [],_,_,_,_,h,_,_=>by simp at h
  | _::_,[],_,_,_,_,h,_=>by simp at h
  | p :: P,w::vs,0,m,nd,h1,h2,hk=>by
    simp at h1 h2;subst h1;subst h2
    show bindL kindOf ((p,w)::P.zip vs) m p=_
    unfold bindL
    rw [bindL_out fun v hv=>(List.nodup_cons.mp nd).1 (List.of_mem_zip hv).1,if_pos hk]
    simp
  | p :: P,w::vs,i + 1,m,nd,h1,h2,hk=>by
    show bindL kindOf ((p,w)::P.zip vs) m x=_
    unfold bindL
    exact bindL_get (i:=i) (List.nodup_cons.mp nd).2 (by simpa using h1) (by simpa using h2) hk
theorem bindC_get {kindOf:Str->Option NameKind} {x:Str} {v:Value}:∀ {P:List Str} {vs:List Value} {i:Nat} {m:Str->Option Value},P.Nodup->P[i]? = some x->vs[i]? = some v->kindOf x≠some .local ->
    bindC kindOf (P.zip vs) m x=some v
  | [],_,_,_,_,h,_,_=>by simp at h
  | _::_,[],_,_,_,_,h,_=>by simp at h
  | p :: P,w::vs,0,m,nd,h1,h2,hk=>by
    simp at h1 h2;subst h1;subst h2
    show bindC kindOf ((p,w)::P.zip vs) m p=_
    unfold bindC
    rw [bindC_out fun v hv=>(List.nodup_cons.mp nd).1 (List.of_mem_zip hv).1,if_neg hk]
    simp
  | p :: P,w::vs,i + 1,m,nd,h1,h2,hk=>by
    show bindC kindOf ((p,w)::P.zip vs) m x=_
    unfold bindC
    exact bindC_get (i:=i) (List.nodup_cons.mp nd).2 (by simpa using h1) (by simpa using h2) hk
noncomputable def start (N:List Str) (vs:List V):St:=vs.map some++List.replicate (N.length - vs.length) none
noncomputable def cxOf (CX:CXT) (P:Program) (w:World) (K:PySem.W.Frag) (mg:Str->Option Value) (base:Heap) (N:List Str) (qual:Str) (scope:Scope) (f:Addr) (cd:Value) (A:Around) (outer:List Env) (s:Shared) (H:Hp) (E:XK):Cx where
  prog:=P
  w := w
  K := K
  mg:=mg
  base:=base
  A := A.deeper (envOfC qual scope s.heap.objs.size f cd)
  N := N
  s₀:=s
  H₀:=H
  env:=envOfC qual scope s.heap.objs.size f cd
  outer:=outer
  stack:=envOfC qual scope s.heap.objs.size f cd::outer
  ex:=[]
  calm:=true
  fn:=fun _=>true
  pn:=[]
  xe:=fun e s'=>wpAny (model P w) (A.deeper (envOfC qual scope s.heap.objs.size f cd)) (leaving (envOfC qual scope s.heap.objs.size f cd) e) (fun _ s''=>CX outer H s E e s'') (fun e' s''=>CX outer H s E e' s'') s'
theorem cell_has {sc:Scope} {n:Nat} {x:Str} (h:sc.names.lookup x=some .cell):∃ c,(cellsFrom n sc.names []).lookup x=some c:=by
  have q:=PySem.W.cellsFrom_some sc.names n [] (.inl h)
  exact Option.isSome_iff_exists.mp q
theorem inv_start {CX:CXT} {P:Program} {w:World} {K:PySem.W.Frag} {mg:Str->Option Value} {base:Heap} {N ps:List Str} {qual:Str} {scope:Scope} {f:Addr} {cd:Value} {A:Around} {outer:List Env} {s s1:Shared} {H:Hp} {E:XK} {us:List Value} {vs:List V}
    (S:FnScope N ps scope) (hd:A.handled=none) (e0:Env0 P w K mg base A outer s H) (hl:vs.length=ps.length) (r:Vals vs us)
    (x:InCallC s s.heap.objs.size (bindL (envOfC qual scope s.heap.objs.size f cd).kindOf (ps.zip us) fun _=>none) (cellsFrom (s.heap.objs.size + 1) scope.names []) (bindC (envOfC qual scope s.heap.objs.size f cd).kindOf (ps.zip us) fun _=>none) s1) :
    Inv (cxOf CX P w K mg base N qual scope f cd A outer s H E) [] (start N vs) H s1:=by
  have hpl:ps.length<=N.length:=by have:=congrArg List.length S.pre;rw [List.length_take] at this;lia
  obtain ⟨h1,tk,rfl,hk⟩:=x.done
  have noA:∀ b:Addr,b ∉ (cxOf CX P w K mg base N qual scope f cd A outer s H E).ex:=fun b z=>absurd (show b∈([]:List Addr) from z) (by simp)
  refine ⟨⟨e0.mod,S.kind,rfl,rfl,Nat.le_refl _,fun y z c h1 h2=>?_,fun y hy=>?_,fun y c _ h=>?_,fun _=>hd,Around.frames_deeper e0.frames,.inr ⟨rfl,rfl⟩,fun b z=>absurd z (noA b),e0.bs,e0.bsz,fun b _ _=>noA b,fun b z=>absurd z (noA b),e0.funs,e0.frf⟩,
    rfl,e0.bare,Un.kept hk,⟨_,x.toInCall.ns,fun i y v h1 h2 h3=>?_⟩,fun y c h=>⟨_,x.cell y c h⟩,e0.hok.fresh (Nat.le_refl _),fun y c h=>?_,fun p hp=>absurd (show p∈([]:List (Addr × Obj)) from hp) (by simp),e0.hok.kept hk,?_⟩
  . exact name_of_addr x.apart (PySem.mem_of_lookup h1) (PySem.mem_of_lookup h2)
  . have hy:scope.names.lookup y=some .cell\/scope.names.lookup y=some .free:=hy
    rcases hy with hy | hy
    . exact cell_has hy
    . exact absurd rfl (S.nofree _ (PySem.mem_of_lookup hy))
  . exact Nat.le_of_lt (x.above y c (PySem.mem_of_lookup h))
  . have hi:i < vs.length:=by
      unfold start at h2
      by_cases hi:i < vs.length
      . exact hi
      . rw [List.getElem?_append_right (by simpa using hi)] at h2
        rw [List.getElem?_replicate] at h2
        split at h2 <;> cases h2
    have ha:vs[i]? = some v:=by
      unfold start at h2
      rw [List.getElem?_append_left (by simpa using hi),List.getElem?_map] at h2
      cases e:vs[i]? with
      | none=>rw [e] at h2;cases h2
      | some a=>rw [e] at h2;cases h2;rfl
    obtain ⟨u,hu,rv⟩:=r.get ha
    have hp:ps[i]? = some y:=by
      rw [<- S.pre,List.getElem?_take_of_lt (by lia)];exact h1
    have ndP:ps.Nodup:=by rw [<- S.pre];exact S.nd.sublist (List.take_sublist _ _)
    refine ⟨u,rv,?_⟩
    rcases S.par y (List.mem_of_getElem? hp) with k | k
    . exact .inl ⟨k,bindL_get ndP hp hu k⟩
    . obtain ⟨c,e⟩:=cell_has (n:=s.heap.objs.size + 1) k
      refine .inr ⟨.inl k,c,e,?_⟩
      have q:=x.cell y c e
      rw [bindC_get ndP hp hu (by show scope.names.lookup y≠_;rw [k];decide)] at q
      exact q
  . exact e0.hok.fresh (Nat.le_of_lt (x.above y c (PySem.mem_of_lookup h)))
  . unfold start
    show _=N.length
    rw [List.length_append,List.length_map,List.length_replicate]
    lia
theorem fn_of {CX:CXT} {P:Program} {w:World} {K:PySem.W.Frag} {mg:Str->Option Value} {base:Heap} {k:Nat} {f:Addr} {name qual:Str} {params:Arguments} {body:List Stmt} {scope:Scope} {dV kV doc pm cdv ct oc:Value} {an od:Option Addr}
    {osl:Array (Option Value)} {N ps:List Str} {sp:Sp} (lk:K.lookup f=some ⟨oc,od,.func (PySem.W.fnOf name qual params body scope dV kV doc pm an cdv ct),osl⟩) (hcd:PySem.W.codeIn K cdv qual=true) (S:FnScope N ps scope)
    (len:∀ vs H Q E,sp vs H Q E->vs.length=ps.length)
    (hbody:∀ (A:Around) (outer:List Env) (s:Shared) (H:Hp) (vs:List V) (Q:VK) (E:XK),Room k (A.deeper (envOfC qual scope s.heap.objs.size f cdv))->sp vs H Q E ->
      ∃ t,PSs (cxOf CX P w K mg base N qual scope f cdv A outer s H E) body t/\t { nx:=fun _ H'=>Q .non H',rt:=Q } (start N vs) H) :
    FnOk P w K mg base CX (k + 1) f (PySem.W.fnOf name qual params body scope dV kV doc pm an cdv ct) ps sp:=by
  refine ⟨len,fun A outer s H args us vs Q E hr e0 hb r hsp=>?_⟩
  have hl:=len _ _ _ _ hsp
  have KX:K.In s.heap:=e0.mod.kin.keeps fun b o e=>(e0.bs b o e).1
  have lim:s.heap.NoLimit:=e0.mod.nolimit.keeps fun b o e=>(e0.bs b o e).1
  have hkind:∀ y∈ps.zip us,scope.names.lookup y.1=some .local\/(scope.names.lookup y.1=some .cell/\((cellsFrom (s.heap.objs.size + 1) scope.names []).lookup y.1).isSome=true):=fun hq0 hy=>by
    obtain ⟨n,v⟩:=hq0
    rcases S.par n (List.of_mem_zip hy).1 with q | q
    . exact .inl q
    . exact .inr ⟨q,PySem.W.cellsFrom_some _ _ _ (.inl q)⟩
  refine codeAny_call_function hr.depth (KX _ _ lk) rfl S.co S.gen rfl (PySem.W.codeRec_of KX hcd) (hb _ _ _ _ ?_)
  refine wpAny_newFunctionEnv_cells S.kind hkind fun env he s1 x=>?_
  subst he
  refine ⟨lim.keeps x.toInCall.keep,codeAny_func ?_⟩
  obtain ⟨t,ht,hq⟩:=hbody A outer s H vs Q E (hr.deeper _) hsp
  have I:Inv (cxOf CX P w K mg base N qual scope f cdv A outer s H E) [] (start N vs) H s1:=inv_start S hr.hd e0 hl r x
  refine wpAny_mono (ht [] s1 (start N vs) H _ I hq) (fun fl s' hs=>?_) fun e s' hs=>hs
  have fin:∀ {σ':St} {H':Hp} {v:V} {u:Value},Inv (cxOf CX P w K mg base N qual scope f cdv A outer s H E) [] σ' H' s'->RelV v u->Q v H'->CE outer P w H s Q u s' :=
    fun {σ' H' v u} J rv q=>⟨v,H',J.os,J.bare,J.base,J.hok,rv,q⟩
  cases fl with
  | ret u =>
    obtain ⟨v,σ',H',J,rv,q⟩:=hs
    exact fin J rv q
  | next =>
    obtain ⟨σ',H',J,q⟩:=hs
    exact fin (v:=V.non) (u:=Value.none) J rfl q
  | brk =>
    obtain ⟨_,_,_,q⟩:=hs
    exact False.elim q
  | cont =>
    obtain ⟨_,_,_,q⟩:=hs
    exact False.elim q
end L2
namespace L2
open PySem PySem.Spec PyProof.Rows
section
variable {X:Cx} {x:Str} {p pos:Pos} {e:Expr} {es:List Expr} {t:TA} {id T:String} {r:List V->Hp->VK->Prop}
noncomputable def tCB (r:List V->Hp->VK->Prop) (t:TA):TE:=fun σ H Q=>t σ H fun vs H1=>r vs H1 Q
theorem pe_callB (hc:CallR X (.builtin id) r) (hg:Gl X x) (hm:X.mg x=none) (hv:bootBuiltins x=some (.builtin id)) (ha:PA X (e::es) t) (hn:x≠"__name__":=by decide) (hdb:(x == ("__debug__":Str))=false:=by decide)
    (he:starEach (e::es) X.env=(false,eval e X.env)::starEach es X.env:=by rfl) (hpl:(backTo pos (starEach es X.env)).any (·.1)=false:=by rfl):PE X (.Call (.Name x p) (e::es) [] pos) (tCB r t):=by
  intro pins s σ H Q I h
  refine wpAny_Call_Name_kw (ld_blt I hg hm hv ?_ hn hdb)
  exact PyProof.Rows.callWith_builtin1 (thn (ha pos pins s σ H _ I h) fun us s1 ⟨vs,H1,I1,r1,q1⟩=>hc pins s1 σ H1 vs us Q I1 r1 q1) he hpl
theorem pe_callTy (hc:CallR X (.type T) r) (hg:Gl X x) (hm:X.mg x=none) (hv:bootBuiltins x=some (.type T)) (ha:PA X (e::es) t) (hn:x≠"__name__":=by decide) (hdb:(x == ("__debug__":Str))=false:=by decide)
    (he:starEach (e::es) X.env=(false,eval e X.env)::starEach es X.env:=by rfl) (hpl:(backTo pos (starEach es X.env)).any (·.1)=false:=by rfl):PE X (.Call (.Name x p) (e::es) [] pos) (tCB r t):=by
  intro pins s σ H Q I h
  refine wpAny_Call_Name_kw (ld_blt I hg hm hv ?_ hn hdb)
  exact PyProof.Rows.callWith_type1 (thn (ha pos pins s σ H _ I h) fun us s1 ⟨vs,H1,I1,r1,q1⟩=>hc pins s1 σ H1 vs us Q I1 r1 q1) he hpl
end
end L2
namespace HT
open PySem PyProof.Rows
theorem rcLt_int (A:Around) (s:Shared) (a:Int) (t:Tok) (c:Int) (u:Tok) (prog:Program) (w:World) (E:Value->Shared->Prop) (Q:Value->Shared->Prop) (h:Q (.bool (decide (a < c))) s) :
    wpAny (model prog w) A (richCompare .Lt (.int a t) (.int c u)) Q E s :=
  (PyProof.Rows.lt_int h:wpAny (model prog w) A (compareOp .Lt (.int a t) (.int c u)) Q E s)
section
variable {prog:Program} {w:World} {A:Around} {E:Value->Shared->Prop} {s:Shared}
theorem cat_tup {t b:Addr} {vs ws:List Value} {Q:Value->Shared->Prop} (ht:IsTup s.heap t vs.toArray) (hb:IsTup s.heap b ws.toArray) (hv:vs≠[])
    (h1:ws=[]->Q (.ref t) s) (h2:ws≠[]->Q (.ref s.heap.objs.size) { s with heap:=s.heap.push { cls:=.type "tuple",data:=.seq (vs++ws).toArray } })
    (hsz:vs.length + ws.length<=sizeLine):wpAny (model prog w) A (binaryOp .Add (.ref t) (.ref b)) Q E s:=by
  obtain ⟨⟨cls,dd,data,sl⟩,ho,hc,n,hd⟩:=id ht
  obtain ⟨⟨cls2,dd2,data2,sl2⟩,ho2,hc2,n2,hd2⟩:=id hb
  simp only at hc hd hc2 hd2
  subst hc hd hc2 hd2
  have e:vs.toArray++ws.toArray=(vs++ws).toArray:=by simp
  by_cases hw:ws=[]
  . exact concat_meets ⟨_,ho,rfl⟩ ⟨_,ho2,rfl⟩ noFill_tuple_add seq_tuple_add PySem.F.slot_tuple_add PySem.F.entry_tuple_add (PySem.F.args_tuple_add_2 _ _)
      (tuple_addW1 t b vs.toArray ws.toArray n n2 dd dd2 sl sl2 (by simpa using hv) (by simp [hw])) ⟨ho,ho2,h1 hw⟩
  . refine concat_meets ⟨_,ho,rfl⟩ ⟨_,ho2,rfl⟩ noFill_tuple_add seq_tuple_add PySem.F.slot_tuple_add PySem.F.entry_tuple_add (PySem.F.args_tuple_add_2 _ _)
      (tuple_addW2 t b vs.toArray ws.toArray n n2 dd dd2 sl sl2 (by simpa using hv) (by simpa using hw) (by rw [List.size_toArray,List.size_toArray];exact hsz)) ⟨ho,ho2,?_⟩
    rw [e]
    exact h2 hw
noncomputable def sIx (n d:Nat):Option Int->Nat
  | none=>d
  | some v=>if v < 0 then (v + (n:Int)).toNat else min v.toNat n
theorem sIx_none (n d:Nat):sIx n d none=d:=rfl
theorem sIx_nat (n d k:Nat):sIx n d (some (k:Int))=min k n:=by
  show (if (k:Int) < 0 then ((k:Int) + (n:Int)).toNat else min (k:Int).toNat n)=min k n
  rw [if_neg (by lia),Int.toNat_natCast]
theorem sIx_le (n d:Nat) (hd:d<=n) (o:Option Int):sIx n d o<=n:=by
  cases o with
  | none=>exact hd
  | some v =>
    show (if v < 0 then (v + (n:Int)).toNat else min v.toNat n)<=n
    by_cases hv:v < 0
    . rw [if_pos hv];lia
    . rw [if_neg hv];exact Nat.min_le_right _ _
theorem clip_eq (v:Int) (n d:Nat):(if v < 0 then max (v + (n:Int)) 0 else min v (n:Int))=((sIx n d (some v):Nat):Int):=by
  show (if v < 0 then max (v + (n:Int)) 0 else min v (n:Int))=(((if v < 0 then (v + (n:Int)).toNat else min v.toNat n):Nat):Int)
  by_cases hv:v < 0
  . simp only [if_pos hv];lia
  . simp only [if_neg hv];lia
theorem adjust_gen (lo hi:Option Int) (n:Nat):Builtin.Slice.sliceAdjust lo hi 1 (n:Int)=(((sIx n 0 lo:Nat):Int),((sIx n n hi:Nat):Int)):=by
  have h1:¬ ((1:Int) < 0):=by lia
  unfold Builtin.Slice.sliceAdjust
  simp only [h1,if_false]
  refine Prod.ext ?_ ?_
  . cases lo with
    | none=>rfl
    | some v=>exact clip_eq v n 0
  . cases hi with
    | none=>rfl
    | some v=>exact clip_eq v n n
theorem places_gen (i j:Nat):Builtin.Slice.slicePlaces (i:Int) (j:Int) 1=j - i:=by
  unfold Builtin.Slice.slicePlaces
  have h1:(1:Int) > 0:=by lia
  simp only [h1,if_true,Int.ediv_one]
  split <;> lia
theorem slicePart_ {v:Value} {o:Option Int} {Q:Option Int->Shared->Prop} (p:IsPart v o) (h:Q o s):wpAny (model prog w) A (Builtin.Slice.slicePartIndex v) Q E s:=by
  cases p with
  | none=>exact slicePart_none h
  | int i t=>exact slicePart_int h
theorem sliceApplied_gen {sl:Addr} {vl vu:Value} {lo hi:Option Int} {n:Nat} {Q:Int × Int × Nat->Shared->Prop} (hs:s.heap.IsSliceOf sl vl vu .none) (pl:IsPart vl lo) (pu:IsPart vu hi)
    (h:Q (((sIx n 0 lo:Nat):Int),1,sIx n n hi - sIx n 0 lo) s):wpAny (model prog w) A (Builtin.Slice.sliceApplied (.ref sl) (pure (n:Int))) Q E s:=by
  obtain ⟨os,hos,hcs,hds⟩:=id hs
  unfold Builtin.Slice.sliceApplied Builtin.Slice.sliceFields
  refine wpAny_bind (wpAny_bind (wpAny_field hos hds (x:=vl) rfl (wpAny_bind (wpAny_field hos hds (x:=vu) rfl (wpAny_bind (wpAny_field hos hds (x:=.none) rfl (wpAny_pure ?_)))))))
  refine wpAny_bind (slicePart_none ?_)
  show wpAny _ _ (if ((1:Int) == 0)=true then _ else _) _ _ s
  rw [if_neg (by decide)]
  refine wpAny_bind (slicePart_ pl (wpAny_bind (slicePart_ pu (wpAny_bind (wpAny_pure ?_)))))
  show wpAny _ _ (match Builtin.Slice.sliceAdjust lo hi 1 (n:Int) with | (lo,hi)=>pure (lo,(1:Int),Builtin.Slice.slicePlaces lo hi 1)) _ _ s
  rw [adjust_gen lo hi n]
  show wpAny _ _ (pure (((sIx n 0 lo:Nat):Int),(1:Int),Builtin.Slice.slicePlaces ((sIx n 0 lo:Nat):Int) ((sIx n n hi:Nat):Int) 1)) _ _ s
  rw [places_gen]
  exact wpAny_pure h
theorem pick_gen (xs:Array Value) (i k:Nat):((List.range k).filterMap fun (m:Nat)=>xs[((i:Int) + (m:Int) * 1).toNat]?).toArray=((xs.toList.drop i).take k).toArray:=by
  have e:(fun (m:Nat)=>xs[((i:Int) + (m:Int) * 1).toNat]?)=fun m=>xs[i + m]?:=by
    funext m
    have:((i:Int) + (m:Int) * 1).toNat=i + m:=by lia
    rw [this]
  rw [e]
  have:=pick_run xs i k
  rw [List.filterMap_map] at this
  have e2:((fun x=>xs[x]?) ∘ fun x=>i + x)=fun m=>xs[i + m]?:=rfl
  rw [e2] at this
  rw [this]
theorem getItem_tuple_cut {t sl:Addr} {items:Array Value} {vl vu:Value} {lo hi:Option Int} {Q:Value->Shared->Prop} (ht:IsTup s.heap t items) (hs:s.heap.IsSliceOf sl vl vu .none) (pl:IsPart vl lo) (pu:IsPart vu hi)
    (hw:¬ (sIx items.size 0 lo=0/\sIx items.size items.size hi=items.size))
    (h:Q (.ref s.heap.objs.size) { s with heap:=s.heap.push { cls:=.type "tuple",data:=.seq ((items.toList.drop (sIx items.size 0 lo)).take (sIx items.size items.size hi - sIx items.size 0 lo)).toArray } })
    (hsz:items.size<=sizeLine):wpAny (model prog w) A (getItem (.ref t) (.ref sl)) Q E s:=by
  have htake:sizeOk (.seq ((items.toList.drop (sIx items.size 0 lo)).take (sIx items.size items.size hi - sIx items.size 0 lo)).toArray):=by
    show ((items.toList.drop (sIx items.size 0 lo)).take (sIx items.size items.size hi - sIx items.size 0 lo)).toArray.size<=sizeLine
    rw [List.size_toArray,List.length_take,List.length_drop,Array.length_toList]
    lia
  have hj:sIx items.size items.size hi<=items.size:=sIx_le _ _ (Nat.le_refl _) hi
  obtain ⟨os,hos,hcs,hds⟩:=id hs
  have hTs:s.TypeIs (.ref sl) "slice":=⟨os,hos,hcs⟩
  unfold getItem
  try with_reducible refine wpAny_holding ?_
  first | refine wpAny_bind (wpAny_pure ?_) | skip
  refine wpAny_bind (wpAny_sequenceKey ht.typeIs (by decide) ?_)
  refine wpAny_bind (wpAny_callSpecial?_slot (name:=Str.ofString "__getitem__") ht.typeIs PyProof.Rows.slot_tuple_getitem
    (wpAny_call_entry PyProof.Rows.slot_tuple_getitem ht.typeIs entry_tuple_getitem ?_ (args_tuple_getitem _ _)))
  show wpAny _ _ (Builtin.Tuple.tupleItemsOf (.ref t) >>= _) _ _ s
  refine wpAny_bind (tupleItemsOf_ ht ?_)
  refine wpAny_bind (wpAny_typeOf hTs ?_)
  rw [if_pos (by decide)]
  refine wpAny_bind (sliceApplied_gen hs pl pu ?_)
  have hno:¬ ((((sIx items.size 0 lo:Nat):Int) == 0 && (1:Int) == 1 && (sIx items.size items.size hi - sIx items.size 0 lo) == items.size)=true):=by
    intro q
    rw [Bool.and_eq_true,Bool.and_eq_true] at q
    have q1:((sIx items.size 0 lo:Nat):Int)=0:=eq_of_beq q.1.1
    have q2:sIx items.size items.size hi - sIx items.size 0 lo=items.size:=eq_of_beq q.2
    exact hw ⟨by lia,by lia⟩
  show wpAny _ _ (if (((sIx items.size 0 lo:Nat):Int) == 0 && (1:Int) == 1 && (sIx items.size items.size hi - sIx items.size 0 lo) == items.size)=true then _ else _) _ _ s
  rw [if_neg hno,pick_gen]
  first
    | exact wpAny_bind (m:=Builtin.Tuple.tupleExact _) (wpAny_newObj_type (wpAny_pure ⟨_,rfl,wpAny_pure h⟩) htake)
    | exact wpAny_bind (m:=Builtin.Tuple.tupleExact _) (wpAny_newObj_type (wpAny_bind (wpAny_pure (wpAny_pure ⟨_,rfl,wpAny_pure h⟩))) htake)
    | exact wpAny_bind (wpAny_bind (m:=Builtin.Tuple.tupleExact _) (wpAny_newObj_type (wpAny_pure (wpAny_pure ⟨_,rfl,wpAny_pure h⟩)) htake))
    | exact wpAny_bind (wpAny_bind (m:=Builtin.Tuple.tupleExact _) (wpAny_newObj_type (wpAny_pure ⟨_,rfl,wpAny_pure h⟩) htake))
end
end HT
namespace L2
open PySem PySem.Spec PyProof.Rows
noncomputable abbrev TO:=St->Hp->(Option Int->Hp->Prop)->Prop
noncomputable def PO (X:Cx) (e:Option Expr) (t:TO):Prop :=
  ∀ (pins:List (Addr × Obj)) (s:Shared) (σ:St) (H:Hp) (Q:Option Int->Hp->Prop),Inv X pins σ H s->t σ H Q ->
    wpAny (model X.prog X.w) X.A (evalPart e X.env) (fun u s'=>∃ o H',Inv X pins σ H' s'/\IsPart u o/\Q o H') X.xe s
noncomputable def tNoPart:TO:=fun _ H Q=>Q none H
noncomputable def tPart (t:TE):TO:=fun σ H Q=>t σ H fun x H1=>∃ i,x=.int i/\Q (some i) H1
section
variable {X:Cx} {e:Expr} {te:TE} {lo hi:Option Expr} {tl th:TO} {pos p2:Pos}
theorem po_none:PO X none tNoPart:=by
  intro pins s σ H Q I h
  rw [evalPart_none]
  exact wpAny_pure ⟨none,H,I,.none,h⟩
theorem po_some (h:PE X e te):PO X (some e) (tPart te):=by
  intro pins s σ H Q I hw
  rw [evalPart_some]
  refine thn (h pins s σ H _ I hw) fun u s1 h_q=>?_
  obtain ⟨x,H1,I1,r1,q1⟩:=h_q
  obtain ⟨i,rfl,q⟩:=q1
  obtain ⟨t,rfl⟩:=r1
  exact ⟨some i,H1,I1,.int i t,q⟩
noncomputable def SlR (X:Cx) (r:V->Option Int->Option Int->Hp->VK->Prop):Prop :=
  ∀ (pins:List (Addr × Obj)) (s:Shared) (σ:St) (H:Hp) (x:V) (v vl vu:Value) (lo hi:Option Int) (sl:Addr) (Q:VK),Inv X pins σ H s->RelV x v->s.heap.IsSliceOf sl vl vu .none->IsPart vl lo->IsPart vu hi->r x lo hi H Q ->
    ∃ T id,typeLookup (.type T) "__getitem__"=pure (some (.builtin id))/\s.TypeIs v T/\wpAny (model X.prog X.w) X.A (getItem v (.ref sl)) (EP X pins σ Q) X.xe s
noncomputable def tSl (r:V->Option Int->Option Int->Hp->VK->Prop) (te:TE) (tl th:TO):TE:=fun σ H Q=>te σ H fun x H1=>tl σ H1 fun l H2=>th σ H2 fun u H3=>r x l u H3 Q
theorem pe_slice {r:V->Option Int->Option Int->Hp->VK->Prop} (hr:SlR X r) (he:PE X e te) (hl:PO X lo tl) (hu:PO X hi th):PE X (.Subscript e (.Slice lo hi none p2) pos) (tSl r te tl th):=by
  intro pins s σ H Q I h
  refine Subscript_ (thn (he pins s σ H _ I h) fun v s1 h_q=>?_)
  obtain ⟨x,H1,I1,r1,q1⟩:=h_q
  refine wpAny_Slice (thn (hl pins s1 σ H1 _ I1 q1) fun vl s2 ⟨l,H2,I2,pl,q2⟩=>thn (hu pins s2 σ H2 _ I2 q2) fun vu s3 h_q=>?_)
  obtain ⟨u,H3,I3,pu,q3⟩:=h_q
  rw [evalPart_none]
  refine wpAny_pure ?_
  have I4:Inv X pins σ H3 { s3 with heap:=s3.heap.push { cls:=.type "slice",data:=.fields #[vl,vu,.none] } }:=I3.kept (t':=s3.toks) fun b ob q=>Heap.get?_push_of_some _ q
  obtain ⟨T,id,hT,ht,hg⟩:=hr pins { s3 with heap:=s3.heap.push { cls:=.type "slice",data:=.fields #[vl,vu,.none] } } σ H3 x v vl vu l u s3.heap.objs.size Q I4 r1 (Heap.IsSliceOf.new ..) pl pu q3
  show wpAny (model X.prog X.w) X.A (subscriptTail e (.Slice lo hi none p2) v (.ref s3.heap.objs.size)) (EP X pins σ Q) X.xe { s3 with heap:=s3.heap.push { cls:=.type "slice",data:=.fields #[vl,vu,.none] } }
  exact tail_any (ops:=[.ref s3.heap.objs.size,v]) ht hT hg (by with_unfolding_all rfl)
noncomputable def cutV (xs:List V) (lo hi:Option Int):List V:=(xs.drop (HT.sIx xs.length 0 lo)).take (HT.sIx xs.length xs.length hi - HT.sIx xs.length 0 lo)
theorem cutV_length (xs:List V) (lo hi:Option Int):(cutV xs lo hi).length<=xs.length:=by
  unfold cutV
  rw [List.length_take,List.length_drop]
  lia
noncomputable def rSlT (K:PySem.W.Frag):V->Option Int->Option Int->Hp->VK->Prop:=fun x lo hi H Q=>∃ a xs,x=.ref a/\SqT K H a xs /\
  ¬ (HT.sIx xs.length 0 lo=0/\HT.sIx xs.length xs.length hi=xs.length)/\∀ p,H p=none->Q (.ref p) (upd H p (.tup (cutV xs lo hi)))
theorem sl_tup:SlR X (rSlT X.K):=by
  intro pins s σ H x v vl vu lo hi sl Q I rx hs pl pu h
  obtain ⟨a,xs,rfl,hx,hw,q⟩:=h
  cases rx
  obtain ⟨its,r,ht,hz⟩:=I.tuple hx
  have hlen:its.toArray.size=xs.length:=by rw [List.size_toArray];exact r.length.symm
  refine ⟨"tuple",_,PyProof.Rows.slot_tuple_getitem.lookup,ht.typeIs,?_⟩
  refine HT.getItem_tuple_cut ht hs pl pu (by rw [hlen];exact hw) ?_ (by rw [hlen];exact hz)
  rw [hlen]
  refine ⟨.ref s.heap.objs.size,_,I.laid (t':=s.toks) (o:=.tup (cutV xs lo hi)) (fun b ob q=>Heap.get?_push_of_some _ q) (Nat.le_refl _) ?_,rfl,q _ (I.hok.fresh (Nat.le_refl _))⟩
  exact ⟨Nat.le_trans (cutV_length xs lo hi) hz,_,(r.drop (HT.sIx xs.length 0 lo)).take (HT.sIx xs.length xs.length hi - HT.sIx xs.length 0 lo),IsTup.new _ _⟩
noncomputable def rCatT (K:PySem.W.Frag):R2:=fun x y H Q=>∃ a b xs ys,x=.ref a/\y=.ref b/\SqT K H a xs/\SqT K H b ys/\xs≠[]/\xs.length + ys.length<=sizeLine /\
  (ys=[]->Q (.ref a) H)/\(ys≠[]->∀ p,H p=none->Q (.ref p) (upd H p (.tup (xs++ys))))
theorem Vals.nil_iff {xs:List V} {us:List Value} (r:Vals xs us):us=[] ↔ xs=[]:=by
  cases r with
  | nil=>simp
  | cons _ _=>simp
theorem op_catT:OpR X (binaryOp .Add) (rCatT X.K):=by
  intro pins s σ H x y v u Q I rx ry h
  obtain ⟨a,b,xs,ys,rfl,rfl,ha,hb,hx,hz,q1,q2⟩:=h
  cases rx
  cases ry
  obtain ⟨its,r1,p1,_⟩:=I.tuple ha
  obtain ⟨its2,r2,p2,_⟩:=I.tuple hb
  refine HT.cat_tup p1 p2 (fun z=>hx (r1.nil_iff.mp z)) (fun z=>⟨.ref a,H,I,rfl,q1 (r2.nil_iff.mp z)⟩) (fun z=>?_) (by rw [<- r1.length,<- r2.length];exact hz)
  refine ⟨.ref s.heap.objs.size,_,I.laid (t':=s.toks) (o:=.tup (xs++ys)) (fun b ob q=>Heap.get?_push_of_some _ q) (Nat.le_refl _) ?_,rfl,q2 (fun w=>z (r2.nil_iff.mpr w)) _ (I.hok.fresh (Nat.le_refl _))⟩
  exact ⟨by rw [List.length_append];exact hz,_,r1.append r2,IsTup.new _ _⟩
end
end L2
namespace L2
open PySem PySem.Spec PyProof.Rows
noncomputable def ixN (n:Nat) (i:Int):Option Nat:=if 0<=i then (if i < n then some i.toNat else none) else if -(n:Int)<=i then some (i + n).toNat else none
noncomputable def atI {α:Type} (xs:List α) (i:Int):Option α:=(ixN xs.length i).bind fun j=>xs[j]?
theorem ixN_seq {n:Nat} {i:Int} {j:Nat} (h:ixN n i=some j):seqIndex? i n=some j/\j < n/\-(n:Int)<=i/\i < n:=by
  unfold ixN at h
  by_cases h0:0<=i
  . rw [if_pos h0] at h
    by_cases h1:i < n
    . rw [if_pos h1] at h
      have e:i.toNat=j:=Option.some.inj h
      exact ⟨by rw [seqIndex_of h0 h1,e],by lia,by lia,h1⟩
    . rw [if_neg h1] at h;cases h
  . rw [if_neg h0] at h
    by_cases h1:-(n:Int)<=i
    . rw [if_pos h1] at h
      have e:(i + n).toNat=j:=Option.some.inj h
      exact ⟨by rw [seqIndex_neg (by lia) h1,e],by lia,h1,by lia⟩
    . rw [if_neg h1] at h;cases h
theorem atI_get {α:Type} {xs:List α} {i:Int} {v:α} (h:atI xs i=some v):∃ j,seqIndex? i xs.length=some j/\xs[j]? = some v/\j < xs.length/\-(xs.length:Int)<=i/\i < xs.length:=by
  unfold atI at h
  cases e:ixN xs.length i with
  | none=>rw [e] at h;cases h
  | some j =>
    rw [e] at h
    obtain ⟨h1,h2,h3,h4⟩:=ixN_seq e
    exact ⟨j,h1,h,h2,h3,h4⟩
theorem atI_nat {α:Type} {xs:List α} {j:Nat} {v:α} (h:xs[j]? = some v):atI xs (j:Int)=some v:=by
  have hj:j < xs.length:=(List.getElem?_eq_some_iff.mp h).1
  have e:ixN xs.length (j:Int)=some j:=by
    unfold ixN
    rw [if_pos (by lia),if_pos (by lia)];simp
  unfold atI;rw [e];exact h
theorem atI_last {α:Type} (xs:List α) (v:α):atI (xs++[v]) (-1)=some v:=by
  have hl:(xs++[v]).length=xs.length + 1:=by simp
  have e:ixN (xs++[v]).length (-1)=some xs.length:=by
    unfold ixN
    rw [hl,if_neg (by decide),if_pos (by lia)]
    congr 1
    lia
  unfold atI
  rw [e]
  show (xs++[v])[xs.length]? = some v
  simp
noncomputable def PlainIx (b:Expr):Prop:=∀ o i,subscripted b false o i=operate [o,i] (getItem o i)
noncomputable def IxR (X:Cx) (r:R2):Prop :=
  ∀ (value slice:Expr) (pins:List (Addr × Obj)) (s:Shared) (σ:St) (H:Hp) (x y:V) (v u:Value) (Q:VK),Inv X pins σ H s->RelV x v->RelV y u->r x y H Q ->
    subscripted slice false v u=operate [v,u] (getItem v u)->wpAny (model X.prog X.w) X.A (subscriptTail value slice v u) (EP X pins σ Q) X.xe s
noncomputable def MtR (X:Cx) (id:String) (r:V->List V->Hp->VK->Prop):Prop :=
  ∀ (pins:List (Addr × Obj)) (s:Shared) (σ:St) (H:Hp) (x:V) (xs:List V) (v:Value) (us:List Value) (Q:VK),Inv X pins σ H s->RelV x v->Vals xs us->r x xs H Q ->
    wpAny (model X.prog X.w) X.A (call (.builtin id) (v::us)) (EP X pins σ Q) X.xe s
section
variable {X:Cx} {a b:Expr} {ta tb:TE} {pos:Pos}
theorem IxR.or {r r':R2} (h:IxR X r) (h':IxR X r'):IxR X (fun x y H Q=>r x y H Q\/r' x y H Q):=by
  intro value slice pins s σ H x y v u Q I rx ry q hs
  rcases q with q | q
  . exact h value slice pins s σ H x y v u Q I rx ry q hs
  . exact h' value slice pins s σ H x y v u Q I rx ry q hs
theorem pe_ix {r:R2} (hr:IxR X r) (ha:PE X a ta) (hb:PE X b tb) (hs:PlainIx b):PE X (.Subscript a b pos) (tOp r ta tb):=by
  intro pins s σ H Q I h
  exact Subscript_ (binT ha hb I h fun v u s2 x y H2 I2 rx ry q=>hr a b pins s2 σ H2 x y v u Q I2 rx ry q (hs _ _))
noncomputable def rIxL (K:PySem.W.Frag):R2:=fun x y H Q=>∃ p xs i v,x=.ref p/\y=.int i/\SqL K H p xs/\atI xs i=some v/\Q v H
noncomputable def rIxT (K:PySem.W.Frag):R2:=fun x y H Q=>∃ p xs i v,x=.ref p/\y=.int i/\SqT K H p xs/\atI xs i=some v/\Q v H
noncomputable def rIxS:R2:=fun x y H Q=>∃ z i c,x=.str z/\y=.int i/\z.length<=sizeLine/\atI z.cps.toList i=some c/\Q (.str ⟨#[c]⟩) H
theorem ix_list:IxR X (rIxL X.K):=by
  intro value slice pins s σ H x y v u Q I rx ry h hs
  obtain ⟨p,xs,i,z,rfl,rfl,hq,he,q⟩:=h
  cases rx
  obtain ⟨t,rfl⟩:=ry
  obtain ⟨its,r,pl,hz⟩:=I.list hq
  obtain ⟨j,h1,h2,h3,h4,h5⟩:=atI_get he
  obtain ⟨w,ew,rw'⟩:=r.get h2
  have hl:=r.length
  have hn:=line63
  have fin:EP X pins σ Q w s:=⟨z,H,I,rw',q⟩
  by_cases h0:0<=i
  . have hj:i.toNat=j:=by
      rw [seqIndex_of h0 h5] at h1
      exact Option.some.inj h1
    exact item_listR pl.isList h0 (by lia) (by rw [hj];simpa using ew) fin hs
  . have hj:(i + (its.toArray.size:Int)).toNat=j:=by
      rw [seqIndex_neg (by lia) h4] at h1
      rw [List.size_toArray,<- hl]
      exact Option.some.inj h1
    exact subscriptTail_builtinR (x:=w) pl.isList.typeIs slot_list_getitem.lookup
      (wpAny_getItem_list_neg (Q:=fun r s'=>r=w/\EP X pins σ Q r s') pl.isList (by lia) (by rw [List.size_toArray] <;> lia) (by lia) (by rw [hj];simpa using ew) ⟨rfl,fin⟩) hs
theorem ix_tup:IxR X (rIxT X.K):=by
  intro value slice pins s σ H x y v u Q I rx ry h hs
  obtain ⟨p,xs,i,z,rfl,rfl,hq,he,q⟩:=h
  cases rx
  obtain ⟨t,rfl⟩:=ry
  obtain ⟨its,r,pl,hz⟩:=I.tuple hq
  obtain ⟨j,h1,h2,h3,h4,h5⟩:=atI_get he
  obtain ⟨w,ew,rw'⟩:=r.get h2
  have hl:=r.length
  have hn:=line63
  have fin:EP X pins σ Q w s:=⟨z,H,I,rw',q⟩
  exact subscriptTail_builtinR (x:=w) pl.typeIs slot_tuple_getitem.lookup
    (getItem_tuple (j:=j) (Q:=fun r s'=>r=w/\EP X pins σ Q r s') pl (by lia) (by lia) (by rw [List.size_toArray,<- hl];exact h1) (by simpa using ew) ⟨rfl,fin⟩) hs
theorem ix_str:IxR X rIxS:=by
  intro value slice pins s σ H x y v u Q I rx ry h hs
  obtain ⟨z,i,c,rfl,rfl,hz,he,q⟩:=h
  obtain ⟨t,rfl⟩:=rx
  obtain ⟨t',rfl⟩:=ry
  obtain ⟨j,h1,h2,h3,h4,h5⟩:=atI_get he
  have hl:z.cps.toList.length=z.length:=by simp [Str.length]
  rw [hl] at h1 h4 h5
  have hn:=line63
  exact tail_any (typeIs_str s z t) slot_str_getitem.lookup (getItem_str (c:=c) (by
    have e1:decide (i < -(2 ^ 63:Int))=false:=decide_eq_false (by lia)
    have e2:decide (i ≥ 2 ^ 63)=false:=decide_eq_false (by lia)
    rw [e1,e2,Bool.or_false]) (by rw [h1];simpa using h2) ⟨.str ⟨#[c]⟩,H,I.tok _,⟨_,rfl⟩,q⟩) hs
noncomputable def rIx (K:PySem.W.Frag):R2:=fun x y H Q=>rIxL K x y H Q\/rIxT K x y H Q\/rIxS x y H Q
theorem ix_seq:IxR X (rIx X.K):=ix_list.or (ix_tup.or ix_str)
theorem slice_bounds (lo hi:Option Int) (n:Nat):(sliceBounds lo hi none n).1=((HT.sIx n 0 lo:Nat):Int)/\(sliceBounds lo hi none n).2.1=((HT.sIx n n hi:Nat):Int)/\(sliceBounds lo hi none n).2.2=1:=by
  refine ⟨?_,?_,rfl⟩
  . cases lo with
    | none=>simp [sliceBounds,HT.sIx]
    | some i =>
      simp only [sliceBounds,HT.sIx,Option.getD_none,show (1:Int) > 0 by decide,if_true]
      by_cases h:i < 0
      . simp only [h,if_true] <;> lia
      . simp only [h,if_false] <;> lia
  . cases hi with
    | none=>simp [sliceBounds,HT.sIx]
    | some i =>
      simp only [sliceBounds,HT.sIx,Option.getD_none,show (1:Int) > 0 by decide,if_true]
      by_cases h:i < 0
      . simp only [h,if_true] <;> lia
      . simp only [h,if_false] <;> lia
theorem slicePick_cut (its:List Value) (lo hi:Option Int):slicePick its.toArray lo hi none=((its.drop (HT.sIx its.length 0 lo)).take (HT.sIx its.length its.length hi - HT.sIx its.length 0 lo)).toArray:=by
  obtain ⟨h1,h2,h3⟩:=slice_bounds lo hi its.toArray.size
  unfold slicePick
  rw [h1,h2,h3]
  simp only [sliceRange_one,pick_run,List.size_toArray] <;> rfl
noncomputable def rSlL (K:PySem.W.Frag):V->Option Int->Option Int->Hp->VK->Prop:=fun x lo hi H Q=>∃ a xs,x=.ref a/\SqL K H a xs/\∀ p,H p=none->Q (.ref p) (upd H p (.lst (cutV xs lo hi)))
theorem sl_list:SlR X (rSlL X.K):=by
  intro pins s σ H x v vl vu lo hi sl Q I rx hs pl pu h
  obtain ⟨a,xs,rfl,hx,q⟩:=h
  cases rx
  obtain ⟨its,r,ht,hz⟩:=I.list hx
  have hlen:=r.length
  refine ⟨"list",_,slot_list_getitem.lookup,ht.isList.typeIs,?_⟩
  refine wpAny_getItem_list_slice ht.isList hs pl pu .none (by simp) ?_ (by rw [List.size_toArray] <;> lia)
  rw [slicePick_cut,<- hlen]
  refine ⟨.ref s.heap.objs.size,_,I.laid (t':=s.toks) (o:=.lst (cutV xs lo hi)) (fun b ob q=>Heap.get?_push_of_some _ q) (Nat.le_refl _) ?_,rfl,q _ (I.hok.fresh (Nat.le_refl _))⟩
  exact ⟨Nat.le_trans (cutV_length xs lo hi) hz,_,0,(r.drop (HT.sIx xs.length 0 lo)).take (HT.sIx xs.length xs.length hi - HT.sIx xs.length 0 lo),Heap.get?_push_size _ rfl⟩
noncomputable def flatV:V->Bool
  | .non=>true
  | .bl _=>true
  | .int _=>true
  | .str _=>true
  | _=>false
noncomputable def eqV:V->V->Bool
  | .non,.non=>true
  | .bl a,.bl b=>a == b
  | .bl a,.int b=>(if a then 1 else 0) == b
  | .int a,.bl b=>a == (if b then 1 else 0)
  | .int a,.int b=>a == b
  | .str a,.str b=>a == b
  | _,_=>false
theorem eqAt_V {A:Around} {s:Shared} {y x:V} {u v:Value} (ry:RelV y u) (rx:RelV x v) (fy:flatV y=true) (fx:flatV x=true):SeqAt.EqAt A s u v (eqV y x):=by
  cases y with
  | non =>
    cases ry
    cases x with
    | non=>cases rx;exact SeqAt.EqAt.same _
    | bl b=>cases rx;exact SeqAt.EqAt.none_bool b
    | int b=>obtain ⟨t,rfl⟩:=rx;exact SeqAt.EqAt.none_int b t
    | str b=>obtain ⟨t,rfl⟩:=rx;exact SeqAt.EqAt.none_str b t
    | _=>exact absurd (show false=true from fx) Bool.false_ne_true
  | bl a =>
    cases ry
    cases x with
    | non=>cases rx;exact SeqAt.EqAt.bool_none a
    | bl b=>cases rx;exact SeqAt.EqAt.bool_bool a b
    | int b=>obtain ⟨t,rfl⟩:=rx;exact SeqAt.EqAt.bool_int a b t
    | str b=>obtain ⟨t,rfl⟩:=rx;exact SeqAt.EqAt.bool_str a b t
    | _=>exact absurd (show false=true from fx) Bool.false_ne_true
  | int a =>
    obtain ⟨t',rfl⟩:=ry
    cases x with
    | non=>cases rx;exact SeqAt.EqAt.int_none a t'
    | bl b=>cases rx;exact SeqAt.EqAt.int_bool a t' b
    | int b=>obtain ⟨t,rfl⟩:=rx;exact SeqAt.EqAt.int_int a t' b t
    | str b=>obtain ⟨t,rfl⟩:=rx;exact SeqAt.EqAt.int_str a t' b t
    | _=>exact absurd (show false=true from fx) Bool.false_ne_true
  | str a =>
    obtain ⟨t',rfl⟩:=ry
    cases x with
    | non=>cases rx;exact SeqAt.EqAt.str_none a t'
    | bl b=>cases rx;exact SeqAt.EqAt.str_bool a t' b
    | int b=>obtain ⟨t,rfl⟩:=rx;exact SeqAt.EqAt.str_int a t' b t
    | str b=>obtain ⟨t,rfl⟩:=rx;exact SeqAt.EqAt.str_str a t' b t
    | _=>exact absurd (show false=true from fx) Bool.false_ne_true
  | _=>exact absurd (show false=true from fy) Bool.false_ne_true
noncomputable def eqU (x:V) (u:Value):Bool:=match u with
  | .none=>eqV .non x
  | .bool b=>eqV (.bl b) x
  | .int i _=>eqV (.int i) x
  | .str z _=>eqV (.str z) x
  | _=>false
theorem eqU_of {x y:V} {u:Value} (r:RelV y u) (f:flatV y=true):eqU x u=eqV y x:=by
  cases y with
  | non=>cases r;rfl
  | bl b=>cases r;rfl
  | int i=>obtain ⟨t,rfl⟩:=r;rfl
  | str z=>obtain ⟨t,rfl⟩:=r;rfl
  | _=>exact absurd (show false=true from f) Bool.false_ne_true
theorem any_eqU {x:V}:∀ {xs:List V} {us:List Value},Vals xs us->xs.all flatV=true->us.any (eqU x)=xs.any fun y=>eqV y x
  | _,_,.nil,_=>rfl
  | y :: xs,u::us,.cons r t,f=>by
    rw [List.all_cons,Bool.and_eq_true] at f
    rw [List.any_cons,List.any_cons,eqU_of r f.1,any_eqU t f.2]
theorem mem_eqAt {A:Around} {s:Shared} {x:V} {v:Value} (rx:RelV x v) (fx:flatV x=true):∀ {xs:List V} {us:List Value},Vals xs us->xs.all flatV=true->∀ u∈us,SeqAt.EqAt A s u v (eqU x u)
  | _,_,.nil,_=>fun u hu=>by cases hu
  | y :: xs,u::us,.cons r t,f=>fun u' hu=>by
    rw [List.all_cons,Bool.and_eq_true] at f
    rcases List.mem_cons.mp hu with rfl | hu
    . rw [eqU_of r f.1];exact eqAt_V r rx f.1 fx
    . exact mem_eqAt rx fx t f.2 u' hu
noncomputable def inV (x:V) (xs:List V):Bool:=xs.any fun y=>eqV y x
noncomputable def rIn (K:PySem.W.Frag) (neg:Bool):R2:=fun x y H Q=>∃ p xs,y=.ref p/\(SqL K H p xs\/SqT K H p xs)/\flatV x=true/\xs.all flatV=true/\Q (.bl (if neg then !inV x xs else inV x xs)) H
theorem op_in_seq:OpR X (compareOp .In) (rIn X.K false):=by
  intro pins s σ H x y v u Q I rx ry h
  obtain ⟨p,xs,rfl,hq,fx,fs,q⟩:=h
  cases ry
  rcases hq with hq | hq
  . obtain ⟨its,r,pl,hz⟩:=I.list hq
    refine SeqAt.in_listAt (eqU x) pl.isList (fun w hw=>mem_eqAt rx fx r fs w (by simpa using hw)) ⟨.bl _,H,I,rfl,?_⟩
    rw [show its.toArray.any (eqU x)=its.any (eqU x) by simp,any_eqU r fs]
    exact q
  . obtain ⟨its,r,pl,hz⟩:=I.tuple hq
    refine SeqAt.in_tupleAt (eqU x) pl (fun w hw=>mem_eqAt rx fx r fs w (by simpa using hw)) ⟨.bl _,H,I,rfl,?_⟩
    rw [show its.toArray.any (eqU x)=its.any (eqU x) by simp,any_eqU r fs]
    exact q
theorem op_notIn_seq:OpR X (compareOp .NotIn) (rIn X.K true):=by
  intro pins s σ H x y v u Q I rx ry h
  obtain ⟨p,xs,rfl,hq,fx,fs,q⟩:=h
  cases ry
  rcases hq with hq | hq
  . obtain ⟨its,r,pl,hz⟩:=I.list hq
    refine SeqAt.notIn_listAt (eqU x) pl.isList (fun w hw=>mem_eqAt rx fx r fs w (by simpa using hw)) ⟨.bl _,H,I,rfl,?_⟩
    rw [show its.toArray.any (eqU x)=its.any (eqU x) by simp,any_eqU r fs]
    exact q
  . obtain ⟨its,r,pl,hz⟩:=I.tuple hq
    refine SeqAt.notIn_tupleAt (eqU x) pl (fun w hw=>mem_eqAt rx fx r fs w (by simpa using hw)) ⟨.bl _,H,I,rfl,?_⟩
    rw [show its.toArray.any (eqU x)=its.any (eqU x) by simp,any_eqU r fs]
    exact q
theorem op_notIn_str:OpR X (compareOp .NotIn) (fun x y H Q=>∃ i j,x=.str i/\y=.str j/\Q (.bl (!(!(Builtin.Str.occurrences j i 0 j.length 1).isEmpty))) H):=by
  intro pins s σ H x y v u Q I rx ry h
  obtain ⟨i,j,rfl,rfl,q⟩:=h
  obtain ⟨t,rfl⟩:=rx
  obtain ⟨t',rfl⟩:=ry
  exact notIn_str ⟨.bl _,H,I,rfl,q⟩
theorem call_len_seq:CallR X (.builtin "len") (fun xs H Q=>∃ p ys,xs=[.ref p]/\(SqL X.K H p ys\/SqT X.K H p ys)/\Q (.int ys.length) H):=by
  intro pins s σ H xs us Q I r h
  obtain ⟨p,ys,rfl,hq,q⟩:=h
  obtain ⟨u,rfl,rx⟩:=vals1 r
  cases rx
  have hn:=line63
  rcases hq with hq | hq
  . obtain ⟨its,r',pl,hz⟩:=I.list hq
    have hlen:=r'.length
    exact Calls.call_len_list pl.isList (by simp only [List.size_toArray] <;> lia) ⟨.int ys.length,H,I.tok _,⟨s.toks + 1,by rw [List.size_toArray,hlen]⟩,q⟩
  . obtain ⟨its,r',pl,hz⟩:=I.tuple hq
    have hlen:=r'.length
    exact len_tuple pl (by simp only [List.size_toArray] <;> lia) ⟨.int ys.length,H,I.tok _,⟨s.toks + 1,by rw [List.size_toArray,hlen]⟩,q⟩
theorem call_len_str:CallR X (.builtin "len") (fun xs H Q=>∃ z,xs=[.str z]/\z.length<=sizeLine/\Q (.int z.length) H):=by
  intro pins s σ H xs us Q I r h
  obtain ⟨z,rfl,hz,q⟩:=h
  obtain ⟨u,rfl,t,rfl⟩:=vals1 r
  have hn:=line63
  exact len_str (by lia) ⟨.int z.length,H,I.tok _,⟨_,rfl⟩,q⟩
theorem CallR.or {f:Value} {r r':List V->Hp->VK->Prop} (h:CallR X f r) (h':CallR X f r'):CallR X f (fun xs H Q=>r xs H Q\/r' xs H Q):=by
  intro pins s σ H xs us Q I rs q
  rcases q with q | q
  . exact h pins s σ H xs us Q I rs q
  . exact h' pins s σ H xs us Q I rs q
theorem call_list_of:CallR X (.type "list") (fun xs H Q=>∃ p ys,xs=[.ref p]/\(SqL X.K H p ys\/SqT X.K H p ys)/\∀ l,H l=none->Q (.ref l) (upd H l (.lst ys))):=by
  intro pins s σ H xs us Q I r h
  obtain ⟨p,ys,rfl,hq,q⟩:=h
  obtain ⟨u,rfl,rx⟩:=vals1 r
  cases rx
  have fin:∀ (its:List Value),Vals ys its->ys.length<=sizeLine->∀ (h':Heap) (c':Nat),(∀ b o',s.heap.get? b=some o'->h'.get? b=some o') ->
      h'.get? s.heap.objs.size=some { cls:=.type "list",dict:=none,data:=.seq its.toArray c',slots:=#[] }->EP X pins σ Q (.ref s.heap.objs.size) { s with heap:=h' }:=fun its r' hz h' c' kp e =>
    ⟨.ref s.heap.objs.size,_,I.laid (t':=s.toks) kp (Nat.le_refl _) (show ObjOk X.prog X.w _ h' _ (.lst ys) from ⟨hz,its,c',r',e⟩),rfl,q _ (I.hok.fresh (Nat.le_refl _))⟩
  rcases hq with hq | hq
  . obtain ⟨its,r',pl,hz⟩:=I.list hq
    have hlen:=r'.length
    obtain ⟨o,ho,hc,n,hd⟩:=pl.isList
    exact call_list_seq p (.inl rfl) ho hc hd (fun h' c' kp e=>fin its r' hz h' c' kp e) (by simp only [List.size_toArray] <;> lia)
  . obtain ⟨its,r',pl,hz⟩:=I.tuple hq
    have hlen:=r'.length
    obtain ⟨o,ho,hc,n,hd⟩:=pl
    exact call_list_seq p (.inr rfl) ho hc hd (fun h' c' kp e=>fin its r' hz h' c' kp e) (by simp only [List.size_toArray] <;> lia)
noncomputable def tyV (K:PySem.W.Frag) (T:String) (x:V) (H:Hp):Prop:=match x with
  | .str _=>T="str"
  | .int _=>T="int"
  | .ref p=>(T="list"/\∃ xs,SqL K H p xs)\/(T="tuple"/\∃ o,K.lookup p=some o/\o.cls=.type "tuple"/\o.dict=none) \/
      (T="dict"/\((∃ kvs,H p=some (.dK kvs))\/∃ kvs,H p=some (.dT kvs)))\/(T="set"/\∃ S n,H p=some (.set S n))
  | _=>False
theorem tyV_is {pins:List (Addr × Obj)} {σ:St} {H:Hp} {s:Shared} {T:String} {x:V} {v:Value} (I:Inv X pins σ H s) (r:RelV x v) (ty:tyV X.K T x H) :
    s.TypeIs v T/\∀ a,v=.ref a->∃ ob,s.heap.get? a=some ob/\ob.dict=none:=by
  cases x with
  | str z =>
    obtain ⟨t,rfl⟩:=r
    cases (show T="str" from ty)
    exact ⟨typeIs_str s z t,fun _ e=>nomatch e⟩
  | int i =>
    obtain ⟨t,rfl⟩:=r
    cases (show T="int" from ty)
    exact ⟨typeIs_int s i t,fun _ e=>nomatch e⟩
  | ref p =>
    cases r
    rcases ty with ⟨rfl,xs,hq⟩ | ⟨rfl,o,hk,hc,hd⟩ | ⟨rfl,hk⟩ | ⟨rfl,S,n,hk⟩
    . obtain ⟨its,_,pl,_⟩:=I.list hq
      refine ⟨pl.isList.typeIs,fun a e=>?_⟩
      cases e
      obtain ⟨o,n,e,c,hd,_⟩:=pl
      exact ⟨o,e,hd⟩
    . refine ⟨⟨o,I.kIn p o hk,hc⟩,fun a e=>?_⟩
      cases e
      exact ⟨o,I.kIn _ o hk,hd⟩
    . have z:∃ o,s.heap.get? p=some o/\o.ExactDict:=by
        rcases hk with ⟨kvs,hk⟩ | ⟨kvs,hk⟩
        . obtain ⟨_,_,_,_,o,_,_,e,ex,_⟩:=I.hok p _ hk
          exact ⟨o,e,ex⟩
        . obtain ⟨_,_,_,_,o,_,_,e,ex,_⟩:=I.hok p _ hk
          exact ⟨o,e,ex⟩
      obtain ⟨o,e,ex⟩:=z
      refine ⟨⟨o,e,ex.1⟩,fun a e2=>?_⟩
      cases e2
      exact ⟨o,e,ex.2.1⟩
    . obtain ⟨o,_,_,_,e,ex,_⟩:=I.hok p _ hk
      refine ⟨⟨o,e,ex.1⟩,fun a e2=>?_⟩
      cases e2
      exact ⟨o,e,ex.2.1⟩
  | _=>exact False.elim ty
noncomputable def tBM0 (K:PySem.W.Frag) (T:String) (r:V->List V->Hp->VK->Prop) (to:TE):TE:=fun σ H Q=>to σ H fun x H1=>tyV K T x H1/\r x [] H1 Q
noncomputable def tBM (K:PySem.W.Frag) (T:String) (r:V->List V->Hp->VK->Prop) (to:TE) (t:TA):TE:=fun σ H Q=>to σ H fun x H1=>tyV K T x H1/\t σ H1 fun xs H2=>r x xs H2 Q
variable {o e:Expr} {es:List Expr} {to:TE} {t:TA} {name:Str} {apos cpos:Pos} {T id:String} {r:V->List V->Hp->VK->Prop}
theorem pe_bm0 (pa:PlainAttrs T) (slot:Slot T name id) (hty:typeOf (.builtin id)=pure (.type "method_descriptor")) (hm:MtR X id r) (ho:PE X o to)
    (hbase:attributeBase o name X.env (eval o X.env)=eval o X.env:=by rfl) (hline:(apos.endLine == cpos.line)=true:=by rfl):PE X (.Call (.Attribute o name apos) [] [] cpos) (tBM0 X.K T r to):=by
  intro pins s σ H Q I h
  refine wpAny_Call_method0_late hbase hline (thn (ho pins s σ H _ I h) fun v s1 h_q=>?_)
  obtain ⟨x,H1,I1,r1,ty,q1⟩:=h_q
  obtain ⟨h1,h2⟩:=tyV_is I1 r1 ty
  exact ⟨T,id,pa,slot,hty,h1,h2,Calls.callWith_builtin rfl (PySem.evalArgs_none (hm pins s1 σ H1 x [] v [] Q I1 r1 .nil q1))⟩
theorem pe_bm (pa:PlainAttrs T) (slot:Slot T name id) (hty:typeOf (.builtin id)=pure (.type "method_descriptor")) (hm:MtR X id r) (ho:PE X o to) (ha:PA X (e::es) t)
    (hbase:attributeBase o name X.env (eval o X.env)=eval o X.env:=by rfl)
    (hfew:((backTo cpos (starEach (e::es) X.env)).all (fun x=>!x.1) && (backToKw cpos (keywordEach [] X.env)).all (fun x=>x.1.isSome)
      && decide ((e::es).length + ([]:List Keyword).length + (if ([]:List Keyword).isEmpty then 0 else 1) < 30))=true:=by rfl)
    (hline:(apos.endLine == cpos.line)=true:=by rfl) (hs:starEach (e::es) X.env=(false,eval e X.env)::starEach es X.env:=by rfl) (hplain:(backTo cpos (starEach es X.env)).any (·.1)=false:=by rfl) :
    PE X (.Call (.Attribute o name apos) (e::es) [] cpos) (tBM X.K T r to t):=by
  intro pins s σ H Q I h
  refine wpAny_Call_method_late hbase hfew hline rfl (thn (ho pins s σ H _ I h) fun v s1 h_q=>?_)
  obtain ⟨x,H1,I1,r1,ty,q1⟩:=h_q
  obtain ⟨h1,h2⟩:=tyV_is I1 r1 ty
  refine ⟨T,id,pa,slot,hty,h1,h2,?_⟩
  have hA:=ha cpos pins s1 σ H1 _ I1 q1
  rw [hs] at hA ⊢
  refine Calls.callWith_builtin (by show (false || (backTo cpos (starEach es X.env)).any (·.1))=false;rw [hplain] <;> rfl) (Calls.evalArgs_plain ?_)
  exact thn hA fun us s2 ⟨vs,H2,I2,r2,q2⟩=>hm pins s2 σ H2 x vs v us Q I2 r1 r2 q2
end
end L2
namespace L2
open PySem PySem.Spec PyProof.Rows
noncomputable def MtM (X:Cx) (id:String) (r:V->List V->Hp->VK->Prop):Prop :=
  ∀ (pins:List (Addr × Obj)) (s:Shared) (σ:St) (H:Hp) (x:V) (xs:List V) (v:Value) (us:List Value) (Q:VK),Inv X pins σ H s->RelV x v->Vals xs us->r x xs H Q ->
    wpAny (model X.prog X.w) X.A (call (.builtin id) (v::us)) (EP X pins σ Q) X.xe s
theorem Vals.one:∀ {x:V} {us:List Value},Vals [x] us->∃ u,us=[u]/\RelV x u
  | _,_,.cons r .nil=>⟨_,rfl,r⟩
theorem Vals.two:∀ {x y:V} {us:List Value},Vals [x,y] us->∃ u v,us=[u,v]/\RelV x u/\RelV y v:=by
  intro x y us h
  cases h with
  | cons r h=>cases h with | cons q h=>cases h;exact ⟨_,_,rfl,r,q⟩
theorem Vals.zero:∀ {us:List Value},Vals [] us->us=[]
  | _,.nil=>rfl
theorem Vals.dropLast {xs:List V} {us:List Value} (h:Vals xs us):Vals xs.dropLast us.dropLast:=by
  induction h with
  | nil=>exact .nil
  | cons r t ih =>
    cases t with
    | nil=>exact .nil
    | cons q t'=>exact .cons r ih
theorem Vals.rep {xs:List V} {us:List Value} (h:Vals xs us):∀ k:Nat,Vals (List.replicate k xs).flatten (List.replicate k us).flatten
  | 0=>.nil
  | k + 1=>by
    rw [List.replicate_succ,List.replicate_succ,List.flatten_cons,List.flatten_cons]
    exact Vals.append h (Vals.rep h k)
theorem erase_last {α:Type} (l:List α):l.eraseIdx (l.length - 1)=l.dropLast:=by
  induction l with
  | nil=>rfl
  | cons a r ih =>
    cases r with
    | nil=>rfl
    | cons b r =>
      have e:(a::b::r).length - 1=((b::r).length - 1) + 1:=by
        have h1:(a::b::r).length=r.length + 2:=rfl
        have h2:(b::r).length=r.length + 1:=rfl
        lia
      rw [e,List.eraseIdx_cons_succ,ih]
      all_goals rfl
theorem foldl_rep (its:List Value):∀ (k:Nat) (acc:List Value),
    List.foldl (fun x1 x2=>x1++x2) acc.toArray (List.replicate k its.toArray)=(acc++(List.replicate k its).flatten).toArray
  | 0,acc=>by simp
  | k + 1,acc=>by
    have e:acc.toArray++its.toArray=(acc++its).toArray:=by simp
    have e2:(acc++its)++(List.replicate k its).flatten=acc++(List.replicate (k + 1) its).flatten:=by
      rw [List.replicate_succ,List.flatten_cons,List.append_assoc]
    rw [<- e2,<- foldl_rep its k (acc++its),<- e,List.replicate_succ,List.foldl_cons]
section
variable {X:Cx} {pins:List (Addr × Obj)} {σ:St} {H:Hp} {s:Shared} {l b:Addr} {xs ys zs:List V}
theorem Inv.lset {its its':List Value} {n:Nat} {f:Array Value->Array Value} {t':Nat} (I:Inv X pins σ H s) (hH:H l=some (.lst xs))
    (e:s.heap.get? l=some { cls:=.type "list",data:=.seq its.toArray n }) (hf:f its.toArray=its'.toArray) (hv:Vals ys its') (hz:ys.length<=sizeLine) :
    Inv X pins σ (upd H l (.lst ys)) { s with heap:=s.heap.update l (Obj.mapSeq f),toks:=t' }:=by
  have q:=PySem.IsL.update e f
  rw [hf] at q
  refine I.write (x:=l) (e:=l) (by rw [hH];exact trivial) (.inl rfl) (fun b' u hb hu=>(Heap.get?_update_other s.heap (Obj.mapSeq f) (Ne.symm hb)).trans hu) ⟨_,q⟩ ?_
  exact ⟨hz,its',_,hv,q⟩
theorem Inv.lnew {its:List Value} {t':Nat} (I:Inv X pins σ H s) (hv:Vals ys its) (hz:ys.length<=sizeLine) :
    Inv X pins σ (upd H s.heap.objs.size (.lst ys)) { s with heap:=s.heap.push { cls:=.type "list",data:=.seq its.toArray },toks:=t' } :=
  I.laid (fun _ _ q=>Heap.get?_push_of_some _ q) (Nat.le_refl _) ⟨hz,its,0,hv,Heap.get?_push_size _ rfl⟩
theorem Inv.fresh (I:Inv X pins σ H s):H s.heap.objs.size=none:=I.hok.fresh (Nat.le_refl _)
theorem Inv.lstM (I:Inv X pins σ H s) (hH:H l=some (.lst xs)):xs.length<=sizeLine/\∃ (its:List Value) (n:Nat),Vals xs its/\xs.length=its.length/\s.heap.get? l=some { cls:=.type "list",data:=.seq its.toArray n }:=by
  obtain ⟨z,its,n,r,e⟩:=I.hok l _ hH
  exact ⟨z,its,n,r,r.length,e⟩
theorem notLongL {n:Nat} (h:n<=sizeLine):Builtin.List.listTooLong n=false:=by
  unfold Builtin.List.listTooLong
  exact decide_eq_false (by lia)
end
section
variable {X:Cx}
noncomputable def rAppend:V->List V->Hp->VK->Prop:=fun x vs H Q=>∃ l xs y,x=.ref l/\vs=[y]/\H l=some (.lst xs)/\xs.length < sizeLine/\Q .non (upd H l (.lst (xs++[y])))
theorem mt_append:MtM X "list.append" rAppend:=by
  intro pins s σ H x vs v us Q I rx rv h
  obtain ⟨l,xs,y,rfl,rfl,hH,hz,q⟩:=h
  cases rx
  obtain ⟨u,rfl,ru⟩:=rv.one
  obtain ⟨z,its,n,r,hl,e⟩:=I.lstM hH
  refine call_meets F.slot_list_append ⟨_,e,rfl⟩ F.entry_list_append (F.args_list_append_2 _ _) (PySem.list_append l its.toArray n u (by rw [List.size_toArray];lia)) ⟨e,?_⟩
  refine ⟨.non,_,I.lset (its':=its++[u]) hH e (by simp) (r.append (.cons ru .nil)) ?_,rfl,q⟩
  rw [List.length_append,List.length_singleton]
  lia
noncomputable def rPop:V->List V->Hp->VK->Prop:=fun x vs H Q=>∃ l xs y,x=.ref l/\vs=[]/\H l=some (.lst xs)/\xs[xs.length - 1]? = some y/\Q y (upd H l (.lst xs.dropLast))
theorem mt_pop:MtM X "list.pop" rPop:=by
  intro pins s σ H x vs v us Q I rx rv h
  obtain ⟨l,xs,y,rfl,rfl,hH,hy,q⟩:=h
  cases rx
  have hus:=rv.zero
  subst hus
  obtain ⟨z,its,n,r,hl,e⟩:=I.lstM hH
  obtain ⟨u,hu,ru⟩:=r.get hy
  have hy':its.toArray[its.toArray.size - 1]? = some u:=by
    show its.toArray[its.length - 1]? = some u
    rw [<- Array.getElem?_toList,<- hl]
    exact hu
  refine call_meets F.slot_list_pop ⟨_,e,rfl⟩ F.entry_list_pop (F.args_list_pop_1 _) (MeetsSeq.list_pop_last l its.toArray n u hy' (by rw [List.size_toArray];lia)) ⟨e,?_⟩
  refine ⟨y,_,I.lset (its':=its.dropLast) hH e ?_ r.dropLast ?_,ru,q⟩
  . show its.toArray.eraseIdxIfInBounds (its.toArray.size - 1)=its.dropLast.toArray
    rw [List.size_toArray,List.eraseIdxIfInBounds_toArray,erase_last]
  . rw [List.length_dropLast]
    lia
noncomputable def rCat:R2:=fun x y H Q=>∃ l b xs zs,x=.ref l/\y=.ref b/\H l=some (.lst xs)/\H b=some (.lst zs)/\xs.length + zs.length<=sizeLine/\∀ p,H p=none->Q (.ref p) (upd H p (.lst (xs++zs)))
noncomputable def rRep:R2:=fun x y H Q=>∃ l k xs,x=.ref l/\y=.int k/\H l=some (.lst xs)/\-(2 ^ 63)<=k/\k < 2 ^ 63/\xs.length * k.toNat<=sizeLine /\
  ∀ p,H p=none->Q (.ref p) (upd H p (.lst (List.replicate k.toNat xs).flatten))
theorem len_rep {α:Type} (xs:List α) (k:Nat):(List.replicate k xs).flatten.length=k * xs.length:=by
  induction k with
  | zero=>simp
  | succ k ih=>rw [List.replicate_succ,List.flatten_cons,List.length_append,ih,Nat.succ_mul,Nat.add_comm]
theorem op_rep:OpR X (binaryOp .Mult) rRep:=by
  intro pins s σ H x y v u Q I rx ry h
  obtain ⟨l,k,xs,rfl,rfl,hH,h1,h2,hz,q⟩:=h
  cases rx
  obtain ⟨t,rfl⟩:=ry
  obtain ⟨z,its,n,r,hl,e⟩:=I.lstM hH
  have hlen:its.toArray.size * k.toNat<=sizeLine:=by rw [List.size_toArray,<- hl];exact hz
  have hcap:¬ its.toArray.size * k.toNat > (2 ^ 63 - 1) / 8:=by
    have:(sizeLine:Nat)<=(2 ^ 63 - 1) / 8:=by decide
    lia
  have hfit:¬ (!Builtin.List.listFitsIndex k)=true:=by
    rw [fitsIndex_both h1 h2]
    exact Bool.false_ne_true
  have hlong:¬ Builtin.List.listTooLong (its.toArray.size * k.toNat)=true:=by
    rw [notLongL hlen]
    exact Bool.false_ne_true
  have hnew:List.foldl (fun x1 x2=>x1++x2) #[] (List.replicate (if its.toArray.isEmpty=true then 0 else k.toNat) its.toArray)=(List.replicate k.toNat its).flatten.toArray:=by
    have f0:∀ m:Nat,List.foldl (fun x1 x2=>x1++x2) #[] (List.replicate m its.toArray)=(List.replicate m its).flatten.toArray:=fun m=>by
      have:=foldl_rep its m []
      rw [List.nil_append] at this
      exact this
    rw [f0]
    cases its with
    | nil=>simp
    | cons a r'=>rw [if_neg (by simp)]
  refine wpAny_binaryOp_repeat_ref (T:="list") (U:="int") (by decide) ⟨_,e,rfl⟩ (fun s'=>typeIs_int s' k t) noFill_list_mul F.fills_int_mul F.slot_int_rmul repeat_list F.slot_int_index.lookup
    (call_meets F.slot_int_rmul (typeIs_int s k t) F.entry_int_rmul (F.args_int_rmul_2 _ _) (int___rmul___int_list k t l its.toArray n)
      ⟨e,rfl,⟨_,e,rfl⟩,call_meets F.slot_list_mul ⟨_,e,rfl⟩ F.entry_list_mul (F.args_list_mul_2 _ _) (AutoListH.list___mul___list_int_3 l its.toArray n k t hfit hcap hlong) ⟨e,?_⟩⟩)
  rw [hnew]
  exact ⟨.ref _,_,I.lnew (t':=s.toks) (r.rep k.toNat) (by rw [len_rep,Nat.mul_comm];exact hz),rfl,q _ I.fresh⟩
end
end L2
namespace Att
open PySem PySem.W PySem.Calls PyProof.Rows
theorem ints_of_wellAll {P:Params} {h:Heap}:∀ (ns:List Int) (vs:List Value),WellAll P h vs (ns.map WData.int)->IntsAre vs ns:=by
  intro ns
  induction ns with
  | nil =>
    intro vs w
    rw [List.map_nil] at w
    cases w
    exact .nil
  | cons n ns ih =>
    intro vs w
    rw [List.map_cons] at w
    cases w with
    | cons a b =>
      cases a
      exact .cons _ _ (ih _ b)
theorem script_of {l:OpenLaw} {n:Nat} (hn:l.most=some n) {P:Params} {h:Heap} {args:List WData} {vals:List Value}
    (hpre:l.row.toRowW.claim.pre args=true) (hwl:WellAll P h vals args) :
    ∃ a vs ns,vals=[Value.ref a]/\args=[WData.list (ns.map WData.int)]/\h.get? a=some { cls:=.type "list",data:=.seq vs.toArray }/\IntsAre vs ns/\ns.length<=n:=by
  have hsh:WShape.hasAll [] args [.list .int]=true:=(pre_splitW hpre).1
  have hc:l.pre.holds [] { args:=args }=true:=(pre_splitW hpre).2
  obtain ⟨d,r,rfl,h1,h2⟩:=hasAllW_cons hsh
  obtain rfl:=hasAllW_nil h2
  obtain ⟨xs,rfl,h3⟩:=hasW_list h1
  obtain ⟨ns,rfl⟩:=items_int h3
  have hlen:ns.length<=n:=by
    unfold OpenLaw.pre at hc
    have h4:(WTm.not (.lt (.lit (.int (n:Int))) (.len (.arg 0)))).holds [] { args:=[.list (ns.map .int)] }=true:=by
      have h4:=(holds_andW hc).1
      rw [hn] at h4
      exact h4
    have h5:=condW_of h4 (w_not (w_lt w_lit (w_len_list (w_arg rfl))))
    rw [List.length_map] at h5
    refine Nat.le_of_not_lt fun q=>?_
    have q':(n:Int) < ((ns.length:Nat):Int):=by lia
    first
      | (rw [decide_eq_true q'] at h5;exact absurd h5 (by decide))
      | (simp at h5;lia)
  cases hwl with
  | cons w1 w2 =>
    cases w2
    cases w1 with
    | list ho hall=>exact ⟨_,_,ns,rfl,rfl,ho,ints_of_wellAll ns _ hall,hlen⟩
theorem post_true (l:OpenLaw) (args:List WData):l.row.toRowW.claim.post args (.bool true) args=true :=
  postW_of (r:=l.row.toRowW) (X:=(true == true))
    (show WShape.has [] (.bool true) .bool=true by first | rfl | decide | simp [WShape.has,WShape.arms,WShape.armsAll])
    (show (WTm.eq .res (.lit (.bool true))).value [] { args:=args,res:=some (.bool true),after:=args }=some (.bool (true == true)) from w_eq_bool (w_res rfl) w_lit) rfl
theorem attach_call {l:OpenLaw} {n:Nat} {q:Program} {loose:List Str} {XP:(Str->Option Value)->Heap->Prop} {YP:World->Heap->Prop} {d:DefRec}
    (hn:l.most=some n) (hdf:d.params.defaults=[])
    (call:∀ (w:World) (s₀ s₁:Shared) (mg mb:Str->Option Value) (fa:Addr) (o:Obj) (pm cd doc:Value) (a:Addr) (vs:List Value) (ns:List Int),
      Ground q loose [] XP w s₀ mg mb s₁.heap->YP w s₁.heap ->
      s₁.heap.get? fa=some o->o.data=.func (docDef d.name d.params d.body d.scope pm cd doc)->s₁.heap.CodeRec cd d.name->mg d.name=some (.ref fa) ->
      s₁.heap.get? a=some { cls:=.type "list",data:=.seq vs.toArray }->IntsAre vs ns->ns.length<=n->s₁.gens=#[] ->
      codeAny (model l.prog w) callerA (.call (.ref fa) ⟨[.ref a],[]⟩) (fun r s'=>r=.ok (.ret (.bool true))/\OldK s₁.heap s'.heap/\s'.os=s₁.os/\AllBare s'.gens) s₁) :
    WalkO q loose XP YP l.row.toRowW d [] (fun f vs=>PySem.call f vs):=by
  intro w s₀ s₁ mg mb G Y fa o pm cd doc dV kV ho hd hcd hD hmg hg args vals as hpre hlay hrd hwl hlo
  obtain rfl:dV=.none:=Dflts.none hD hdf
  obtain rfl:kV=.none:=Dflts.noKw hD
  obtain ⟨a,vs,ns,rfl,rfl,hobj,hints,hlen⟩:=script_of hn hpre hwl
  refine enter_call (codeAny_mono (call w s₀ s₁ mg mb fa o pm cd doc a vs ns G Y ho (fd_plain hd) hcd hmg hobj hints hlen hg) fun r s' hq=>?_)
  obtain ⟨rfl,h2,h3,h4⟩:=hq
  exact ⟨.inl ⟨.bool true,.bool true,[],rfl,fun _=>rfl,.bool true,post_true l _,fun _=>⟨List.Pairwise.nil,fun _ hm=>(nomatch hm)⟩⟩,h2,h3,h4⟩
end Att
namespace L2
open PySem PySem.Spec PyProof.Rows
theorem vals_ints:∀ {vs:List Value} {ns:List Int},IntsAre vs ns->Vals (ns.map V.int) vs
  | _,_,.nil=>.nil
  | _,_,.cons n t h=>.cons ⟨t,rfl⟩ (vals_ints h)
noncomputable def Only (H:Hp):Prop:=∀ b,H b=none\/∃ o xs,H b=some (.frz o (.lst xs))
theorem law_call {P:Program} {w:World} {K:PySem.W.Frag} {mg mb:Str->Option Value} {CX:CXT} {k:Nat} {fa a:Addr} {fd:FuncData} {x:Str} {sp:Sp} {s₁:Shared} {vs:List Value} {ns:List Int}
    (KX:K.In s₁.heap) (hns:s₁.heap.Ns mainGlobals mg) (hb:s₁.heap.Ns builtinsNs mb) (hbb:∀ x:Str,x≠"__name__"->mb x=bootBuiltins x) (hlim:s₁.heap.NoLimit) (hg:s₁.gens=#[])
    (ha:s₁.heap.get? a=some { cls:=.type "list",data:=.seq vs.toArray }) (hi:IntsAre vs ns) (hl:ns.length<=sizeLine) (hr:Room k callerA)
    (F:∀ base:Heap,K.In base->base.Ns mainGlobals mg->FnOk P w K mg base CX k fa fd [x] sp) (hbind:∀ (s:Shared) (u:Value),BindsTo s fd ⟨[u],[]⟩ [(x,u)])
    (hsp:∀ H:Hp,Only H->SqL K H a (ns.map V.int)->sp [.ref a] H (fun v _=>v=.bl true) fun _ _ _=>False)
    (hCX:∀ H e s',CX [] H s₁ (fun _ _ _=>False) e s'->False) :
    codeAny (model P w) callerA (.call (.ref fa) ⟨[.ref a],[]⟩) (fun r s'=>r=.ok (.ret (.bool true))/\OldK s₁.heap s'.heap/\s'.os=s₁.os/\AllBare s'.gens) s₁:=by
  have rv:=vals_ints hi
  have lenV:=hi.length
  have core : ∀ H:Hp,Only H->SqL K H a (ns.map V.int)->HOk P w H s₁.heap->(∀ b,H b≠none->b=a)->(H a≠none->K.lookup a=none) ->
      codeAny (model P w) callerA (.call (.ref fa) ⟨[.ref a],[]⟩) (fun r s'=>r=.ok (.ret (.bool true))/\OldK s₁.heap s'.heap/\s'.os=s₁.os/\AllBare s'.gens) s₁:=by
    intro H hO hS hok hA hK
    have base_of:∀ {b:Addr} {o:Obj},s₁.heap.get? b=some o->H b=none->(hidT s₁.heap H).get? b=some o:=fun e n=>hidT_get e n
    have noA:∀ {b:Addr} {o:Obj} {es:Array DictEntry} {ep:Nat},s₁.heap.get? b=some o->o.data=.dict es ep->H b=none:=fun {b o es ep} e d=>by
      cases q:H b with
      | none=>rfl
      | some u =>
        have e':b=a:=hA b (by rw [q];simp)
        subst e'
        rw [ha] at e;cases e
        have d':Data.seq vs.toArray _=Data.dict es ep:=d
        cases d'
    have nsK:∀ {b:Addr} {m:Str->Option Value},s₁.heap.Ns b m->(hidT s₁.heap H).Ns b m:=fun {b m} ⟨o,es,ep,e,d,r⟩=>⟨o,es,ep,base_of e (noA e d),d,r⟩
    have hKb:K.In (hidT s₁.heap H):=fun b o e=>base_of (KX b o e) (by
      cases q:H b with
      | none=>rfl
      | some u =>
        have e':b=a:=hA b (by rw [q];simp)
        subst e'
        rw [hK (by rw [q];simp)] at e;cases e)
    have hM:Mod K mg (hidT s₁.heap H):=⟨hKb,nsK hns,⟨mb,nsK hb,hbb⟩,let ⟨mc,h1,h2⟩:=hlim;⟨mc,nsK h1,h2⟩⟩
    have e0:Env0 P w K mg (hidT s₁.heap H) callerA [] s₁ H:=⟨rfl,hM,fun b o e=>of_hidT e,Nat.le_of_eq (hidT_size _ _),trivial,fun b hb=>absurd (show b∈([]:List Addr) from hb) (by simp),hok,.of_eq hg⟩
    refine codeAny_mono ((F _ hKb (nsK hns)).run callerA [] s₁ H ⟨[.ref a],[]⟩ [.ref a] [.ref a] _ _ hr e0 (hbind s₁ (.ref a)) (.cons rfl .nil) (hsp H hO hS)) fun r s' h=>?_
    cases r with
    | error e=>exact (hCX H e s' h).elim
    | ok fl =>
      cases fl with
      | next=>exact False.elim h
      | brk=>exact False.elim h
      | cont=>exact False.elim h
      | ret u =>
        obtain ⟨v,H',os,bare,un,hok',r',q⟩:=h
        have q':v=.bl true:=q
        subst q'
        obtain rfl:u=Value.bool true:=r'
        refine ⟨rfl,OldK.of_keep fun b o e=>?_,os,bare⟩
        cases q:H b with
        | none=>exact un.keep b o e q (by intro z;exact absurd (show b∈([]:List Addr) from z) (by simp)) (by simp)
        | some u =>
          rcases hO b with z | ⟨ob,xs,z⟩
          . rw [q] at z;cases z
          . have z2:=un.frzs b ob _ z
            obtain ⟨e1,_⟩:=hok b _ z
            obtain ⟨e2,_⟩:=hok' b _ z2
            rw [e] at e1;cases e1
            exact e2
  cases hk:K.lookup a with
  | some o =>
    have e:=KX a o hk
    rw [ha] at e
    cases e
    refine core (fun _=>none) (fun _=>.inl rfl) (.inr ⟨_,vs.toArray,_,hk,rfl,rfl,rfl,by rw [List.size_toArray,lenV];exact hl,by simpa using rv⟩) (fun b u z=>by have z':(none:Option HO)=some u:=z;cases z') (fun b z=>absurd rfl z) fun z=>absurd rfl z
  | none =>
    refine core (fun b=>if b=a then some (.frz { cls:=.type "list",data:=.seq vs.toArray } (.lst (ns.map V.int))) else none) (fun b=>?_) (.inl (.inr ⟨{ cls:=.type "list",data:=.seq vs.toArray },if_pos rfl⟩)) (fun b u z=>?_) (fun b z=>?_) fun _=>hk
    . by_cases hb:b=a
      . exact .inr ⟨_,_,if_pos hb⟩
      . exact .inl (if_neg hb)
    . by_cases hb:b=a
      . have z':=(if_pos hb).symm.trans z
        cases z'
        subst hb
        exact ⟨ha,by rw [List.length_map];exact hl,vs,_,rv,ha⟩
      . have z':=(if_neg hb).symm.trans z
        cases z'
    . by_cases hb:b=a
      . exact hb
      . exact absurd (if_neg hb) z
end L2
namespace L2
open PySem PySem.Spec PyProof.Rows
theorem walk_of {l:PySem.W.OpenLaw} {n k:Nat} {q:Program} {loose:List Str} {XP:(Str->Option Value)->Heap->Prop} {YP:World->Heap->Prop} {d:DefRec} {K:Params->PySem.W.Frag} {CX:World->CXT} {sp:World->Sp} {x:Str}
    (hn:l.most=some n) (hn2:n<=sizeLine) (hdf:d.params.defaults=[]) (hr:Room k callerA)
    (hY:∀ (w:World) (h:Heap),YP w h->(K w.params).In h)
    (F : ∀ (w:World) (mg:Str->Option Value) (fa:Addr) (h:Heap),(K w.params).In h->h.Ns mainGlobals mg->mg d.name=some (.ref fa) ->
      ∃ fd:FuncData,(∀ (s:Shared) (u:Value),BindsTo s fd ⟨[u],[]⟩ [(x,u)]) /\
        ∀ base:Heap,(K w.params).In base->base.Ns mainGlobals mg->FnOk l.prog w (K w.params) mg base (CX w) k fa fd [x] (sp w))
    (hsp:∀ (w:World) (H:Hp) (a:Addr) (ns:List Int),ns.length<=n->Only H->SqL (K w.params) H a (ns.map V.int)->sp w [.ref a] H (fun v _=>v=.bl true) fun _ _ _=>False)
    (hCX:∀ (w:World) (H:Hp) (s:Shared) (e:Value) (s':Shared),CX w [] H s (fun _ _ _=>False) e s'->False) :
    PySem.W.WalkO q loose XP YP l.row.toRowW d [] (fun f vs=>PySem.call f vs):=by
  refine Att.attach_call hn hdf fun w s₀ s₁ mg mb fa o pm cd doc a vs ns G Y ho hd hcd hmg hobj hints hlen hg=>?_
  have KX:=hY w _ Y
  obtain ⟨fd,hb,hF⟩:=F w mg fa _ KX G.T.g hmg
  exact law_call KX G.T.g G.T.b G.T.builtins G.T.nolimit hg hobj hints (Nat.le_trans hlen hn2) hr hF hb (fun H hO hS=>hsp w H a ns hlen hO hS) fun H e s'=>hCX w H s₁ e s'
end L2
namespace L2
open PySem PySem.Spec PyProof.Rows
noncomputable def inClass (s:Stmt) (j:Nat):Stmt:=match s with
  | .ClassDef _ _ _ body _ _ _ _ _ _ _=>body.getD j (.Pass ⟨0,0,0,0⟩)
  | _=>.Pass ⟨0,0,0,0⟩
noncomputable def defArgs (s:Stmt):Arguments:=match s with
  | .FunctionDef _ a _ _ _ _ _ _ _ _=>a
  | _=>{ posonlyargs:=[],args:=[],vararg:=none,kwonlyargs:=[],kw_defaults:=[],kwarg:=none,defaults:=[] }
noncomputable def defBody (s:Stmt):List Stmt:=match s with
  | .FunctionDef _ _ b _ _ _ _ _ _ _=>b
  | _=>[]
noncomputable def defScope (s:Stmt):Scope:=match s with
  | .FunctionDef _ _ _ _ _ _ sc _ _ _=>sc
  | _=>{ kind:=.function,names:=[],isGenerator:=false,isCoroutine:=false }
noncomputable abbrev CX0:CXT:=fun _ _ _ _ _ _=>False
noncomputable abbrev E0:XK:=fun _ _ _=>False
theorem pass0 {X:Cx}:Passes CX0 X E0:=fun _ _ _ _ _ _ _ h=>h.elim
structure Fun (K:PySem.W.Frag) (x qual:Str) (st:Stmt) (f:Addr) (fd:FuncData):Prop where
  ex : ∃ (oc:Value) (od:Option Addr) (kV doc pm:Value) (an:Option Addr) (cdv ct:Value) (osl:Array (Option Value)),
    fd=PySem.W.fnOf x qual (defArgs st) (defBody st) (defScope st) .none kV doc pm an cdv ct/\K.lookup f=some ⟨oc,od,.func fd,osl⟩/\PySem.W.codeIn K cdv qual=true
  kp:PySem.W.keepIn K (.ref f)=true
section
variable {P:Program} {w:World} {K:PySem.W.Frag} {mg:Str->Option Value} {base:Heap}
theorem Fun.ok {x qual:Str} {st:Stmt} {f:Addr} {fd:FuncData} {N ps:List Str} {k:Nat} {sp:Sp} (F:Fun K x qual st f fd) (S:FnScope N ps (defScope st)) (len:∀ vs H Q E,sp vs H Q E->vs.length=ps.length)
    (hbody:∀ (cdv:Value) (A:Around) (outer:List Env) (s:Shared) (H:Hp) (vs:List V) (Q:VK) (E:XK),Room k (A.deeper (envOfC qual (defScope st) s.heap.objs.size f cdv))->sp vs H Q E ->
      ∃ t,PSs (cxOf CX0 P w K mg base N qual (defScope st) f cdv A outer s H E).nox (defBody st) t/\t { nx:=fun _ H'=>Q .non H',rt:=Q } (start N vs) H):FnOk P w K mg base CX0 (k + 1) f fd ps sp:=by
  obtain ⟨oc,od,kV,doc,pm,an,cdv,ct,osl,rfl,lk,hcd⟩:=F.ex
  refine fn_of lk hcd S len fun A outer s H vs Q E hr hsp=>?_
  obtain ⟨t,h,q⟩:=hbody cdv A outer s H vs Q E hr hsp
  exact ⟨t,h.nox,q⟩
theorem Fun.binds {x qual:Str} {st:Stmt} {f:Addr} {fd:FuncData} {ps:List Str} (F:Fun K x qual st f fd)
    (h:∀ (kV doc pm:Value) (an:Option Addr) (cdv ct:Value) (us:List Value),us.length=ps.length->bindArgs (PySem.W.fnOf x qual (defArgs st) (defBody st) (defScope st) .none kV doc pm an cdv ct) ⟨us,[]⟩=pure (ps.zip us)):Binds K fd ps []:=by
  obtain ⟨oc,od,kV,doc,pm,an,cdv,ct,osl,rfl,lk,hcd⟩:=F.ex
  exact .all (h kV doc pm an cdv ct)
theorem fun_mk {x qual:Str} {st:Stmt} {f:Addr} {oc:Value} {od an:Option Addr} {osl:Array (Option Value)} {kV doc pm cdv ct:Value} (l:K.lookup f=some ⟨oc,od,.func (PySem.W.fnOf x qual (defArgs st) (defBody st) (defScope st) .none kV doc pm an cdv ct),osl⟩)
    (c:PySem.W.codeIn K cdv qual=true) (k:PySem.W.keepIn K (.ref f)=true):Fun K x qual st f (PySem.W.fnOf x qual (defArgs st) (defBody st) (defScope st) .none kV doc pm an cdv ct):=⟨⟨oc,od,kV,doc,pm,an,cdv,ct,osl,rfl,l,c⟩,k⟩
end
theorem small1000 {n:Nat} (h:n<=1000):n < sizeLine:=Nat.lt_of_le_of_lt h (by decide)
section
variable {X:Cx}
theorem pv (i:Nat) {x:Str} {pos:Pos} (hN:X.N[i]? = some x:=by rfl) (hv:Vis X.env.scope x:=by first | exact Or.inl rfl | exact Or.inr (Or.inl rfl) | exact Or.inr (Or.inr rfl)) (hd:(x == ("__debug__":Str))=false:=by decide)
    (hcd:(x == ("__classdict__":Str))=false:=by decide):PE X (.Name x pos) (tVar i):=pe_var hN hv hd hcd
end
noncomputable def Same (H H':Hp):Prop:=∀ b o,H b=some o->H' b=some o
theorem Same.refl (H:Hp):Same H H:=fun _ _ h=>h
end L2
namespace L2
open PySem PySem.W
noncomputable def topRunT (tb:String->Option Builtin) (p:Program) (w:World) (n₀:Nat) (ann:Option Value):Nat->SharedT->Thread->Option SharedT
  | 0,_,_=>none
  | n + 1, s,t=>match through t with
    | true=>some s
    | false=>match stepOk n₀ ann t with
      | false=>none
      | true=>match stepT (denote tb) p w s t with
        | some (s',t')=>topRunT tb p w n₀ ann n s' t'
        | none=>none
theorem topRun_of {tb:String->Option Builtin} {p:Program} {w:World} {n₀:Nat} {ann:Option Value}:∀ {n:Nat} {s s':SharedT} {t:Thread},topRunT tb p w n₀ ann n s t=some s'->topRun tb p w n₀ ann n s.abs t=some s'.abs
  | 0,_,_,_,h=>by cases h
  | n + 1, s,s',t,h=>by
    unfold topRunT at h
    unfold topRun
    cases ht:through t with
    | true=>rw [ht] at h;cases h;rfl
    | false =>
      rw [ht] at h
      cases hk:stepOk n₀ ann t with
      | false=>rw [hk] at h;cases h
      | true =>
        rw [hk] at h
        cases hs:stepT (denote tb) p w s t with
        | none=>rw [hs] at h;cases h
        | some r=>obtain ⟨s₂,t₂⟩:=r;rw [hs] at h;rw [stepT_spec hs];exact topRun_of h
noncomputable def pushT (x:Option (BT × Nat)) (o:Obj):Option (BT × Nat):=match x with
  | none=>none
  | some (t,n)=>match ((t.ins n o).get n).isSome with
    | true=>some (t.ins n o,n + 1)
    | false=>none
noncomputable def buildT (l:List Obj):Option (BT × Nat):=l.foldl pushT (some (.nil,0))
theorem push_none:∀ l:List Obj,l.foldl pushT none=none
  | []=>rfl
  | o::l=>push_none l
theorem build_go:∀ (l pre:List Obj) (t:BT) (n:Nat) (T:BT) (m:Nat) (life:Life),n=pre.length->absHeap t n life=⟨pre.toArray,life⟩->l.foldl pushT (some (t,n))=some (T,m)->m=(pre++l).length/\absHeap T m life=⟨(pre++l).toArray,life⟩
  | [],pre,t,n,T,m,life,hn,h,e=>by
    cases e
    rw [List.append_nil]
    exact ⟨hn,h⟩
  | o :: l,pre,t,n,T,m,life,hn,h,e=>by
    rw [List.foldl_cons] at e
    cases hs:((t.ins n o).get n).isSome with
    | false =>
      have:pushT (some (t,n)) o=none:=by unfold pushT;simp only [hs]
      rw [this,push_none] at e;cases e
    | true =>
      have hp:pushT (some (t,n)) o=some (t.ins n o,n + 1):=by unfold pushT;simp only [hs]
      rw [hp] at e
      have:=build_go l (pre++[o]) (t.ins n o) (n + 1) T m life (by rw [List.length_append,hn];rfl) (by
        rw [absHeap_ins hs,h]
        show Heap.mk _ _=Heap.mk _ _
        simp) e
      rw [List.append_assoc] at this
      exact this
theorem build_abs {l:List Obj} {T:BT} {m:Nat} {life:Life} (h:buildT l=some (T,m)):m=l.length/\absHeap T m life=⟨l.toArray,life⟩:=by
  have:=build_go l [] .nil 0 T m life rfl rfl h
  simpa using this
noncomputable def forceL {β:Type}:List Obj->(List Obj->β)->β
  | [],k=>k []
  | ⟨a,b,c,d⟩::l,k=>forceL l fun l'=>k (⟨a,b,c,d⟩::l')
theorem forceL_eq {β:Type}:∀ (l:List Obj) (k:List Obj->β),forceL l k=k l
  | [],k=>rfl
  | ⟨a,b,c,d⟩::l,k=>by rw [forceL,forceL_eq l]
noncomputable def headT {β:Type} (p:Program) (w:World) (os:OsState) (m:Nat) (ann:Option Value) (M:Nat) (k:Shared->β):Option β :=
  match buildT (boot_heap w.params).objs.toList with
  | none=>none
  | some (T,n)=>match topRunT treeTable p w m ann M ⟨T,n,(boot_heap w.params).life,#[],boot_drawn,boot_toks,os⟩ (topStub p) with
    | none=>none
    | some s=>some (forceL (s.tree.list s.n) fun l=>k ⟨⟨l.toArray,s.life⟩,s.gens,s.drawn,s.toks,s.os⟩)
theorem headT_run {β:Type} {p:Program} {w:World} {os:OsState} {m:Nat} {ann:Option Value} {M:Nat} {k:Shared->β} {r:β} (h:headT p w os m ann M k=some r):∃ s,topRun treeTable p w m ann M ⟨boot_heap w.params,#[],boot_drawn,boot_toks,os⟩ (topStub p)=some s/\k s=r:=by
  unfold headT at h
  cases hb:buildT (boot_heap w.params).objs.toList with
  | none=>rw [hb] at h;cases h
  | some x =>
    obtain ⟨T,n⟩:=x
    rw [hb] at h
    obtain ⟨hn,ha⟩:=build_abs (life:=(boot_heap w.params).life) hb
    have ha:absHeap T n (boot_heap w.params).life=boot_heap w.params:=by rw [ha]
    simp only at h
    cases ht:topRunT treeTable p w m ann M ⟨T,n,(boot_heap w.params).life,#[],boot_drawn,boot_toks,os⟩ (topStub p) with
    | none=>rw [ht] at h;cases h
    | some s =>
      rw [ht] at h
      simp only [forceL_eq,Option.some.injEq] at h
      have:=topRun_of ht
      rw [show (SharedT.mk T n (boot_heap w.params).life #[] boot_drawn boot_toks os).abs=⟨boot_heap w.params,#[],boot_drawn,boot_toks,os⟩ from by unfold SharedT.abs;simp only;rw [ha]] at this
      exact ⟨s.abs,this,h⟩
theorem left_whole {p q:Program} {loose:List Str} {Xt:Shared->Bool} {α:Type} {Yf:Shared->α} {Ya:World->α} {N:Nat} {g0:Bool} {m:Nat} {ann:Option Value}
    (e:opening p=plainProg p.main.scope.names) (hN:Nat.ble 600 N=true) (f:∀ s,fenceModules? p s=some s)
    (size:∀ w:World,((boot_heap w.params).isNs mainGlobals,(boot_heap w.params).objs.size,(boot_heap w.params).nsMap mainGlobals "__annotations__")=(true,m,ann))
    (run:∀ (w:World) (os:OsState),headT p w os m ann N (fun s=>(staticsOk (importedModules p.main.body) (boot_heap w.params) s.heap && namesBound p s.heap && gensDone s && laidKept (boot_heap w.params) s.heap,openSeen q loose (importedModules p.main.body) Xt g0 s,Yf s))=some (true,openGood q loose,Ya w)) :
    LeftO p q loose Xt Yf Ya N g0:=fun w=>by
  obtain ⟨⟨h,gs,d,k,os⟩,eo,e'⟩:=Option.map_eq_some_iff.mp (boot_open e hN f w)
  obtain ⟨rfl,rfl,rfl,rfl⟩:h=boot_heap w.params/\gs=#[]/\d=boot_drawn/\k=boot_toks:=by simpa using e'
  obtain ⟨z1,z2,z3⟩:_/\_/\_:=by simpa only [Prod.mk.injEq] using size w
  obtain ⟨s,r,l⟩:=headT_run (run w os)
  obtain ⟨l1,l2,l3⟩:_/\_/\_:=by simpa only [Prod.mk.injEq] using l
  have t:topFrom treeTable p w N ⟨boot_heap w.params,#[],boot_drawn,boot_toks,os⟩=some s:=by
    unfold topFrom
    dsimp only
    rw [z1,z2,z3,r]
    show (match staticsOk (importedModules p.main.body) (boot_heap w.params) s.heap && namesBound p s.heap && gensDone s && laidKept (boot_heap w.params) s.heap with | true=>_ | false=>_)=_
    rw [l1]
  unfold openEnds
  rw [eo]
  show (topFrom treeTable p w N _).map _=_
  rw [t]
  exact congrArg some (Prod.ext l2 l3)
noncomputable def hEnt (P:Params) (x:Str) (t:Nat) (v:Value):DictEntry:=⟨PyData.keyHash P x,.str x t,v⟩
noncomputable def hNs (n:Nat) (es:List DictEntry):Obj:=⟨.type "dict",none,.dict es.toArray n,#[]⟩
noncomputable def hTup (vs:List Value):Obj:=⟨.type "tuple",none,.seq vs.toArray 0,#[]⟩
noncomputable def hRf:Option Nat->Value
  | some a=>.ref a
  | none=>.none
noncomputable def hCode (x q:Str) (t ln ac fl a b:Nat) (d e:Option Nat) (f m n:Nat):Obj :=
  ⟨.type "code",none,.fields #[.str x t,.str q (t + 1),.str "/claim/cut.py" (t + 2),.int ln 0,.int ac 0,.int 0 0,.int 0 0,.int fl 0,.ref a,.bool true,.int 181 0,.ref b,.none,hRf d,hRf e,.ref f,.int m 0,.int ln 0,.str "/claim/cut.py" n],#[]⟩
noncomputable def hFun (st:Stmt) (x q:Str) (pm:Value) (c:Nat):Obj:=⟨.type "function",none,.func (fnOf x q (defArgs st) (defBody st) (defScope st) .none .none .none pm none (.ref c) .none),#[]⟩
noncomputable def hBoot (w:World):Bool × Nat × Option Value:=((boot_heap w.params).isNs mainGlobals,(boot_heap w.params).objs.size,(boot_heap w.params).nsMap mainGlobals "__annotations__")
end L2
set_option maxHeartbeats 4000000
namespace L2
open PySem PySem.Spec PyProof.Rows
noncomputable def Its (x:Str):It:=⟨fun i _=>i < x.cps.size,fun i H v H'=>H'=H/\∃ c,x.cps[i]? = some c/\v=.str ⟨#[c]⟩,fun i _=>x.cps.size<=i⟩
theorem turn_str {P:Program} {w:World} {K:PySem.W.Frag} {tg:Expr} (x:Str) (t:Tok) (it:Addr) (ty:String) (hty:ty="str_ascii_iterator"\/ty="str_iterator"):Turn P w K tg (Its x) [it] it (fun i h=>h.IsStrIter it ty x t i) where
  mem:=by simp
  obj := fun i h st b hb=>by
    have e:b=it:=by simpa using hb
    subst e
    obtain ⟨o,e,c,d⟩:=st
    exact ⟨o,e,fun v z=>by rw [d] at z;cases z⟩
  keep:=fun i h h' st k=>by
    obtain ⟨o,e,c,d⟩:=st
    exact ⟨o,k it (by simp) o e,c,d⟩
  item := by
    intro X hP hw hK hc i pins s σ H E I hf st hg
    subst hP hw hK
    obtain ⟨f0,f1,f2,f3,f4,f5⟩:=hf it (by simp)
    have hlt:i < x.cps.size:=hg
    have hx:x.cps[i]? = some x.cps[i]:=by simp [hlt]
    have fin:∀ h',h'.IsStrIter it ty x t (i + 1)->Heap.SameBut it s.heap h'->∃ u,some (Value.str ⟨#[x.cps[i]]⟩ s.toks)=some u /\
        wpAny (model X.prog X.w) X.A (letOwnedTupleGo tg (.ref it) u) (fun _ s2=>∃ y H',Inv X pins σ H' s2/\RelV y u/\(Its x).yld i H y H'/\s2.heap.IsStrIter it ty x t (i + 1)/\∀ b∈[it],H' b=none) E { s with heap:=h',toks:=s.toks + 1 }:=by
      intro h' st' sb
      have I1:Inv X pins σ H { s with heap:=h',toks:=s.toks + 1 }:=I.turned (t':=s.toks + 1) (fun b o hb e=>(sb.2 b hb).trans e) f0 f1 f3 f4 f5
      obtain ⟨o,e,c,d⟩:=id st'
      refine ⟨_,rfl,go_of (s:={ s with heap:=h',toks:=s.toks + 1 }) e c d (by rcases hty with rfl | rfl <;> decide) ⟨.str ⟨#[x.cps[i]]⟩,H,I1,⟨_,rfl⟩,⟨rfl,_,hx,rfl⟩,st',fun b hb=>(hf b hb).1⟩⟩
    rcases hty with rfl | rfl
    . exact wpAny_pyNext_ascii_item st hx fin
    . exact wpAny_pyNext_wide_item st hx fin
  done:=by
    intro X hP hw hK hc i pins s σ H E I hf st hg
    subst hP hw hK
    obtain ⟨f0,f1,f2,f3,f4,f5⟩:=hf it (by simp)
    have hge:x.cps.size<=i:=hg
    have hx:x.cps[i]? = none:=by simp [hge]
    rcases hty with rfl | rfl
    . exact wpAny_pyNext_ascii_end (I.ok.hd hc) st hx fun h' eb=>⟨rfl,I.turned (t':=s.toks) (fun b o hb e=>eb b o hb e) f0 f1 f3 f4 f5⟩
    . exact wpAny_pyNext_wide_end (I.ok.hd hc) st hx fun h' eb=>⟨rfl,I.turned (t':=s.toks) (fun b o hb e=>eb b o hb e) f0 f1 f3 f4 f5⟩
  self:=fun _ _ _ _ _ st h=>by
    rcases hty with rfl | rfl
    . exact wpAny_pyIter_striter_ascii st h
    . exact wpAny_pyIter_striter_wide st h
end L2
namespace L2
open PySem PySem.Spec PyProof.Rows
theorem compLoop_any {prog:Program} {w:World} {A:Around} {R:Result->Shared->Prop} {s:Shared} {elt target iter:Expr} {ifs:List Expr} {scope:Scope} {pos:Pos} {it acc:Value} {env:Env} (I:Nat->Shared->Prop)
    (turn : ∀ n s,I n s->wpAny (model prog w) A (pyNext it) (fun r s₁=>match r with
      | none=>R (.ok .next) s₁
      | some v => wpAny (model prog w) A (letOwnedTupleGo target it v) (fun _ s₁'=>wpAny (model prog w) A (assign target env v) (fun _ s₂ =>
          wpAny (model prog w) A (forIn ifs true fun c r=>if r=true then do let ok <- isTrue c env (eval c env);pure (ForInStep.yield ok) else pure (ForInStep.yield r)) (fun ok s₃ =>
            if ok=true then wpAny (model prog w) A (eval elt env) (fun x s₄ =>
              wpAny (model prog w) A (call (.builtin "list.append") [acc,x]) (fun _ s₅=>∃ m,m < n/\I m s₅) (fun _ _=>False) s₄) (fun _ _=>False) s₃
            else ∃ m,m < n/\I m s₃) (fun _ _=>False) s₂) (fun _ _=>False) s₁') (fun _ _=>False) s₁) (fun _ _=>False) s)
    (n:Nat) (h:I n s) :
    codeAny (model prog w) A (.compLoop (.ListComp elt [⟨target,iter,ifs,0⟩] scope pos) 0 it acc env) R s:=by
  refine codeAny_loop rfl I (fun n s hI=>?_) n h
  show wpAny _ A ((compTurn (.ListComp elt [⟨target,iter,ifs,0⟩] scope pos) 0 it acc env).onRaise (fun x=>do noteFrame x env;theTreesLotGoes x)) _ _ s
  refine wpAny_noted ?_
  rw [compTurn_list]
  refine wpAny_bind (wpAny_standAt (wpAny_bind (wpAny_mono (turn n s hI) (fun r s₁ h₁=>?_) fun _ _ h'=>h'.elim)))
  cases r with
  | none=>exact wpAny_pure h₁
  | some v =>
    refine wpAny_bind (wpAny_mono h₁ (fun _ s₁' h₁'=>?_) fun _ _ h'=>h'.elim)
    refine wpAny_bind (wpAny_mono h₁' (fun _ s₂ h₂=>wpAny_bind (wpAny_mono h₂ (fun ok s₃ h₃=>?_) fun _ _ h'=>h'.elim)) fun _ _ h'=>h'.elim)
    cases ok with
    | false=>exact wpAny_pure ⟨rfl,h₃⟩
    | true =>
      exact wpAny_bind (wpAny_bind (wpAny_mono h₃ (fun x s₄ h₄=>wpAny_bind (wpAny_mono h₄ (fun _ s₅ h₅=>wpAny_pure (wpAny_pure ⟨rfl,h₅⟩)) fun _ _ h'=>h'.elim)) fun _ _ h'=>h'.elim))
noncomputable def Cx.comp (X:Cx) (scope:Scope) (cl:List (Str × Addr)) (N:List Str) (pins:List (Addr × Obj)) (s:Shared) (H:Hp) (fp:List Addr):Cx where
  prog:=X.prog
  w := X.w
  K := X.K
  mg:=X.mg
  base:=X.base
  A := X.A
  N := N
  s₀:=s
  H₀:=H
  env:=compEnvC scope cl s.heap.objs.size X.env
  outer:=X.stack
  stack:=X.stack
  ex:=fp
  fn:=fun _=>false
  calm:=X.calm
  pn:=X.pn++pins
  xe:=fun _ _=>False
noncomputable def compStart (nt:Nat) (frs:List (Str × Nat)) (σ:St):St:=List.replicate nt none++frs.map fun p=>(σ[p.2]?).join
structure CompScope (X:Cx) (scope:Scope) (cl:List (Str × Addr)) (ts:List Str) (frs:List (Str × Nat)):Prop where
  clos:closureFor scope X.env=pure cl
  kind:scope.kind=.function
  nocell:∀ y∈scope.names,y.2≠.cell
  names:∀ y∈scope.names,y.2=.local->scope.names.lookup y.1=some .local
  sub:∀ p∈cl,X.env.cells.lookup p.1=some p.2
  has:∀ p∈(relabel scope X.env).names,p.2=.cell\/p.2=.free->(cl.lookup p.1).isSome=true
  out:∀ p∈frs,X.N[p.2]? = some p.1/\(X.env.kindOf p.1=some .cell\/X.env.kindOf p.1=some .free)/\((relabel scope X.env).names.lookup p.1=some .cell\/(relabel scope X.env).names.lookup p.1=some .free)/\(cl.lookup p.1).isSome=true
section
variable {X:Cx} {scope:Scope} {cl:List (Str × Addr)} {ts:List Str} {frs':List (Str × Nat)} {pins:List (Addr × Obj)} {σ:St} {H:Hp} {s:Shared} {fp:List Addr}
theorem CompScope.subL (S:CompScope X scope cl ts frs') {x:Str} {c:Addr} (h:cl.lookup x=some c):X.env.cells.lookup x=some c:=S.sub (x,c) (PySem.mem_of_lookup h)
theorem CompScope.inv (S:CompScope X scope cl ts frs') (I:Inv X pins σ H s) (hf:∀ b∈fp,FpOk X pins H b) (hlt:∀ b∈fp,b < s.heap.objs.size) {h₁:Heap} {tk:Nat} {m:Str->Option Value} (hns:h₁.Ns s.heap.objs.size m)
    (hk:∀ b o,s.heap.get? b=some o->h₁.get? b=some o):Inv (X.comp scope cl (ts++frs'.map (·.1)) pins s H fp) [] (compStart ts.length frs' σ) H { s with heap:=h₁,toks:=tk }:=by
  have hC:∀ b o,s.heap.get? b=some o->b≠s.heap.objs.size:=fun b o e=>Nat.ne_of_lt (Heap.lt_size e)
  have hcell:∀ x c,cl.lookup x=some c->∃ v,h₁.IsCell c v:=fun x c e=>by
    obtain ⟨v,o,ho,hd⟩:=I.cell x c (S.subL e)
    exact ⟨v,o,hk c o ho,hd⟩
  refine ⟨⟨I.ok.mod,?_,I.ok.glob,I.ok.blt,Nat.le_refl _,fun x y c h1 h2=>I.ok.inj x y c (S.subL h1) (S.subL h2),fun x hx=>?_,fun x c z=>(by cases z),I.ok.hd,I.ok.frames,.inl rfl,fun b hb=>⟨Nat.ne_of_lt (hlt b hb),fun x c e=>?_⟩,I.bs,Nat.le_trans I.ok.bsz I.sz,fun b o e hb=>?_,fun b hb z=>?_,I.stack,I.stkFree⟩,
    rfl,I.bare,Un.kept hk,⟨m,hns,fun i x v h1 h2 h3=>?_⟩,hcell,I.hok.fresh (Nat.le_refl _),fun x c e=>I.freeC x c (S.subL e),fun p hp=>?_,I.hok.kept hk,?_⟩
  . exact S.kind
  . have hx':(relabel scope X.env).names.lookup x=some .cell\/(relabel scope X.env).names.lookup x=some .free:=hx
    have:(cl.lookup x).isSome=true:=by
      rcases hx' with e | e
      . exact S.has (x,.cell) (PySem.mem_of_lookup e) (.inl rfl)
      . exact S.has (x,.free) (PySem.mem_of_lookup e) (.inr rfl)
    exact Option.isSome_iff_exists.mp this
  . exact (hf b hb).2.2.2.2.1 x c (S.subL e)
  . obtain ⟨_,_,_,h4,_⟩:=hf b hb
    rcases h4 with h4 | h4
    . exact I.ok.noex b o e h4
    . exact absurd (Nat.lt_of_lt_of_le (Heap.lt_size e) (Nat.le_trans I.ok.bsz h4)) (Nat.lt_irrefl _)
  . obtain ⟨_,h2,h3,_⟩:=hf b hb
    rcases List.mem_cons.mp (I.stkSub b z) with e | e
    . exact h2 e
    . exact h3 e
  . have hi : ts.length<=i:=by
      by_cases hi:ts.length<=i
      . exact hi
      . have:(compStart ts.length frs' σ)[i]? = some none:=by
          unfold compStart
          rw [List.getElem?_append_left (by simp;lia),List.getElem?_replicate,if_pos (by lia)]
        rw [this] at h2;cases h2
    obtain ⟨p,hp,e1,e2⟩:∃ p∈frs',p.1=x/\(σ[p.2]?).join=some v:=by
      have h1':(ts++frs'.map (·.1))[i]? = some x:=h1
      have h2':(compStart ts.length frs' σ)[i]? = some (some v):=h2
      unfold compStart at h2'
      rw [List.getElem?_append_right hi,List.getElem?_map] at h1'
      rw [List.getElem?_append_right (by simpa using hi),List.getElem?_map,List.length_replicate] at h2'
      cases e:frs'[i - ts.length]? with
      | none=>rw [e] at h1';cases h1'
      | some p =>
        rw [e] at h1' h2'
        exact ⟨p,List.mem_of_getElem? e,Option.some.inj h1',Option.some.inj h2'⟩
    obtain ⟨o1,o2,o3,o4⟩:=S.out p hp
    rw [e1] at o1 o2 o3 o4
    have e3:σ[p.2]? = some (some v):=by
      cases e:σ[p.2]? with
      | none=>rw [e] at e2;cases e2
      | some q=>rw [e] at e2;exact congrArg some e2
    obtain ⟨m',_,hl⟩:=I.loc
    have hv:Vis X.env.scope x:=by
      rcases o2 with o2 | o2
      . exact .inr (.inl o2)
      . exact .inr (.inr o2)
    obtain ⟨u,r,l⟩:=hl p.2 x v o1 e3 hv
    refine ⟨u,r,.inr ⟨o3,?_⟩⟩
    obtain ⟨c,hc⟩:=Option.isSome_iff_exists.mp o4
    rcases l with ⟨k,_⟩ | ⟨_,c',e,ob,ho,hd⟩
    . rcases o2 with o2 | o2 <;> (rw [o2] at k;cases k)
    . have:c'=c:=by have:=S.subL hc;rw [this] at e;exact (Option.some.inj e).symm
      subst this
      exact ⟨c',hc,ob,hk c' ob ho,hd⟩
  . have hp':p∈X.pn++pins:=by
      have:p∈(X.pn++pins)++[]:=hp
      rwa [List.append_nil] at this
    obtain ⟨e,n,ne,nf,d⟩:=I.pin p hp'
    refine ⟨hk _ _ e,n,hC _ _ e,fun z=>?_,d⟩
    rcases List.mem_cons.mp (I.stkSub _ z) with e' | e'
    . exact ne e'
    . exact nf e'
  . show (compStart ts.length frs' σ).length=(ts++frs'.map (·.1)).length
    unfold compStart
    simp
theorem CompScope.after (I:Inv X pins σ H s) (hf:∀ b∈fp,FpOk X pins H b) {N:List Str} {σ':St} {H':Hp} {s':Shared} (J:Inv (X.comp scope cl N pins s H fp) [] σ' H' s') {h':Heap} (hs:Heap.SameBut s.heap.objs.size s'.heap h') :
    Inv X pins σ H' { s' with heap:=h' }:=by
  have hC:∀ b o,s.heap.get? b=some o->b≠s.heap.objs.size:=fun b o e=>Nat.ne_of_lt (Heap.lt_size e)
  have fr:H' s.heap.objs.size=none:=J.free
  refine I.call' (s':={ s' with heap:=h' }) (ch:=fp) J.os ?_ ?_ J.bare fun b hb=>?_
  . have u:=J.base
    exact ⟨fun b o e n h1 h2=>(hs.2 b (hC b o e)).trans (u.keep b o e n h1 h2),fun b o e n h1 h2=>by
        obtain ⟨sl,q⟩:=u.slot b o e n h1 h2
        exact ⟨sl,(hs.2 b (hC b o e)).trans q⟩,u.free,fun b o e h2=>by
        obtain ⟨o',q⟩:=u.there b o e h2
        exact ⟨o',(hs.2 b (hC b o e)).trans q⟩,u.tups,u.frzs,u.tbls⟩
  . intro b ob e
    refine (J.hok b ob e).stay (fun c w' hc q=>(hs.2 c ?_).trans q) (fun _ q=>q) fun _ _ q=>q
    rintro rfl
    rcases hc with hc | hc
    . rw [<- hc,fr] at e;cases e
    . rw [fr] at hc;cases hc
  . obtain ⟨h1,h2,h3,h4,h5,h6⟩:=hf b hb
    exact ⟨h4,h2,h5,h6⟩
end
noncomputable def PIfs (X:Cx) (ifs:List Expr) (t:TT):Prop :=
  ∀ (pins:List (Addr × Obj)) (s:Shared) (σ:St) (H:Hp) (Q:Bool->Hp->Prop),Inv X pins σ H s->t σ H Q ->
    wpAny (model X.prog X.w) X.A (forIn ifs true fun c r=>if r=true then do let ok <- isTrue c X.env (eval c X.env);pure (ForInStep.yield ok) else pure (ForInStep.yield r)) (TP X pins σ Q) X.xe s
noncomputable def tTrue:TT:=fun _ H Q=>Q true H
theorem pifs_nil {X:Cx}:PIfs X [] tTrue:=fun _ _ _ H _ I h=>wpAny_tests_nil ⟨H,I,h⟩
noncomputable def tComp (nt:Nat) (frs:List (Str × Nat)) (wi:TI) (g:TG) (tt:TT) (te:TE):TE:=fun σ H Q=>wi σ H fun J H1=>∀ l,H1 l=none->∃ W:Nat->Nat->St->Hp->Prop,(∃ m,W 0 m (compStart nt frs σ) (upd H1 l (.lst []))) /\
  ∀ i m τ H,W i m τ H->(J.stop i H/\Q (.ref l) H)\/(J.go i H/\∀ x H',J.yld i H x H'->g x τ H' fun τ2 H2=>tt τ2 H2 fun ok H3 =>
    if ok=true then te τ2 H3 fun y H4=>∃ ys,H4 l=some (.lst ys)/\ys.length < sizeLine/\∃ m',m' < m/\W (i + 1) m' τ2 (upd H4 l (.lst (ys++[y]))) else ∃ m',m' < m/\W (i + 1) m' τ2 H3)
end L2
namespace L2
open PySem PySem.Spec PyProof.Rows PySem.Builtin.Str
noncomputable def cutS (z:Str) (lo hi:Option Int):Str:=⟨((z.cps.toList.drop (HT.sIx z.cps.toList.length 0 lo)).take (HT.sIx z.cps.toList.length z.cps.toList.length hi - HT.sIx z.cps.toList.length 0 lo)).toArray⟩
theorem clipS_eq (v:Int) (n d:Nat):max 0 (min (if v < 0 then v + (n:Int) else v) (n:Int))=((HT.sIx n d (some v):Nat):Int):=by
  rw [<- HT.clip_eq v n d]
  split <;> lia
theorem indices_eq (lo hi:Option Int) (n:Nat):strSliceIndices lo hi 1 n=(List.range (HT.sIx n n hi - HT.sIx n 0 lo)).map fun k=>HT.sIx n 0 lo + k:=by
  have h1:∀ (a b:Nat),sliceRange (a:Int) (b:Int) 1=(List.range (b - a)).map fun k=>a + k:=by
    intro a b
    unfold sliceRange
    simp only [show (1:Int) > 0 by decide,if_true]
    have e:(if (a:Int) < (b:Int) then ((b:Int) - (a:Int) + 1 - 1) / 1 else 0).toNat=b - a:=by
      rw [Int.ediv_one]
      split <;> lia
    rw [e]
    refine List.map_congr_left fun k _=>?_
    lia
  unfold strSliceIndices
  simp only [show (1:Int) > 0 by decide,if_true]
  cases lo with
  | none =>
    cases hi with
    | none=>exact h1 0 n
    | some v =>
      dsimp only
      rw [clipS_eq v n n]
      exact h1 0 _
  | some u =>
    cases hi with
    | none =>
      dsimp only
      rw [clipS_eq u n 0]
      exact h1 _ n
    | some v =>
      dsimp only
      rw [clipS_eq u n 0,clipS_eq v n n]
      exact h1 _ _
theorem pick_range (l:List Nat) (a k:Nat) (h:a + k<=l.length):((List.range k).map fun i=>a + i).filterMap (fun i=>l[i]?)=(l.drop a).take k:=by
  induction k generalizing a with
  | zero=>simp
  | succ k ih =>
    rw [List.range_succ_eq_map,List.map_cons,List.filterMap_cons]
    have ha:a < l.length:=by lia
    simp only [Nat.add_zero]
    rw [List.getElem?_eq_getElem ha]
    dsimp only
    rw [List.drop_eq_getElem_cons ha,List.take_succ_cons]
    congr 1
    rw [List.map_map,<- ih (a + 1) (by lia)]
    congr 1
    refine List.map_congr_left fun i _=>?_
    show a + (i + 1)=a + 1 + i
    lia
theorem slice_eq (x:Str) (lo hi:Option Int):Txt.slice x lo hi=cutS x lo hi:=by
  unfold Txt.slice cutS
  have hn:x.length=x.cps.toList.length:=by show x.cps.size=_;simp
  have ha:=HT.sIx_le x.cps.toList.length 0 (Nat.zero_le _) lo
  have hb:=HT.sIx_le x.cps.toList.length x.cps.toList.length (Nat.le_refl _) hi
  rw [hn,indices_eq]
  generalize HT.sIx x.cps.toList.length 0 lo=a at ha ⊢
  generalize HT.sIx x.cps.toList.length x.cps.toList.length hi=b at hb ⊢
  have hp:=pick_range x.cps.toList a (b - a)
  split
  . rename_i h
    simp only [List.length_map,List.length_range,Bool.and_eq_true,beq_iff_eq] at h
    have h2:b - a=x.cps.toList.length:=h.2
    by_cases h0:x.cps.toList.length=0
    . have:x.cps=#[]:=by
        apply Array.eq_empty_of_size_eq_zero;simpa using h0
      cases x;simp_all
    . have ea:a=0:=by lia
      subst ea
      rw [List.drop_zero,List.take_of_length_le (by lia)]
  . congr 1
    by_cases hab:a<=b
    . rw [<- hp (by lia)]
      congr 1
      simp only [Array.getElem?_toList]
    . have:b - a=0:=by lia
      rw [this];simp
section
variable {X:Cx}
noncomputable def rSlS:V->Option Int->Option Int->Hp->VK->Prop:=fun x lo hi H Q=>∃ z,x=.str z/\z.length<=sizeLine/\Q (.str (cutS z lo hi)) H
theorem sl_str:SlR X rSlS:=by
  intro pins s σ H x v vl vu lo hi sl Q I rx hs pl pu h
  obtain ⟨z,rfl,hz,q⟩:=h
  obtain ⟨t,rfl⟩:=rx
  rw [<- slice_eq] at q
  refine ⟨"str",_,F.slot_str_getitem.lookup,typeIs_str _ _ _,?_⟩
  obtain ⟨o,ho,hc,hd⟩:=hs
  have key:∀ (l u:Option (Int × Tok)),vl=partValue l->vu=partValue u->lo=l.map (·.1)->hi=u.map (·.1)->wpAny (model X.prog X.w) X.A (getItem (.str z t) (.ref sl)) (EP X pins σ Q) X.xe s:=by
    intro l u e1 e2 e3 e4
    subst e1 e2 e3 e4
    refine wpAny_getItem_str_slice (l:=l) (u:=u) (st:=none) ⟨o,ho,hc,hd⟩ rfl (post_val_or_str ⟨Nat.le_trans (Txt.slice_le z _ _) hz,fun t' k=>?_⟩)
    exact ⟨.str _,H,I.tok k,⟨_,rfl⟩,q⟩
  cases pl with
  | none =>
    cases pu with
    | none=>exact key none none rfl rfl rfl rfl
    | int j u=>exact key none (some (j,u)) rfl rfl rfl rfl
  | int i t =>
    cases pu with
    | none=>exact key (some (i,t)) none rfl rfl rfl rfl
    | int j u=>exact key (some (i,t)) (some (j,u)) rfl rfl rfl rfl
theorem call_all (hc:X.calm=true):CallR X (.builtin "all") (fun xs H Q=>∃ (p:Addr) (bs:List Bool),xs=[.ref p]/\SqL X.K H p (bs.map V.bl)/\Q (.bl (bs.all id)) H):=by
  intro pins s σ H xs us Q I r h
  obtain ⟨p,bs,rfl,hl,q⟩:=h
  obtain ⟨u,rfl,ru⟩:=r.one
  cases ru
  obtain ⟨its,rv,pl,hz⟩:=I.list hl
  refine call_all_walk (wpAny_pyIter_list pl.isList ?_)
  have hne:p≠s.heap.objs.size:=Nat.ne_of_lt (by obtain ⟨o,n,e,_⟩:=pl;exact Heap.lt_size e)
  refine ⟨s.heap.objs.size,_,_,_,_,_,fun i=>bs.getD i true,rfl,Walks.list (show X.A.in1.handled=none from I.ok.hd hc) s.heap.objs.size p hne its.toArray,⟨⟨_,Heap.get?_push_size _ rfl,rfl,rfl⟩,pl.isList.at fun o e=>Heap.get?_push_of_some _ e⟩,?_,fun h' tk hk=>?_⟩
  . intro i v s' Q' E' hv hQ'
    have hv':its[i]? = some v:=by simpa using hv
    cases e:(bs.map V.bl)[i]? with
    | none =>
      have:=rv.none_of e
      rw [this] at hv';cases hv'
    | some y =>
      obtain ⟨u,hu,ru⟩:=rv.get e
      rw [hv'] at hu;cases hu
      rw [List.getElem?_map] at e
      cases eb:bs[i]? with
      | none=>rw [eb] at e;cases e
      | some b =>
        rw [eb] at e
        cases e
        cases ru
        have e9:bs.getD i true=b:=by rw [List.getD_eq_getElem?_getD,eb];rfl
        dsimp only at hQ'
        rw [e9] at hQ'
        exact wpAny_truthy_bool hQ'
  . have e:(List.range its.toArray.size).all (fun i=>bs.getD i true)=bs.all id:=by
      have hlen:its.toArray.size=bs.length:=by have:=rv.length;simp at this;simp;lia
      rw [hlen,Bool.eq_iff_iff,List.all_eq_true,List.all_eq_true]
      constructor
      . intro h b hb
        obtain ⟨i,hi,rfl⟩:=List.mem_iff_getElem.mp hb
        have:=h i (List.mem_range.mpr hi)
        rw [List.getD_eq_getElem?_getD,List.getElem?_eq_getElem hi] at this
        exact this
      . intro h i hi
        have hi:=List.mem_range.mp hi
        rw [List.getD_eq_getElem?_getD,List.getElem?_eq_getElem hi]
        exact h _ (List.getElem_mem hi)
    rw [e]
    exact ⟨.bl _,H,I.kept (t':=tk) fun b o e=>hk b o (by simp;exact Nat.ne_of_lt (Heap.lt_size e)) (Heap.get?_push_of_some _ e),rfl,q⟩
end
end L2
namespace L2
open PySem PySem.Spec PyProof.Rows PySem.Builtin.Str
noncomputable def Sq (K:PySem.W.Frag) (H:Hp) (a:Addr) (xs:List V):Prop:=SqL K H a xs\/SqT K H a xs
noncomputable def occ (y x:Str):Bool:=!(occurrences y x 0 y.length 1).isEmpty
noncomputable def uAdd (K:PySem.W.Frag):R2:=fun x y H Q=>match x,y with
  | .int i,.int j=>Q (.int (i + j)) H
  | .str i,.str j=>i.length + j.length<=sizeLine/\Q (.str (i++j)) H
  | .ref a,.ref b=>rCat (.ref a) (.ref b) H Q\/rCatT K (.ref a) (.ref b) H Q
  | _,_=>False
noncomputable def uSub:R2:=fun x y H Q=>match x,y with
  | .int i,.int j=>Q (.int (i - j)) H
  | _,_=>False
noncomputable def uDiv:R2:=fun x y H Q=>match x,y with
  | .int i,.int j=>CDiv i j/\Q (.int (i / j)) H
  | _,_=>False
noncomputable def uMod:R2:=fun x y H Q=>match x,y with
  | .int i,.int j=>0 < j/\Q (.int (i % j)) H
  | _,_=>False
noncomputable def uPow:R2:=fun x y H Q=>match x,y with
  | .int i,.int j=>CPow i j/\Q (.int (i ^ j.toNat)) H
  | _,_=>False
noncomputable def uLt:R2:=fun x y H Q=>match x,y with
  | .int i,.int j=>Q (.bl (decide (i < j))) H
  | .str i,.str j=>Q (.bl (decide (i.cps.toList < j.cps.toList))) H
  | _,_=>False
noncomputable def uLe:R2:=fun x y H Q=>match x,y with
  | .int i,.int j=>Q (.bl (decide (i<=j))) H
  | _,_=>False
noncomputable def uGt:R2:=fun x y H Q=>match x,y with
  | .int i,.int j=>Q (.bl (decide (j < i))) H
  | _,_=>False
noncomputable def uGe:R2:=fun x y H Q=>match x,y with
  | .int i,.int j=>Q (.bl (decide (j<=i))) H
  | _,_=>False
noncomputable def uEq:R2:=fun x y H Q=>match x,y with
  | .int i,.int j=>Q (.bl (decide (i=j))) H
  | .str i,.str j=>Q (.bl (decide (i=j))) H
  | .bl i,.bl j=>Q (.bl (decide (i=j))) H
  | .non,.non=>Q (.bl true) H
  | .non,.str _=>Q (.bl false) H
  | .str _,.non=>Q (.bl false) H
  | _,_=>False
noncomputable def uNe:R2:=fun x y H Q=>match x,y with
  | .int i,.int j=>Q (.bl (!decide (i=j))) H
  | .str i,.str j=>Q (.bl (!decide (i=j))) H
  | .bl i,.bl j=>Q (.bl (!decide (i=j))) H
  | .non,.non=>Q (.bl false) H
  | .non,.str _=>Q (.bl true) H
  | .str _,.non=>Q (.bl true) H
  | _,_=>False
noncomputable def uIn (K:PySem.W.Frag):R2:=fun x y H Q=>match x,y with
  | .str i,.str j=>Q (.bl (occ j i)) H
  | x,.ref p=>∃ xs,Sq K H p xs/\flatV x=true/\xs.all flatV=true/\Q (.bl (inV x xs)) H
  | _,_=>False
noncomputable def uNin (K:PySem.W.Frag):R2:=fun x y H Q=>match x,y with
  | .str i,.str j=>Q (.bl (!occ j i)) H
  | x,.ref p=>∃ xs,Sq K H p xs/\flatV x=true/\xs.all flatV=true/\Q (.bl (!inV x xs)) H
  | _,_=>False
noncomputable def uIx (K:PySem.W.Frag):R2:=fun x y H Q=>match x,y with
  | .str z,.int i=>z.length<=sizeLine/\∃ c,atI z.cps.toList i=some c/\Q (.str ⟨#[c]⟩) H
  | .ref p,.int i=>∃ xs v,Sq K H p xs/\atI xs i=some v/\Q v H
  | _,_=>False
noncomputable def uLen (K:PySem.W.Frag):List V->Hp->VK->Prop:=fun xs H Q=>match xs with
  | [.str z]=>z.length<=sizeLine/\Q (.int z.length) H
  | [.ref p]=>∃ ys,Sq K H p ys/\Q (.int ys.length) H
  | _=>False
noncomputable def uMax:List V->Hp->VK->Prop:=fun xs H Q=>match xs with
  | [.int i,.int j]=>Q (.int (max i j)) H
  | _=>False
noncomputable def uMin:List V->Hp->VK->Prop:=fun xs H Q=>match xs with
  | [.int i,.int j]=>Q (.int (min i j)) H
  | _=>False
noncomputable def uInt:List V->Hp->VK->Prop:=fun xs H Q=>match xs with
  | [.int i]=>Q (.int i) H
  | [.bl k]=>Q (.int (if k then 1 else 0)) H
  | _=>False
section
variable {X:Cx}
theorem OpR.imp {f:Value->Value->Sem Value} {r r':R2} (h:OpR X f r) (hi:∀ x y H Q,r' x y H Q->r x y H Q):OpR X f r':=fun pins s σ H x y v u Q I rx ry q=>h pins s σ H x y v u Q I rx ry (hi _ _ _ _ q)
theorem CallR.imp {f:Value} {r r':List V->Hp->VK->Prop} (h:CallR X f r) (hi:∀ xs H Q,r' xs H Q->r xs H Q):CallR X f r':=fun pins s σ H xs us Q I rx q=>h pins s σ H xs us Q I rx (hi _ _ _ q)
theorem o_sub:OpR X (binaryOp .Sub) uSub:=op_sub.imp fun x y H Q q=>by
  unfold uSub at q
  split at q
  . exact ⟨_,_,rfl,rfl,q⟩
  . exact q.elim
theorem o_fdiv:OpR X (binaryOp .FloorDiv) uDiv:=op_fdiv.imp fun x y H Q q=>by
  unfold uDiv at q
  split at q
  . exact ⟨_,_,rfl,rfl,q.1,q.2⟩
  . exact q.elim
theorem o_mod:OpR X (binaryOp .Mod) uMod:=op_mod.imp fun x y H Q q=>by
  unfold uMod at q
  split at q
  . exact ⟨_,_,rfl,rfl,q.1,q.2⟩
  . exact q.elim
theorem o_pow:OpR X (binaryOp .Pow) uPow:=op_pow.imp fun x y H Q q=>by
  unfold uPow at q
  split at q
  . exact ⟨_,_,rfl,rfl,q.1,q.2⟩
  . exact q.elim
theorem o_lt:OpR X (compareOp .Lt) uLt:=(op_lt.or op_lt_str).imp fun x y H Q q=>by
  unfold uLt at q
  split at q
  . exact .inl ⟨_,_,rfl,rfl,q⟩
  . exact .inr ⟨_,_,rfl,rfl,q⟩
  . exact q.elim
theorem o_le:OpR X (compareOp .LtE) uLe:=op_le.imp fun x y H Q q=>by
  unfold uLe at q
  split at q
  . exact ⟨_,_,rfl,rfl,q⟩
  . exact q.elim
theorem o_gt:OpR X (compareOp .Gt) uGt:=op_gt.imp fun x y H Q q=>by
  unfold uGt at q
  split at q
  . exact ⟨_,_,rfl,rfl,q⟩
  . exact q.elim
theorem o_ge:OpR X (compareOp .GtE) uGe:=op_ge.imp fun x y H Q q=>by
  unfold uGe at q
  split at q
  . exact ⟨_,_,rfl,rfl,q⟩
  . exact q.elim
theorem o_eq:OpR X (compareOp .Eq) uEq:=op_eq.imp fun x y H Q q=>by
  unfold uEq at q
  split at q <;> first | exact q.elim | (refine ⟨rfl,?_⟩;simpa using q)
theorem o_ne:OpR X (compareOp .NotEq) uNe:=op_ne.imp fun x y H Q q=>by
  unfold uNe at q
  split at q <;> first | exact q.elim | (refine ⟨rfl,?_⟩;simpa using q)
theorem o_in:OpR X (compareOp .In) (uIn X.K):=(op_in_str.or op_in_seq).imp fun x y H Q q=>by
  unfold uIn at q
  split at q
  . exact .inl ⟨_,_,rfl,rfl,q⟩
  . obtain ⟨xs,h1,h2,h3,h4⟩:=q
    exact .inr ⟨_,xs,rfl,h1,h2,h3,h4⟩
  . exact q.elim
theorem o_nin:OpR X (compareOp .NotIn) (uNin X.K):=(op_notIn_str.or op_notIn_seq).imp fun x y H Q q=>by
  unfold uNin at q
  split at q
  . exact .inl ⟨_,_,rfl,rfl,q⟩
  . obtain ⟨xs,h1,h2,h3,h4⟩:=q
    exact .inr ⟨_,xs,rfl,h1,h2,h3,h4⟩
  . exact q.elim
theorem o_ix:IxR X (uIx X.K):=by
  intro value slice pins s σ H x y v u Q I rx ry q hs
  refine ix_seq value slice pins s σ H x y v u Q I rx ry ?_ hs
  unfold uIx at q
  split at q
  . obtain ⟨h1,c,h2,h3⟩:=q
    exact .inr (.inr ⟨_,_,c,rfl,rfl,h1,h2,h3⟩)
  . obtain ⟨xs,v,h1 | h1,h2,h3⟩:=q
    . exact .inl ⟨_,xs,_,v,rfl,rfl,h1,h2,h3⟩
    . exact .inr (.inl ⟨_,xs,_,v,rfl,rfl,h1,h2,h3⟩)
  . exact q.elim
theorem c_len:CallR X (.builtin "len") (uLen X.K):=(call_len_str.or call_len_seq).imp fun xs H Q q=>by
  unfold uLen at q
  split at q
  . exact .inl ⟨_,rfl,q.1,q.2⟩
  . obtain ⟨ys,h1,h2⟩:=q
    exact .inr ⟨_,ys,rfl,h1,h2⟩
  . exact q.elim
theorem c_max (hc:X.calm=true):CallR X (.builtin "max") uMax:=(call_max2 hc).imp fun xs H Q q=>by
  unfold uMax at q
  split at q
  . rename_i i j
    refine ⟨i,j,rfl,?_⟩
    have e:(if j > i then j else i)=max i j:=by split <;> lia
    rw [e];exact q
  . exact q.elim
theorem c_min (hc:X.calm=true):CallR X (.builtin "min") uMin:=(call_min2 hc).imp fun xs H Q q=>by
  unfold uMin at q
  split at q
  . rename_i i j
    refine ⟨i,j,rfl,?_⟩
    have e:(if j < i then j else i)=min i j:=by split <;> lia
    rw [e];exact q
  . exact q.elim
theorem c_int:CallR X (.type "int") uInt:=call_int1.imp fun xs H Q q=>by
  unfold uInt at q
  split at q
  . exact .inl ⟨_,rfl,q⟩
  . exact .inr ⟨_,rfl,q⟩
  . exact q.elim
theorem pe_gv {x:Str} {v:V} {pos:Pos} (hg:Gl X x) (h:∃ u,X.mg x=some u/\RelV v u) (hd:(x == ("__debug__":Str))=false:=by decide):PE X (.Name x pos) (tC v):=by
  obtain ⟨u,h1,h2⟩:=h
  exact pe_glob hg h1 h2 hd
theorem pe_ty {x:Str} {T:String} {pos:Pos} (hg:Gl X x) (hm:X.mg x=none) (hv:bootBuiltins x=some (.type T)) (hn:x≠"__name__":=by decide) (hd:(x == ("__debug__":Str))=false:=by decide):PE X (.Name x pos) (tC (.ty T)):=pe_bltn hg hm hv rfl hn hd
end
end L2
namespace L2
open PySem PySem.Spec PyProof.Rows
end L2
namespace L2
open PySem PySem.Spec PyProof.Rows
noncomputable def uRng1:List V->Hp->(It->Hp->Prop)->Prop:=fun vs H R=>match vs with
  | [.int j]=>-(2 ^ 62)<=j/\j < 2 ^ 62/\R (Itr 0 j.toNat) H
  | _=>False
noncomputable def jRng1 (ta:TA):TI:=fun σ H R=>ta σ H fun vs H1=>uRng1 vs H1 R
noncomputable def uList (K:PySem.W.Frag):V->Hp->(It->Hp->Prop)->Prop:=fun x H R=>match x with
  | .ref a=>(∃ xs,SqL K H a xs)/\R (Itl K a) H
  | _=>False
noncomputable def uTupI (K:PySem.W.Frag):V->Hp->(It->Hp->Prop)->Prop:=fun x H R=>match x with
  | .ref a=>(∃ xs,SqT K H a xs)/\R (Itt K a) H
  | _=>False
noncomputable def uStrI:V->Hp->(It->Hp->Prop)->Prop:=fun x H R=>match x with
  | .str z=>R (Its z) H
  | _=>False
noncomputable def jOf (u:V->Hp->(It->Hp->Prop)->Prop) (te:TE):TI:=fun σ H R=>te σ H fun x H1=>u x H1 R
section
variable {X:Cx} {tg:Expr} {a b:Expr} {p pos:Pos} {ta:TA} {te:TE}
theorem pj_range1 (hg:Gl X "range") (hm:X.mg "range"=none) (ha:PA X [a] ta) (hs:starEach [a] X.env=[(false,eval a X.env)]:=by rfl):PI X tg (.Call (.Name "range" p) [a] [] pos) (jRng1 ta):=by
  intro pins s σ H R I h
  refine Call_ (ld_blt I hg hm boot_range (PyProof.Rows.callWith_type1 (thn (ha pos pins s σ H _ I h) fun us s1 ⟨vs,H1,I1,r1,q1⟩=>?_) hs rfl))
  unfold uRng1 at q1
  dsimp only at q1
  split at q1
  . obtain ⟨q1,q2,q⟩:=q1
    cases r1 with
    | cons r rr =>
      cases rr
      obtain ⟨t,rfl⟩:=r
      exact call_range_1 (range_it I1 (by lia) (by lia) q1 q2 (by simpa using q))
  . exact q1.elim
theorem pj_str (hl:PE X a te):PI X tg a (jOf uStrI te):=by
  intro pins s σ H R I h
  refine thn (hl pins s σ H _ I h) fun v s1 h_q=>?_
  obtain ⟨x,H1,I1,r1,q1⟩:=h_q
  cases x with
  | str z =>
    have q:R (Its z) H1:=q1
    obtain ⟨t,rfl⟩:=r1
    have fp:∀ b∈[s1.heap.objs.size],FpOk X pins H1 b:=fun b hb=>by
      have e:b=s1.heap.objs.size:=by simpa using hb
      subst e
      exact I1.fpOk (Nat.le_refl _) (I1.hok.fresh (Nat.le_refl _))
    cases ha:z.cps.all (· < 128)
    . refine wpAny_pyIter_wide ha ?_
      exact ⟨s1.heap.objs.size,[s1.heap.objs.size],_,_,H1,rfl,I1.kept (t':=s1.toks) fun b o e=>Heap.get?_push_of_some _ e,turn_str z t _ _ (.inr rfl),⟨_,Heap.get?_push_size _ rfl,rfl,rfl⟩,fp,q⟩
    . refine wpAny_pyIter_ascii ha ?_
      exact ⟨s1.heap.objs.size,[s1.heap.objs.size],_,_,H1,rfl,I1.kept (t':=s1.toks) fun b o e=>Heap.get?_push_of_some _ e,turn_str z t _ _ (.inl rfl),⟨_,Heap.get?_push_size _ rfl,rfl,rfl⟩,fp,q⟩
  | _=>exact q1.elim
end
noncomputable def strsIn:List Expr->Option (List Str)
  | []=>some []
  | .Constant (.str x) _ _::r=>(strsIn r).map (x::·)
  | _=>none
noncomputable def tConst (vs:List V):TA:=fun _ H L=>L vs H
theorem pa_strs {X:Cx}:∀ {es:List Expr} {xs:List Str},strsIn es=some xs->PA X es (tConst (xs.map V.str))
  | [],xs,h=>by
    cases h
    exact fun pos pins s σ H Q I q=>pa_nil pos pins s σ H Q I q
  | e :: es, xs,h=>by
    cases e with
    | Constant c k p =>
      cases c with
      | str x =>
        cases h1:strsIn es with
        | none=>simp [strsIn,h1] at h
        | some ys =>
          have h2:x::ys=xs:=by simpa [strsIn,h1] using h
          subst h2
          have ih:=pa_strs (X:=X) h1
          exact fun pos pins s σ H Q I q=>(pa_cons (te:=tC (.str x)) pe_str ih) pos pins s σ H Q I q
      | _=>simp [strsIn] at h
    | _=>simp [strsIn] at h
theorem Same.upd_new {H:Hp} {l:Addr} {o:HO} (h:H l=none):Same H (upd H l o):=fun b u e=>by rw [upd_ne (ne_of_none e h)];exact e
theorem Same.sq {K:PySem.W.Frag} {H H':Hp} {a:Addr} {xs:List V} (e:Same H H') (h:SqT K H a xs):SqT K H' a xs:=by
  rcases h with (h | ⟨o,h⟩) | h
  . exact .inl (.inl (e _ _ h))
  . exact .inl (.inr ⟨o,e _ _ h⟩)
  . exact .inr h
theorem atI_lt {α:Type} {xs:List α} {i:Int} (h0:0<=i) (h:i < xs.length):∃ v,atI xs i=some v/\xs[i.toNat]? = some v:=by
  have hlt:i.toNat < xs.length:=by lia
  refine ⟨xs[i.toNat],?_,List.getElem?_eq_getElem hlt⟩
  have e:(i.toNat:Int)=i:=by lia
  have h:=atI_nat (List.getElem?_eq_getElem hlt)
  rw [e] at h
  exact h
theorem small_line {n:Nat} (h:n<=1000):n<=sizeLine:=Nat.le_of_lt (small1000 h)
theorem vals_of_abs:∀ {us:List Value} {xs:List V},us.map absV=xs.map some->Vals xs us
  | [],[],_=>.nil
  | [],_::_,h=>by cases h
  | _::_,[],h=>by cases h
  | u :: us,x::xs,h=>by
    rw [List.map_cons,List.map_cons] at h
    injection h with h1 h2
    refine .cons ?_ (vals_of_abs h2)
    cases u <;> cases h1 <;> first | rfl | exact ⟨_,rfl⟩
theorem sqT_const {K:PySem.W.Frag} {a:Addr} {oc:Value} {od:Option Addr} {its:Array Value} {n:Nat} {sl:Array (Option Value)} {xs:List V} (h:K.lookup a=some ⟨oc,od,.seq its n,sl⟩) (ht:(oc == .type "tuple")=true/\(od == none)=true)
    (hi:its.toList.map absV=xs.map some) (hz:xs.length<=1000:=by decide):∀ H,SqT K H a xs:=fun H=>by
  have r:=vals_of_abs hi
  have e:oc=.type "tuple":=by
    have:=ht.1
    exact eq_of_beq this
  refine .inr ⟨_,its,n,h,e,rfl,?_,r⟩
  have h9:=r.length
  have h8:its.toList.length=its.size:=by simp
  rw [<- h8,<- h9];exact small_line hz
end L2
namespace L2
open PySem PySem.Spec PyProof.Rows
section
variable {P:Program} {w:World} {K:PySem.W.Frag} {mg:Str->Option Value} {base:Heap}
theorem Fun.ok2 {x qual:Str} {st:Stmt} {f:Addr} {fd:FuncData} {N ps:List Str} {k:Nat} {sp:Sp} {sc:Scope} {body:List Stmt} (F:Fun K x qual st f fd) (hs:defScope st=sc) (hb:defBody st=body) (S:FnScope N ps (defScope st)) (len:∀ vs H Q E,sp vs H Q E->vs.length=ps.length)
    (hbody:FnScope N ps sc->∀ (cdv:Value) (A:Around) (outer:List Env) (s:Shared) (H:Hp) (vs:List V) (Q:VK) (E:XK),Room k (A.deeper (envOfC qual sc s.heap.objs.size f cdv))->sp vs H Q E ->
      ∃ t,PSs (cxOf CX0 P w K mg base N qual sc f cdv A outer s H E).nox body t/\t { nx:=fun _ H'=>Q .non H',rt:=Q } (L2.start N vs) H):FnOk P w K mg base CX0 (k + 1) f fd ps sp:=by
  subst hs hb
  exact F.ok S len (hbody S)
end
end L2
namespace L2
open PySem PySem.Spec PyProof.Rows
section
variable {P:Program} {w:World} {K:PySem.W.Frag} {mg:Str->Option Value} {base:Heap}
noncomputable def spStrs (xs:List Str):Sp:=fun vs H Q _=>vs=[]/\∀ l,H l=none->Q (.ref l) (upd H l (.lst (xs.map V.str)))
theorem ok_strs {x qual:Str} {st:Stmt} {f:Addr} {fd:FuncData} (F:Fun K x qual st f fd) {es:List Expr} {pos p:Pos} (xs:List Str) (hb:defBody st=[.Return (some (.List es pos)) p]) (h:strsIn es=some xs) (hz:xs.length<=1000)
    (S:FnScope [] [] (defScope st)):FnOk P w K mg base CX0 1 f fd [] (spStrs xs):=by
  refine F.ok2 rfl hb S (fun vs H Q E h=>?_) (fun S cdv A outer s H vs Q E hr hq=>?_)
  . obtain ⟨rfl,_⟩:=h
    rfl
  . obtain ⟨rfl,q⟩:=hq
    refine ⟨_,pss_one (ps_ret (pe_lst (pa_strs h))),?_⟩
    exact ⟨by rw [List.length_map];exact small_line hz,q⟩
end
end L2
namespace L2
open PySem
theorem noFree_has {scope:Scope} {env:Env} {names:List (Str × NameKind)} {cl:List (Str × Addr)} (h:(relabel scope env).names=names) (h2:(names.all fun p=>p.2 != .cell && p.2 != .free)=true) :
    ∀ p∈(relabel scope env).names,p.2=.cell\/p.2=.free->(cl.lookup p.1).isSome=true:=by
  intro p hp hk
  rw [h] at hp
  have:=List.all_eq_true.mp h2 p hp
  rcases hk with e | e
  . rw [e] at this;exact absurd this (by decide)
  . rw [e] at this;exact absurd this (by decide)
theorem nd1 {x:Str}:[x].Nodup:=by simp
section
variable {X:Cx} (K:PySem.W.Frag) (h:X.K=K)
include h
theorem k_in:OpR X (compareOp .In) (uIn K):=h ▸ o_in
theorem k_ix:IxR X (uIx K):=h ▸ o_ix
end
end L2
namespace L2
open PySem PySem.Spec PyProof.Rows
mutual
inductive Rep (K:PySem.W.Frag) (H:Hp):PyData->V->Prop
  | non:Rep K H .none .non
  | bl (b:Bool):Rep K H (.bool b) (.bl b)
  | int (i:Int):Rep K H (.int i) (.int i)
  | str (x:Str):Rep K H (.str x) (.str x)
  | tup {a:Addr} {xs:List V} {ds:List PyData}:SqT K H a xs->Reps K H ds xs->Rep K H (.tuple ds) (.ref a)
  | lst {a:Addr} {xs:List V} {ds:List PyData}:SqL K H a xs->Reps K H ds xs->Rep K H (.list ds) (.ref a)
inductive Reps (K:PySem.W.Frag) (H:Hp):List PyData->List V->Prop
  | nil:Reps K H [] []
  | cons {d:PyData} {v:V} {ds:List PyData} {vs:List V}:Rep K H d v->Reps K H ds vs->Reps K H (d::ds) (v::vs)
end
section
variable {X:Cx} {pins:List (Addr × Obj)} {σ:St} {H:Hp} {s:Shared}
mutual
theorem Rep.reads (I:Inv X pins σ H s):∀ {d:PyData} {v:V} {u:Value},Rep X.K H d v->RelV v u->∃ as,Reads s.heap u d as
  | _,_,_,.non,r=>by cases r;exact ⟨_,.none⟩
  | _,_,_,.bl b,r=>by cases r;exact ⟨_,.bool b⟩
  | _,_,_,.int i,r=>by obtain ⟨t,rfl⟩:=r;exact ⟨_,.int i t⟩
  | _,_,_,.str x,r=>by obtain ⟨t,rfl⟩:=r;exact ⟨_,.str x t⟩
  | _, _,_,.tup h q,r=>by
    cases r
    obtain ⟨its,rv,⟨o,e,c,n,d⟩,hz⟩:=I.tuple h
    obtain ⟨as,ra⟩:=Reps.reads I q rv
    exact ⟨_,.tuple e c d (by simpa using ra)⟩
  | _, _,_,.lst h q,r=>by
    cases r
    obtain ⟨its,rv,⟨o,n,e,c,_,d⟩,hz⟩:=I.list h
    obtain ⟨as,ra⟩:=Reps.reads I q rv
    exact ⟨_,.list e c d (by simpa using ra)⟩
theorem Reps.reads (I:Inv X pins σ H s):∀ {ds:List PyData} {vs:List V} {us:List Value},Reps X.K H ds vs->Vals vs us->∃ as,ReadsAll s.heap us ds as
  | _,_,_,.nil,r=>by cases r;exact ⟨_,.nil⟩
  | _, _,_,.cons h q,r=>by
    cases r with
    | cons r0 r1 =>
      obtain ⟨as,ra⟩:=Rep.reads I h r0
      obtain ⟨bs,rb⟩:=Reps.reads I q r1
      exact ⟨_,.cons ra rb⟩
end
noncomputable def rEqD (K:PySem.W.Frag) (ne:Bool):R2:=fun x y H Q=>∃ d e,Rep K H d x/\Rep K H e y/\d.canLay0=true/\e.canLay0=true/\d.depth<=190/\Q (.bl (if ne then !PyData.eqv d e else PyData.eqv d e)) H
theorem op_eqD (hu:X.A.units + 200 < cLine):OpR X (compareOp .Eq) (rEqD X.K false):=by
  intro pins s σ H x y v u Q I rx ry h
  obtain ⟨d,e,h1,h2,c1,c2,dp,q⟩:=h
  obtain ⟨as,ra⟩:=Rep.reads I h1 rx
  obtain ⟨bs,rb⟩:=Rep.reads I h2 ry
  refine SeqAt.compareEq_reads ra rb c1 c2 ?_ ⟨.bl _,H,I,rfl,q⟩
  have:min d.depth e.depth<=d.depth:=Nat.min_le_left _ _
  lia
theorem op_neD (hu:X.A.units + 200 < cLine):OpR X (compareOp .NotEq) (rEqD X.K true):=by
  intro pins s σ H x y v u Q I rx ry h
  obtain ⟨d,e,h1,h2,c1,c2,dp,q⟩:=h
  obtain ⟨as,ra⟩:=Rep.reads I h1 rx
  obtain ⟨bs,rb⟩:=Rep.reads I h2 ry
  refine SeqAt.compareNe_reads ra rb c1 c2 ?_ ⟨.bl _,H,I,rfl,q⟩
  have:min d.depth e.depth<=d.depth:=Nat.min_le_left _ _
  lia
noncomputable def uEqD (K:PySem.W.Frag):R2:=fun x y H Q=>match x,y with
  | .ref a,y=>rEqD K false (.ref a) y H Q
  | x,.ref b=>rEqD K false x (.ref b) H Q
  | x,y=>uEq x y H Q
noncomputable def uNeD (K:PySem.W.Frag):R2:=fun x y H Q=>match x,y with
  | .ref a,y=>rEqD K true (.ref a) y H Q
  | x,.ref b=>rEqD K true x (.ref b) H Q
  | x,y=>uNe x y H Q
theorem o_eqD {k:Nat} (hr:Room k X.A):OpR X (compareOp .Eq) (uEqD X.K):=((op_eqD (by have:=hr.un;lia)).or o_eq).imp fun x y H Q q=>by
  unfold uEqD at q
  split at q
  . exact .inl q
  . exact .inl q
  . exact .inr q
theorem o_neD {k:Nat} (hr:Room k X.A):OpR X (compareOp .NotEq) (uNeD X.K):=((op_neD (by have:=hr.un;lia)).or o_ne).imp fun x y H Q q=>by
  unfold uNeD at q
  split at q
  . exact .inl q
  . exact .inl q
  . exact .inr q
end
noncomputable def uSum (K:PySem.W.Frag):List V->Hp->VK->Prop:=fun xs H Q=>match xs with
  | [.ref p]=>∃ ns:List Int,SqL K H p (ns.map V.int)/\Q (.int ns.sum) H
  | _=>False
theorem preSum_eq (ns:List Int):∀ n,n<=ns.length->preSum (fun i=>ns.getD i 0) n=(ns.take n).sum
  | 0,_=>by simp [preSum]
  | n + 1,h=>by
    rw [preSum,preSum_eq ns n (by lia),List.take_add_one,List.getElem?_eq_getElem (by lia),List.sum_append]
    simp [List.getD_eq_getElem?_getD,List.getElem?_eq_getElem (show n < ns.length by lia)]
theorem c_sum {X:Cx} (hc:X.calm=true):CallR X (.builtin "sum") (uSum X.K):=by
  intro pins s σ H xs us Q I r h
  unfold uSum at h
  split at h
  . rename_i p
    obtain ⟨ns,hl,q⟩:=h
    obtain ⟨u,rfl,ru⟩:=r.one
    cases ru
    obtain ⟨its,rv,pl,hz⟩:=I.list hl
    refine call_sum_walkAnyS (wpAny_pyIter_list pl.isList ?_)
    have hne:p≠s.heap.objs.size:=Nat.ne_of_lt (by obtain ⟨o,n,e,_⟩:=pl;exact Heap.lt_size e)
    have hlen:its.toArray.size=ns.length:=by have:=rv.length;simp at this;simp;lia
    refine ⟨s.heap.objs.size,_,_,_,_,_,_,fun i=>ns.getD i 0,rfl,(Walks.list (show X.A.in1.handled=none from I.ok.hd hc) s.heap.objs.size p hne its.toArray).toS,⟨⟨_,Heap.get?_push_size _ rfl,rfl,rfl⟩,pl.isList.at fun o e=>Heap.get?_push_of_some _ e⟩,?_,?_,fun s' t' hm=>?_⟩
    . intro b hb
      have hp:p < s.heap.objs.size:=by obtain ⟨o,n,e,_⟩:=pl;exact Heap.lt_size e
      rw [Heap.size_push]
      rcases List.mem_cons.mp hb with rfl | hb
      . exact Nat.lt_succ_self _
      . have:b=p:=by simpa using hb
        subst this
        exact Nat.lt_succ_of_lt hp
    . intro i v hv
      have hv':its[i]? = some v:=by simpa using hv
      cases e:(ns.map V.int)[i]? with
      | none =>
        have:=rv.none_of e
        rw [this] at hv';cases hv'
      | some y =>
        obtain ⟨u,hu,ru⟩:=rv.get e
        rw [hv'] at hu;cases hu
        rw [List.getElem?_map] at e
        cases eb:ns[i]? with
        | none=>rw [eb] at e;cases e
        | some b =>
          rw [eb] at e
          cases e
          obtain ⟨t,rfl⟩:=ru
          exact ⟨t,by dsimp only;rw [List.getD_eq_getElem?_getD,eb];rfl⟩
    . have e:preSum (fun i=>ns.getD i 0) its.toArray.size=ns.sum:=by
        rw [hlen,preSum_eq ns _ (Nat.le_refl _),List.take_length]
      rw [e]
      have hI:Inv X pins σ H { s with heap:=s'.heap,toks:=s'.toks }:=I.kept (t':=s'.toks) fun b o e=>hm.heap b o (by simp;exact Nat.ne_of_lt (Heap.lt_size e)) (Heap.get?_push_of_some _ e)
      have es:({ s with heap:=s'.heap,toks:=s'.toks }:Shared)=s':=by
        have h1:=hm.gens
        have h2:=hm.drawn
        have h3:=hm.os
        cases s'
        simp only at h1 h2 h3
        subst h1 h2 h3
        rfl
      rw [es] at hI
      exact ⟨.int _,H,hI,⟨_,rfl⟩,q⟩
  . exact h.elim
noncomputable def uMulB:R2:=fun x y H Q=>match x,y with
  | .int i,.int j=>IntMulOk i j/\Q (.int (i * j)) H
  | .ref a,.int k=>rRep (.ref a) (.int k) H Q
  | _,_=>False
theorem op_mulB {X:Cx}:OpR X (binaryOp .Mult) (fun x y H Q=>∃ i j,x=.int i/\y=.int j/\IntMulOk i j/\Q (.int (i * j)) H):=by
  intro pins s σ H x y v u Q I rx ry h
  obtain ⟨i,j,rfl,rfl,hm,q⟩:=h
  obtain ⟨t,rfl⟩:=rx
  obtain ⟨t',rfl⟩:=ry
  exact PyProof.Rows.mul_int ⟨.int _,H,I.tok _,⟨_,rfl⟩,q⟩ hm
theorem o_mulB {X:Cx}:OpR X (binaryOp .Mult) uMulB:=(op_mulB.or op_rep).imp fun x y H Q q=>by
  unfold uMulB at q
  split at q
  . exact .inl ⟨_,_,rfl,rfl,q.1,q.2⟩
  . exact .inr q
  . exact q.elim
theorem mul_small {i j:Int} (h:CMul i j):IntMulOk i j:=h.ok
section
variable {X:Cx}
noncomputable def rCatL (K:PySem.W.Frag):R2:=fun x y H Q=>∃ l b xs zs,x=.ref l/\y=.ref b/\SqL K H l xs/\SqL K H b zs/\xs.length + zs.length<=sizeLine/\∀ p,H p=none->Q (.ref p) (upd H p (.lst (xs++zs)))
theorem op_catL:OpR X (binaryOp .Add) (rCatL X.K):=by
  intro pins s σ H x y v u Q I rx ry h
  obtain ⟨l,b,xs,zs,rfl,rfl,hH,hB,hz,q⟩:=h
  cases rx
  cases ry
  obtain ⟨its,r,pl,z1⟩:=I.list hH
  obtain ⟨its2,r2,pl2,z2⟩:=I.list hB
  have hl:=r.length
  have hl2:=r2.length
  obtain ⟨⟨cls,dd,data,sl⟩,ho,hc,n,hd⟩:=id pl.isList
  obtain ⟨⟨cls2,dd2,data2,sl2⟩,ho2,hc2,n2,hd2⟩:=id pl2.isList
  simp only at hc hd hc2 hd2
  subst hc hd hc2 hd2
  have e:its.toArray++its2.toArray=(its++its2).toArray:=by simp
  refine concat_meets ⟨_,ho,rfl⟩ ⟨_,ho2,rfl⟩ noFill_list_add seq_list_add PySem.F.slot_list_add PySem.F.entry_list_add (PySem.F.args_list_add_2 _ _) (PyProof.Rows.list_addW l b its.toArray its2.toArray n n2 dd dd2 sl sl2 (by rw [List.size_toArray,List.size_toArray];lia)) ⟨ho,ho2,?_⟩
  rw [e]
  exact ⟨.ref _,_,I.lnew (t':=s.toks) (r.append r2) (by rw [List.length_append];lia),rfl,q _ I.fresh⟩
end
theorem comp_go {X:Cx} {elt tg iter:Expr} {ifs:List Expr} {scope:Scope} {cl:List (Str × Addr)} {ts:List Str} {frs':List (Str × Nat)} {pos pos0:Pos} {wi:TI} {g:TG} {tt:TT} {te:TE} (hc:X.calm=true) (S:CompScope X scope cl ts frs')
    (hi:PI X tg iter wi) (hg:∀ pins s H fp,PG (X.comp scope cl (ts++frs'.map (·.1)) pins s H fp) tg g) (ht:∀ pins s H fp,PIfs (X.comp scope cl (ts++frs'.map (·.1)) pins s H fp) ifs tt)
    (he:∀ pins s H fp,PE (X.comp scope cl (ts++frs'.map (·.1)) pins s H fp) elt te) (hs:∀ x,foldedSetIterable iter X.env x=pure x)
    {use:Option (Value->Sem Unit)} {Qv:Value->Shared->Prop} {pins:List (Addr × Obj)} {s:Shared} {σ:St} {H:Hp} {Q:VK} (I:Inv X pins σ H s) (h:tComp ts.length frs' wi g tt te σ H Q)
    (hfin:∀ (C D:Addr) (H5:Hp) (s6:Shared) (m6:Str->Option Value),Inv X pins σ H5 s6->s6.heap.Ns C m6->FpOk X pins H5 C->(∀ h',Heap.SameBut C s6.heap h'->Inv X pins σ H5 { s6 with heap:=h' })->Q (.ref D) H5 ->
      compPost (model X.prog X.w) X.A X.xe use Qv (.ref D) C (.ok .next) s6) :
    wpAny (model X.prog X.w) X.A (comprehension (.ListComp elt [⟨tg,iter,ifs,0⟩] scope pos) scope X.env pos0 (newList []) false (eval iter X.env) use) Qv X.xe s:=by
  refine wpAny_comprehension_free (use:=use) (cl:=cl) rfl hs S.clos S.kind S.names (thn (hi pins s σ H _ I h) fun v s1 h1=>thn h1 fun itv s2 h2=>?_)
  obtain ⟨it,fp,tn,J,H2,e,I2,T,st2,f2,q2⟩:=h2
  subst e
  have fr2:H2 s2.heap.objs.size=none:=I2.hok.fresh (Nat.le_refl _)
  obtain ⟨W,⟨m0,w0⟩,turn⟩:=q2 _ fr2
  refine wpAny_newObj_type ?_
  have hlt2:∀ b∈fp,b < s2.heap.objs.size:=fun b hb=>by
    obtain ⟨o,e,_⟩:=T.obj _ _ st2 b hb
    exact Heap.lt_size e
  have I3:Inv X pins σ (upd H2 s2.heap.objs.size (.lst [])) { s2 with heap:=s2.heap.push { cls:=.type "list",data:=.seq ([]:List Value).toArray } } :=
    I2.laid (t':=s2.toks) (fun b u e=>Heap.get?_push_of_some _ e) (Nat.le_refl _) ⟨Nat.zero_le _,[],0,.nil,Heap.get?_push_size _ rfl⟩
  have f3:∀ b∈fp,FpOk X pins (upd H2 s2.heap.objs.size (.lst [])) b:=fun b hb=>⟨by rw [upd_ne (Nat.ne_of_lt (hlt2 b hb))];exact (f2 b hb).1,(f2 b hb).2⟩
  have hk3:∀ b o,s2.heap.get? b=some o->(s2.heap.push { cls:=.type "list",data:=.seq ([]:List Value).toArray }).get? b=some o:=fun b o e=>Heap.get?_push_of_some _ e
  have hsz3:(s2.heap.push { cls:=.type "list",data:=.seq ([]:List Value).toArray }).objs.size=s2.heap.objs.size + 1:=Heap.size_push ..
  refine wpAny_newFunctionEnv S.nocell (by intro y hy;simp at hy) (fun h₁ hns₁ hsb₁=>?_) S.kind
  dsimp only at hns₁ hsb₁ ⊢
  generalize hs3:({ s2 with heap:=s2.heap.push { cls:=.type "list",data:=.seq ([]:List Value).toArray } }:Shared)=s3 at I3 hns₁ hsb₁ ⊢
  have es3:s3.heap=s2.heap.push { cls:=.type "list",data:=.seq ([]:List Value).toArray }:=by rw [<- hs3]
  have hk4:∀ b o,s3.heap.get? b=some o->h₁.get? b=some o:=fun b o e=>by
    have:=hsb₁.2 b (by rw [<- es3];exact Nat.ne_of_lt (Heap.lt_size e))
    rw [<- es3] at this
    exact this.trans (Heap.get?_push_of_some _ e)
  have hlt3:∀ b∈fp,b < s3.heap.objs.size:=fun b hb=>by
    rw [es3,hsz3]
    exact Nat.lt_succ_of_lt (hlt2 b hb)
  rw [<- es3] at hns₁
  have I4:=S.inv I3 f3 hlt3 (tk:=s2.toks + ([]:List (Str × Value)).length) hns₁ hk4
  have st4:tn 0 h₁:=T.keep _ _ _ st2 fun b hb o e=>hk4 b o (by rw [es3];exact hk3 b o e)
  have estart:({ s2 with heap:=h₁,toks:=s2.toks + ([]:List (Str × Value)).length }:Shared)={ s3 with heap:=h₁,toks:=s2.toks + ([]:List (Str × Value)).length }:=by rw [<- hs3]
  rw [estart]
  have stat:∀ {H':Hp},(∀ b∈fp,H' b=none)->∀ b∈fp,FpOk (X.comp scope cl (ts++frs'.map (·.1)) pins s3 (upd H2 s2.heap.objs.size (.lst [])) fp) [] H' b:=fun hn b hb=>by
    obtain ⟨h1,h2,h3,h4,h5,h6⟩:=f3 b hb
    refine ⟨hn b hb,Nat.ne_of_lt (hlt3 b hb),fun z=>?_,.inl hb,fun x c e=>h5 x c (S.subL e),fun p hp=>h6 p (by
      have:p∈(X.pn++pins)++[]:=hp
      rwa [List.append_nil] at this)⟩
    rcases List.mem_cons.mp (I3.stkSub _ z) with e' | e'
    . exact h2 e'
    . exact h3 e'
  have loop : codeAny (model X.prog X.w) X.A (.compLoop (.ListComp elt [⟨tg,iter,ifs,0⟩] scope pos) 0 (.ref it) (.ref s2.heap.objs.size) (compEnvC scope cl s3.heap.objs.size X.env))
      (compPost (model X.prog X.w) X.A X.xe use Qv (.ref s2.heap.objs.size) s3.heap.objs.size) { s3 with heap:=h₁,toks:=s2.toks + ([]:List (Str × Value)).length }:=by
    refine compLoop_any (fun n s'=>∃ i τ H',Inv (X.comp scope cl (ts++frs'.map (·.1)) pins s3 (upd H2 s2.heap.objs.size (.lst [])) fp) [] τ H' s'/\tn i s'.heap/\(∀ b∈fp,H' b=none)/\W i n τ H') ?_ m0
      ⟨0,_,_,I4,st4,fun b hb=>(f3 b hb).1,w0⟩
    rintro n s5 ⟨i,τ,H5,I5,st5,fr5,w5⟩
    rcases turn i n τ H5 w5 with ⟨stop,qn⟩ | ⟨go,step⟩
    . refine wpAny_mono (T.done (X.comp scope cl (ts++frs'.map (·.1)) pins s3 (upd H2 s2.heap.objs.size (.lst [])) fp) rfl rfl rfl hc i [] s5 τ H5 (fun _ _=>False) I5 (stat fr5) st5 stop) (fun r s6 ⟨hr,I6⟩=>?_) fun _ _ z=>z
      subst hr
      obtain ⟨m6,hn6,_⟩:=id I6.loc
      have hA:∀ h',Heap.SameBut s3.heap.objs.size s6.heap h'->Inv X pins σ H5 { s6 with heap:=h' }:=fun h' hs'=>CompScope.after I3 f3 I6 hs'
      have hC0:=I3.fpOk (b:=s3.heap.objs.size) (Nat.le_refl _) (I3.hok.fresh (Nat.le_refl _))
      exact hfin _ _ H5 s6 m6 (hA s6.heap ⟨rfl,fun _ _=>rfl⟩) hn6 ⟨I6.free,hC0.2⟩ hA qn
    . refine wpAny_mono (T.item (X.comp scope cl (ts++frs'.map (·.1)) pins s3 (upd H2 s2.heap.objs.size (.lst [])) fp) rfl rfl rfl hc i [] s5 τ H5 (fun _ _=>False) I5 (stat fr5) st5 go) (fun r s6 ⟨u,hr,h6⟩=>?_) fun _ _ z=>z
      subst hr
      refine thn h6 fun _ s7 h_q=>?_
      obtain ⟨x,H7,I7,r7,y7,st7,fr7⟩:=h_q
      have I7':=I7.pinned (stat fr7) (T.obj _ _ st7)
      refine thn (hg _ _ _ _ _ s7 τ H7 x u _ I7' r7 (step x H7 y7)) fun _ s8 h_q=>?_
      obtain ⟨τ8,H8,I8,q8⟩:=h_q
      refine thn (ht _ _ _ _ _ s8 τ8 H8 _ I8 q8) fun ok s9 h_q=>?_
      obtain ⟨H9,I9,q9⟩:=h_q
      have again:∀ {m':Nat} {H':Hp} {s':Shared},Inv (X.comp scope cl (ts++frs'.map (·.1)) pins s3 (upd H2 s2.heap.objs.size (.lst [])) fp) ([]++pinsAt fp s7.heap) τ8 H' s'->m' < n->W (i + 1) m' τ8 H' ->
          ∃ m,m < n/\∃ i τ H',Inv (X.comp scope cl (ts++frs'.map (·.1)) pins s3 (upd H2 s2.heap.objs.size (.lst [])) fp) [] τ H' s'/\tn i s'.heap/\(∀ b∈fp,H' b=none)/\W i m τ H':=fun {m' H' s'} I' hm w'=>by
        refine ⟨m',hm,i + 1,τ8,H',I'.unpinned,T.keep _ _ _ st7 fun b hb o e=>(I'.pin (b,o) (List.mem_append_right _ (List.mem_append_right _ (mem_pinsAt hb e)))).1,fun b hb=>?_,w'⟩
        obtain ⟨o,e,d⟩:=T.obj _ _ st7 b hb
        exact (I'.pin (b,o) (List.mem_append_right _ (List.mem_append_right _ (mem_pinsAt hb e)))).2.1
      cases ok with
      | false =>
        rw [if_neg Bool.false_ne_true]
        rw [if_neg Bool.false_ne_true] at q9
        obtain ⟨m',hm,w'⟩:=q9
        exact again I9 hm w'
      | true =>
        rw [if_pos rfl]
        rw [if_pos rfl] at q9
        refine thn (he _ _ _ _ _ s9 τ8 H9 _ I9 q9) fun yv s10 h_q=>?_
        obtain ⟨y,H10,I10,r10,ys,hl,hz,m',hm,w'⟩:=h_q
        refine thn (mt_append _ s10 τ8 H10 (.ref s2.heap.objs.size) [y] (.ref s2.heap.objs.size) [yv] (fun _ H'=>W (i + 1) m' τ8 H') I10 rfl (.cons r10 .nil) ⟨_,ys,y,rfl,rfl,hl,hz,w'⟩) fun _ s11 h_q=>?_
        obtain ⟨_,H11,I11,_,w11⟩:=h_q
        exact again I11 hm w11
  have es:(s2.heap.push { cls:=.type "list",data:=.seq ([]:List Value).toArray }).objs.size=s3.heap.objs.size:=by rw [es3]
  rw [es]
  exact codeAny_compStart_list loop (T.self _ 0 _ _ _ st4 loop)
theorem pe_comp {X:Cx} {elt tg iter:Expr} {ifs:List Expr} {scope:Scope} {cl:List (Str × Addr)} {ts:List Str} {frs':List (Str × Nat)} {pos:Pos} {wi:TI} {g:TG} {tt:TT} {te:TE} (hc:X.calm=true) (S:CompScope X scope cl ts frs')
    (hi:PI X tg iter wi) (hg:∀ pins s H fp,PG (X.comp scope cl (ts++frs'.map (·.1)) pins s H fp) tg g) (ht:∀ pins s H fp,PIfs (X.comp scope cl (ts++frs'.map (·.1)) pins s H fp) ifs tt)
    (he:∀ pins s H fp,PE (X.comp scope cl (ts++frs'.map (·.1)) pins s H fp) elt te) (hs:∀ x,foldedSetIterable iter X.env x=pure x:=by intro _;rfl) :
    PE X (.ListComp elt [⟨tg,iter,ifs,0⟩] scope pos) (tComp ts.length frs' wi g tt te):=by
  intro pins s σ H Q I h
  rw [eval_ListComp]
  exact comp_go hc S hi hg ht he hs (use:=none) (Qv:=EP X pins σ Q) I h fun C D H5 s6 m6 I6 hn fpc hA q=>⟨m6,hn,fun h' hs'=>⟨.ref D,H5,hA h' hs',rfl,q⟩⟩
noncomputable def uListOf (K:PySem.W.Frag):List V->Hp->VK->Prop:=fun xs H Q=>match xs with
  | [.ref p]=>∃ ys,Sq K H p ys/\∀ l,H l=none->Q (.ref l) (upd H l (.lst ys))
  | _=>False
theorem c_list {X:Cx}:CallR X (.type "list") (uListOf X.K):=call_list_of.imp fun xs H Q q=>by
  unfold uListOf at q
  split at q
  . obtain ⟨ys,h1,h2⟩:=q
    exact ⟨_,ys,rfl,h1,h2⟩
  . exact q.elim
end L2
namespace MM
noncomputable def sm (n:Nat) (f:Nat->Int):Int:=((List.range n).map f).sum
noncomputable abbrev at0 (l:List Int) (i:Nat):Int:=l.getD i 0
end MM
namespace MM
noncomputable def mc:Nat->Nat->Nat
  | _,0=>1
  | 0,_ + 1=>0
  | m + 1,j + 1=>mc m (j + 1) + mc (m + 1) j
noncomputable def ch:Nat->Nat->Nat
  | _,0=>1
  | 0,_ + 1=>0
  | n + 1,k + 1=>ch n k + ch n (k + 1)
noncomputable def part (w:Nat->Int) (s:Nat) (bs:List Int) (m n:Nat):Int:=sm (m + 1) fun j=>if j * s<=n then w j * at0 bs (n - j * s) else 0
end MM
namespace L2
open PySem PySem.Spec PyProof.Rows
theorem iteP {c A B:Prop} [Decidable c] (hc:c) (h:A):if c then A else B:=by rw [if_pos hc];exact h
theorem iteN {c A B:Prop} [Decidable c] (hc:¬ c) (h:B):if c then A else B:=by rw [if_neg hc];exact h
end L2
namespace L2
open PySem PySem.Spec PyProof.Rows
section
variable {X:Cx} {pins:List (Addr × Obj)} {σ:St} {H:Hp} {s:Shared}
theorem Inv.turnedL {h':Heap} {ch:List Addr} {T:Addr} {o:HO} {t':Nat} (I:Inv X pins σ H s) (hch:∀ b∈ch,FpOk X pins H b) (k:∀ b u,b ∉ ch->s.heap.get? b=some u->h'.get? b=some u) (hT:s.heap.objs.size<=T)
    (new:ObjOk X.prog X.w (upd H T o) h' T o):Inv X pins σ (upd H T o) { s with heap:=h',toks:=t' }:=by
  have hn:H T=none:=I.hok.fresh hT
  have nT:∀ b u,s.heap.get? b=some u->b≠T:=fun b u e=>Nat.ne_of_lt (Nat.lt_of_lt_of_le (Heap.lt_size e) hT)
  have nch:∀ b u,H b=some u->b ∉ ch:=fun b u e z=>by rw [(hch b z).1] at e;cases e
  refine I.step (g':=s.gens) (d':=s.drawn) (ch:=ch) (fun b hb=>?_) (fun b u _ _ hc e _=>k b u hc e) (fun b u _ _ hc e _=>⟨u.slots,k b u hc e⟩) (fun b u _ e n=>by rw [upd_ne (nT b u e)];exact n)
    (fun b u hc e=>⟨u,k b u hc e⟩) (fun b xs e=>by rw [upd_ne (ne_of_none e hn)];exact e) (fun b u v e=>by rw [upd_ne (ne_of_none e hn)];exact e) (fun b ps e=>⟨#[],by rw [upd_ne (ne_of_none e hn),e];simp⟩) (fun m hm=>?_) (fun b u e=>?_) I.bare
  . obtain ⟨h0,h1,h2,h3,h4,h5⟩:=hch b hb
    exact ⟨h3,h1,h4,h5⟩
  . obtain ⟨ob,es,ep,ho,r⟩:=hm
    exact ⟨ob,es,ep,k _ ob (fun z=>(hch _ z).2.1 rfl) ho,r⟩
  . by_cases hb:b=T
    . subst hb;rw [upd_same] at e;cases e;exact new
    . rw [upd_ne hb] at e
      refine (I.hok b u e).stay (fun c v hc q=>k c v ?_ q) (fun c q=>by rw [upd_ne (ne_of_none q hn)];exact q) fun c xs q=>by rw [upd_ne (ne_of_none q hn)];exact q
      rcases hc with z | z
      . rw [z];exact nch b u e
      . exact nch c _ z
theorem Inv.turnedM {h':Heap} {ch:List Addr} {t':Nat} (I:Inv X pins σ H s) (hch:∀ b∈ch,FpOk X pins H b) (k:∀ b u,b ∉ ch->s.heap.get? b=some u->h'.get? b=some u):Inv X pins σ H { s with heap:=h',toks:=t' }:=by
  have nch:∀ b u,H b=some u->b ∉ ch:=fun b u e z=>by rw [(hch b z).1] at e;cases e
  refine I.step (g':=s.gens) (d':=s.drawn) (ch:=ch) (fun b hb=>?_) (fun b u _ _ hc e _=>k b u hc e) (fun b u _ _ hc e _=>⟨u.slots,k b u hc e⟩) (fun _ _ _ _ n=>n)
    (fun b u hc e=>⟨u,k b u hc e⟩) (fun _ _ e=>e) (fun _ _ _ e=>e) (fun b ps e=>⟨#[],by rw [e];simp⟩) (fun m hm=>?_) (fun b u e=>?_) I.bare
  . obtain ⟨h0,h1,h2,h3,h4,h5⟩:=hch b hb
    exact ⟨h3,h1,h4,h5⟩
  . obtain ⟨ob,es,ep,ho,r⟩:=hm
    exact ⟨ob,es,ep,k _ ob (fun z=>(hch _ z).2.1 rfl) ho,r⟩
  . refine (I.hok b u e).stay (fun c v hc q=>k c v ?_ q) (fun _ q=>q) fun _ _ q=>q
    rcases hc with z | z
    . rw [z];exact nch b u e
    . exact nch c _ z
end
noncomputable def Itz (K:PySem.W.Frag) (a b:Addr):It :=
  ⟨fun i H=>∃ xs ys x y,SqL K H a xs/\SqL K H b ys/\xs[i]? = some x/\ys[i]? = some y,
   fun i H v H'=>∃ T x y,v=.ref T/\H T=none/\H'=upd H T (.tup [x,y])/\(∀ xs,SqL K H a xs->xs[i]? = some x)/\(∀ ys,SqL K H b ys->ys[i]? = some y),
   fun i H=>∃ xs ys,SqL K H a xs/\SqL K H b ys/\(xs.length<=i\/ys.length<=i)⟩
noncomputable def Ite (K:PySem.W.Frag) (a:Addr):It :=
  ⟨fun i H=>∃ xs x,SqL K H a xs/\xs[i]? = some x,
   fun i H v H'=>∃ T x,v=.ref T/\H T=none/\H'=upd H T (.tup [.int i,x])/\(∀ xs,SqL K H a xs->xs[i]? = some x),
   fun i H=>∃ xs,SqL K H a xs/\xs.length<=i⟩
theorem turn_zip {P:Program} {w:World} {K:PySem.W.Frag} {elts:List Expr} {k0} {pos:Pos} {z TI TO i1 i2 l1 l2:Addr} (D:ZipApart z TI TO i1 i2 l1 l2):Turn P w K (.Tuple elts k0 pos) (Itz K l1 l2) [z,TI,TO,i1,i2] z
    (fun i h=>IsZip h z TI TO .none/\IsPair h TI (.ref i1) (.ref i2)/\(∃ a b,IsPair h TO a b)/\h.IsListIter i1 l1 i/\h.IsListIter i2 l2 i) where
  mem:=by simp
  obj := fun i h st b hb=>by
    obtain ⟨hz,hTI,⟨a,c,hTO⟩,h1,h2⟩:=st
    simp only [List.mem_cons,List.not_mem_nil,or_false] at hb
    rcases hb with rfl | rfl | rfl | rfl | rfl
    . exact ⟨_,hz,fun v q=>nomatch q⟩
    . exact ⟨_,hTI,fun v q=>nomatch q⟩
    . exact ⟨_,hTO,fun v q=>nomatch q⟩
    . obtain ⟨o,e,c,d⟩:=h1
      exact ⟨o,e,fun v q=>by rw [d] at q;cases q⟩
    . obtain ⟨o,e,c,d⟩:=h2
      exact ⟨o,e,fun v q=>by rw [d] at q;cases q⟩
  keep:=fun i h h' st k=>by
    obtain ⟨hz,hTI,⟨a,c,hTO⟩,h1,h2⟩:=st
    exact ⟨k z (by simp) _ hz,k TI (by simp) _ hTI,⟨a,c,k TO (by simp) _ hTO⟩,h1.at fun o e=>k i1 (by simp) o e,h2.at fun o e=>k i2 (by simp) o e⟩
  item := by
    intro X hP hw hK hc i pins s σ H E I hf st hg
    subst hP hw hK
    obtain ⟨hz,hTI,⟨a,c,hTO⟩,h1,h2⟩:=st
    obtain ⟨xs,ys,x,y,hx,hy,hxi,hyi⟩:=hg
    obtain ⟨its,rv,p,_⟩:=I.list hx
    obtain ⟨its2,rv2,p2,_⟩:=I.list hy
    obtain ⟨u,hu,ru⟩:=rv.get hxi
    obtain ⟨u2,hu2,ru2⟩:=rv2.get hyi
    refine wpAny_pyNext_zip_item D hz hTI hTO h1 h2 p.isList p2.isList (x:=u) (y:=u2) (by simpa using hu) (by simpa using hu2) fun h' a1 a2 a3 a4 a5 a6 hk=>?_
    refine ⟨_,rfl,wpAny_letOwnedTupleGo_zip a1 fun h'' hz' sb=>?_⟩
    have nz:s.heap.objs.size≠z:=Nat.ne_of_gt (Heap.lt_size hz)
    have hT':IsTup h'' s.heap.objs.size [u,u2].toArray:=⟨_,sb.extBut _ _ nz a5,rfl,_,rfl⟩
    have I':Inv X pins σ (upd H s.heap.objs.size (.tup [x,y])) { s with heap:=h'',toks:=s.toks }:=I.turnedL (ch:=[z,TI,TO,i1,i2]) hf (fun b o hb e=>by
      simp only [List.mem_cons,List.not_mem_nil,or_false,not_or] at hb
      exact sb.extBut _ _ hb.1 (hk b o hb.1 hb.2.2.1 hb.2.2.2.1 hb.2.2.2.2 e)) (Nat.le_refl _) ⟨by show 2<=sizeLine;decide,[u,u2],.cons ru (.cons ru2 .nil),hT'⟩
    have hn:H s.heap.objs.size=none:=I.hok.fresh (Nat.le_refl _)
    refine ⟨.ref s.heap.objs.size,_,I',rfl,⟨_,x,y,rfl,hn,rfl,fun zs hzs=>by rw [I.list_inj hzs hx];exact hxi,fun zs hzs=>by rw [I.list_inj hzs hy];exact hyi⟩,
      ⟨hz',sb.extBut _ _ D.TIz (hk _ _ D.TIz D.TITO D.TIi1 D.TIi2 hTI),⟨_,_,sb.extBut _ _ D.TOz a2⟩,a3.extBut sb.extBut D.i1z,a4.extBut sb.extBut D.i2z⟩,fun b hb=>?_⟩
    have hfb:=(hf b hb).1
    have : b≠s.heap.objs.size:=by
      obtain ⟨o,e⟩:∃ o,s.heap.get? b=some o:=by
        simp only [List.mem_cons,List.not_mem_nil,or_false] at hb
        rcases hb with rfl | rfl | rfl | rfl | rfl
        . exact ⟨_,hz⟩
        . exact ⟨_,hTI⟩
        . exact ⟨_,hTO⟩
        . obtain ⟨o,e,_⟩:=h1;exact ⟨o,e⟩
        . obtain ⟨o,e,_⟩:=h2;exact ⟨o,e⟩
      exact Nat.ne_of_lt (Heap.lt_size e)
    rw [upd_ne this];exact hfb
  done := by
    intro X hP hw hK hc i pins s σ H E I hf st hg
    subst hP hw hK
    obtain ⟨hz,hTI,⟨a,c,hTO⟩,h1,h2⟩:=st
    obtain ⟨xs,ys,hx,hy,hend⟩:=hg
    obtain ⟨its,rv,p,_⟩:=I.list hx
    obtain ⟨its2,rv2,p2,_⟩:=I.list hy
    have hl:=rv.length
    have hl2:=rv2.length
    refine wpAny_pyNext_zip_end (I.ok.hd hc) D hz hTI hTO h1 h2 p.isList p2.isList ?_ fun h' hk=>⟨rfl,I.turnedM (t':=s.toks) (ch:=[z,TI,TO,i1,i2]) hf (fun b o hb e=>by
      simp only [List.mem_cons,List.not_mem_nil,or_false,not_or] at hb
      exact hk b o hb.1 hb.2.2.1 hb.2.2.2.1 hb.2.2.2.2 e)⟩
    rcases hend with h | h
    . exact .inl (by simp;lia)
    . exact .inr (by simp;lia)
  self:=fun _ _ _ _ _ st h=>wpAny_pyIter_zip st.1 h
theorem turn_enum {P:Program} {w:World} {K:PySem.W.Frag} {elts:List Expr} {k0} {pos:Pos} {e it l:Addr} (hne:e≠it):Turn P w K (.Tuple elts k0 pos) (Ite K l) [e,it] e
    (fun i h=>(∃ old,IsEnum h e it i old)/\h.IsListIter it l i) where
  mem:=by simp
  obj := fun i h st b hb=>by
    obtain ⟨⟨old,he⟩,h1⟩:=st
    simp only [List.mem_cons,List.not_mem_nil,or_false] at hb
    rcases hb with rfl | rfl
    . exact ⟨_,he,fun v q=>nomatch q⟩
    . obtain ⟨o,e,c,d⟩:=h1
      exact ⟨o,e,fun v q=>by rw [d] at q;cases q⟩
  keep:=fun i h h' st k=>by
    obtain ⟨⟨old,he⟩,h1⟩:=st
    exact ⟨⟨old,k e (by simp) _ he⟩,h1.at fun o q=>k it (by simp) o q⟩
  item := by
    intro X hP hw hK hc i pins s σ H E I hf st hg
    subst hP hw hK
    obtain ⟨⟨old,he⟩,h1⟩:=st
    obtain ⟨xs,x,hx,hxi⟩:=hg
    obtain ⟨its,rv,p,_⟩:=I.list hx
    obtain ⟨u,hu,ru⟩:=rv.get hxi
    refine wpAny_pyNext_enum_item he h1 p.isList (x:=u) (by simpa using hu) hne fun h' a1 a2 a3 a4 hk=>?_
    refine ⟨_,rfl,wpAny_letOwnedTupleGo_enum a1 fun h'' he' sb=>?_⟩
    have nz:s.heap.objs.size≠e:=Nat.ne_of_gt (Heap.lt_size he)
    have hT':IsTup h'' s.heap.objs.size [Value.int i s.toks,u].toArray:=⟨_,sb.extBut _ _ nz a3,rfl,_,rfl⟩
    have I':Inv X pins σ (upd H s.heap.objs.size (.tup [.int i,x])) { s with heap:=h'',toks:=s.toks + 1 }:=I.turnedL (ch:=[e,it]) hf (fun b o hb q=>by
      simp only [List.mem_cons,List.not_mem_nil,or_false,not_or] at hb
      exact sb.extBut _ _ hb.1 (hk b o hb.1 hb.2 q)) (Nat.le_refl _) ⟨by show 2<=sizeLine;decide,[Value.int i s.toks,u],.cons ⟨_,rfl⟩ (.cons ru .nil),hT'⟩
    have hn:H s.heap.objs.size=none:=I.hok.fresh (Nat.le_refl _)
    refine ⟨.ref s.heap.objs.size,_,I',rfl,⟨_,x,rfl,hn,rfl,fun zs hzs=>by rw [I.list_inj hzs hx];exact hxi⟩,⟨⟨_,by push_cast;exact he'⟩,a2.extBut sb.extBut (Ne.symm hne)⟩,fun b hb=>?_⟩
    have hfb:=(hf b hb).1
    have : b≠s.heap.objs.size:=by
      obtain ⟨o,q⟩:∃ o,s.heap.get? b=some o:=by
        simp only [List.mem_cons,List.not_mem_nil,or_false] at hb
        rcases hb with rfl | rfl
        . exact ⟨_,he⟩
        . obtain ⟨o,q,_⟩:=h1;exact ⟨o,q⟩
      exact Nat.ne_of_lt (Heap.lt_size q)
    rw [upd_ne this];exact hfb
  done := by
    intro X hP hw hK hc i pins s σ H E I hf st hg
    subst hP hw hK
    obtain ⟨⟨old,he⟩,h1⟩:=st
    obtain ⟨xs,hx,hend⟩:=hg
    obtain ⟨its,rv,p,_⟩:=I.list hx
    have hl:=rv.length
    exact wpAny_pyNext_enum_end (I.ok.hd hc) he h1 p.isList (by simp;lia) fun h' hk=>⟨rfl,I.turnedM (t':=s.toks) (ch:=[e,it]) hf (fun b o hb q=>by
      simp only [List.mem_cons,List.not_mem_nil,or_false,not_or] at hb
      exact hk b o hb.2 q)⟩
  self:=fun _ _ _ _ _ st h=>by
    obtain ⟨⟨old,he⟩,h1⟩:=st
    exact wpAny_pyIter_enum he h
noncomputable def uZip (K:PySem.W.Frag):List V->Hp->(It->Hp->Prop)->Prop:=fun vs H R=>match vs with
  | [.ref a,.ref b]=>(∃ xs ys,SqL K H a xs/\SqL K H b ys)/\R (Itz K a b) H
  | _=>False
noncomputable def uEnum (K:PySem.W.Frag):List V->Hp->(It->Hp->Prop)->Prop:=fun vs H R=>match vs with
  | [.ref a]=>(∃ xs,SqL K H a xs)/\R (Ite K a) H
  | _=>False
noncomputable def jArgs (u:List V->Hp->(It->Hp->Prop)->Prop) (ta:TA):TI:=fun σ H R=>ta σ H fun vs H1=>u vs H1 R
theorem boot_enumerate:bootBuiltins "enumerate"=some (.type "enumerate"):=by decide +kernel
theorem g2 {K:PySem.W.Frag} {T:Addr} {x y:V} {k0 k1:Option V} {fr:St} {H:Hp} {Q:St->Hp->Prop} (h:SqT K H T [x,y]) (q:Q (some x::some y::fr) H):gTup K 2 (gCons (gName 0) (gCons (gName 1) gNil)) (.ref T) (k0::k1::fr) H Q :=
  ⟨T,_,rfl,h,rfl,_,_,rfl,_,_,rfl,rfl,q⟩
end L2
namespace L2
open PySem PySem.Spec PyProof.Rows
end L2
namespace L2
open PySem PySem.Spec PyProof.Rows
theorem argBest_min (ns:List Int):∀ k i,i<=k->MM.at0 ns (argBest (fun i j=>decide (MM.at0 ns i < MM.at0 ns j)) k)<=MM.at0 ns i
  | 0, i,h=>by
    have:i=0:=by lia
    subst this
    exact Int.le_refl _
  | k + 1, i,h=>by
    rw [argBest]
    have ih:=argBest_min ns k
    split
    . rename_i hb
      have hb:=of_decide_eq_true hb
      by_cases e:i=k + 1
      . rw [e];exact Int.le_refl _
      . have:=ih i (by lia)
        lia
    . rename_i hb
      have hb:¬ (MM.at0 ns (k + 1) < MM.at0 ns (argBest (fun i j=>decide (MM.at0 ns i < MM.at0 ns j)) k)):=fun z=>hb (decide_eq_true z)
      by_cases e:i=k + 1
      . rw [e];lia
      . exact ih i (by lia)
theorem argBest_max (ns:List Int):∀ k i,i<=k->MM.at0 ns i<=MM.at0 ns (argBest (fun i j=>decide (MM.at0 ns j < MM.at0 ns i)) k)
  | 0, i,h=>by
    have:i=0:=by lia
    subst this
    exact Int.le_refl _
  | k + 1, i,h=>by
    rw [argBest]
    have ih:=argBest_max ns k
    split
    . rename_i hb
      have hb:=of_decide_eq_true hb
      by_cases e:i=k + 1
      . rw [e];exact Int.le_refl _
      . have:=ih i (by lia)
        lia
    . rename_i hb
      have hb:¬ (MM.at0 ns (argBest (fun i j=>decide (MM.at0 ns j < MM.at0 ns i)) k) < MM.at0 ns (k + 1)):=fun z=>hb (decide_eq_true z)
      by_cases e:i=k + 1
      . rw [e];lia
      . exact ih i (by lia)
theorem at0_mem {ns:List Int} {i:Nat} (h:i < ns.length):MM.at0 ns i∈ns:=by
  unfold MM.at0
  rw [List.getD_eq_getElem?_getD,List.getElem?_eq_getElem h]
  exact List.getElem_mem h
theorem mem_at0 {ns:List Int} {x:Int} (h:x∈ns):∃ i,i < ns.length/\MM.at0 ns i=x:=by
  obtain ⟨i,hi,e⟩:=List.mem_iff_getElem.mp h
  refine ⟨i,hi,?_⟩
  unfold MM.at0
  rw [List.getD_eq_getElem?_getD,List.getElem?_eq_getElem hi]
  exact e
theorem vals_at0 {ns:List Int} {its:List Value} (rv:Vals (ns.map V.int) its) {i:Nat} {v:Value} (h:its.toArray[i]? = some v):i < ns.length/\∃ t,v=.int (MM.at0 ns i) t:=by
  have hv':its[i]? = some v:=by simpa using h
  have hlen:=rv.length
  have hi:i < ns.length:=by
    have:=(List.getElem?_eq_some_iff.mp hv').1
    rw [List.length_map] at hlen
    lia
  refine ⟨hi,?_⟩
  have e:(ns.map V.int)[i]? = some (.int (MM.at0 ns i)):=by
    rw [List.getElem?_map,List.getElem?_eq_getElem hi]
    unfold MM.at0
    rw [List.getD_eq_getElem?_getD,List.getElem?_eq_getElem hi]
    rfl
  obtain ⟨u,hu,ru⟩:=rv.get e
  rw [hv'] at hu
  cases hu
  exact ru
section
variable {X:Cx}
noncomputable def uMinA (K:PySem.W.Frag):List V->Hp->VK->Prop:=fun xs H Q=>match xs with
  | [.int i,.int j]=>Q (.int (min i j)) H
  | [.ref p]=>∃ ns:List Int,SqL K H p (ns.map V.int)/\1<=ns.length/\∀ m,m∈ns->(∀ x∈ns,m<=x)->Q (.int m) H
  | _=>False
noncomputable def uMaxA (K:PySem.W.Frag):List V->Hp->VK->Prop:=fun xs H Q=>match xs with
  | [.int i,.int j]=>Q (.int (max i j)) H
  | [.ref p]=>∃ ns:List Int,SqL K H p (ns.map V.int)/\1<=ns.length/\∀ m,m∈ns->(∀ x∈ns,x<=m)->Q (.int m) H
  | _=>False
theorem c_minL (hc:X.calm=true):CallR X (.builtin "min") (fun xs H Q=>∃ (p:Addr) (ns:List Int),xs=[.ref p]/\SqL X.K H p (ns.map V.int)/\1<=ns.length/\∀ m,m∈ns->(∀ x∈ns,m<=x)->Q (.int m) H):=by
  intro pins s σ H xs us Q I r h
  obtain ⟨p,ns,rfl,hl,h1,q⟩:=h
  obtain ⟨u,rfl,ru⟩:=r.one
  cases ru
  obtain ⟨its,rv,pl,hz⟩:=I.list hl
  have hlen:its.toArray.size=ns.length:=by have:=rv.length;simp at this;simp;lia
  have hp:p < s.heap.objs.size:=by obtain ⟨o,n,e,_⟩:=pl;exact Heap.lt_size e
  refine call_min_walk (wpAny_pyIter_list pl.isList ?_)
  refine ⟨s.heap.objs.size,_,_,_,_,_,fun i j=>decide (MM.at0 ns i < MM.at0 ns j),rfl,Walks.list (show X.A.in1.handled=none from I.ok.hd hc) s.heap.objs.size p (Nat.ne_of_lt hp) its.toArray,⟨⟨_,Heap.get?_push_size _ rfl,rfl,rfl⟩,pl.isList.at fun o e=>Heap.get?_push_of_some _ e⟩,?_,by rw [hlen];exact h1,?_,?_⟩
  . intro b hb
    rw [Heap.size_push]
    rcases List.mem_cons.mp hb with rfl | hb
    . exact Nat.lt_succ_self _
    . have:b=p:=by simpa using hb
      subst this
      exact Nat.lt_succ_of_lt hp
  . intro i j vi vj s' Q' E' hi hj hq
    obtain ⟨_,t,rfl⟩:=vals_at0 rv hi
    obtain ⟨_,t',rfl⟩:=vals_at0 rv hj
    exact HT.rcLt_int _ _ _ _ _ _ _ _ _ _ hq
  . intro v h' tk hv hk
    obtain ⟨hi,t,rfl⟩:=vals_at0 rv hv
    rw [hlen] at hi ⊢
    refine ⟨.int _,H,I.kept (t':=tk) fun b o e=>hk b o (by simp;exact Nat.ne_of_lt (Heap.lt_size e)) (Heap.get?_push_of_some _ e),⟨_,rfl⟩,q _ (at0_mem hi) fun x hx=>?_⟩
    obtain ⟨j,hj,rfl⟩:=mem_at0 hx
    exact argBest_min ns (ns.length - 1) j (by lia)
theorem c_maxL (hc:X.calm=true):CallR X (.builtin "max") (fun xs H Q=>∃ (p:Addr) (ns:List Int),xs=[.ref p]/\SqL X.K H p (ns.map V.int)/\1<=ns.length/\∀ m,m∈ns->(∀ x∈ns,x<=m)->Q (.int m) H):=by
  intro pins s σ H xs us Q I r h
  obtain ⟨p,ns,rfl,hl,h1,q⟩:=h
  obtain ⟨u,rfl,ru⟩:=r.one
  cases ru
  obtain ⟨its,rv,pl,hz⟩:=I.list hl
  have hlen:its.toArray.size=ns.length:=by have:=rv.length;simp at this;simp;lia
  have hp:p < s.heap.objs.size:=by obtain ⟨o,n,e,_⟩:=pl;exact Heap.lt_size e
  refine call_max_walk (wpAny_pyIter_list pl.isList ?_)
  refine ⟨s.heap.objs.size,_,_,_,_,_,fun i j=>decide (MM.at0 ns j < MM.at0 ns i),rfl,Walks.list (show X.A.in1.handled=none from I.ok.hd hc) s.heap.objs.size p (Nat.ne_of_lt hp) its.toArray,⟨⟨_,Heap.get?_push_size _ rfl,rfl,rfl⟩,pl.isList.at fun o e=>Heap.get?_push_of_some _ e⟩,?_,by rw [hlen];exact h1,?_,?_⟩
  . intro b hb
    rw [Heap.size_push]
    rcases List.mem_cons.mp hb with rfl | hb
    . exact Nat.lt_succ_self _
    . have:b=p:=by simpa using hb
      subst this
      exact Nat.lt_succ_of_lt hp
  . intro i j vi vj s' Q' E' hi hj hq
    obtain ⟨_,t,rfl⟩:=vals_at0 rv hi
    obtain ⟨_,t',rfl⟩:=vals_at0 rv hj
    have hq':Q' (.bool (decide (MM.at0 ns i > MM.at0 ns j))) s':=hq
    exact (PyProof.Rows.gt_int hq':wpAny _ _ (compareOp .Gt _ _) _ _ _)
  . intro v h' tk hv hk
    obtain ⟨hi,t,rfl⟩:=vals_at0 rv hv
    rw [hlen] at hi ⊢
    refine ⟨.int _,H,I.kept (t':=tk) fun b o e=>hk b o (by simp;exact Nat.ne_of_lt (Heap.lt_size e)) (Heap.get?_push_of_some _ e),⟨_,rfl⟩,q _ (at0_mem hi) fun x hx=>?_⟩
    obtain ⟨j,hj,rfl⟩:=mem_at0 hx
    exact argBest_max ns (ns.length - 1) j (by lia)
theorem c_minA (hc:X.calm=true):CallR X (.builtin "min") (uMinA X.K):=((c_min hc).or (c_minL hc)).imp fun xs H Q q=>by
  unfold uMinA at q
  split at q
  . exact .inl q
  . obtain ⟨ns,h1,h2,h3⟩:=q
    exact .inr ⟨_,ns,rfl,h1,h2,h3⟩
  . exact q.elim
theorem c_maxA (hc:X.calm=true):CallR X (.builtin "max") (uMaxA X.K):=((c_max hc).or (c_maxL hc)).imp fun xs H Q q=>by
  unfold uMaxA at q
  split at q
  . exact .inl q
  . obtain ⟨ns,h1,h2,h3⟩:=q
    exact .inr ⟨_,ns,rfl,h1,h2,h3⟩
  . exact q.elim
end
end L2
namespace L2
open PySem PySem.Spec PyProof.Rows
section
variable {prog:Program} {w:World} {A:Around} {E:Value->Shared->Prop} {s:Shared}
theorem cat_tup0 {t b:Addr} {ws:List Value} {Q:Value->Shared->Prop} (ht:IsTup s.heap t #[]) (hb:IsTup s.heap b ws.toArray) (h:Q (.ref b) s):wpAny (model prog w) A (binaryOp .Add (.ref t) (.ref b)) Q E s:=by
  obtain ⟨⟨c1,d1,x1,l1⟩,g1,k1,n1,z1⟩:=id ht
  obtain ⟨⟨c2,d2,x2,l2⟩,g2,k2,n2,z2⟩:=id hb
  simp only at k1 z1 k2 z2
  subst k1 z1 k2 z2
  exact concat_meets ⟨_,g1,rfl⟩ ⟨_,g2,rfl⟩ PySem.noFill_tuple_add PySem.seq_tuple_add PySem.F.slot_tuple_add PySem.F.entry_tuple_add (PySem.F.args_tuple_add_2 _ _) (tuple_addW0 t b #[] ws.toArray n1 n2 d1 d2 l1 l2 rfl) ⟨g1,g2,h⟩
end
section
variable {X:Cx}
noncomputable def rCatU (K:PySem.W.Frag):R2:=fun x y H Q=>∃ a b xs ys,x=.ref a/\y=.ref b/\SqT K H a xs/\SqT K H b ys/\xs.length + ys.length<=sizeLine/\∀ p H',Same H H'->SqT K H' p (xs++ys)->Q (.ref p) H'
theorem op_catU:OpR X (binaryOp .Add) (rCatU X.K):=by
  intro pins s σ H x y v u Q I rx ry h
  obtain ⟨a,b,xs,ys,rfl,rfl,ha,hb,hz,q⟩:=h
  by_cases hx:xs=[]
  . subst hx
    cases rx
    cases ry
    obtain ⟨its,r1,p1,_⟩:=I.tuple ha
    obtain ⟨its2,r2,p2,_⟩:=I.tuple hb
    cases r1
    exact cat_tup0 p1 p2 ⟨.ref b,H,I,rfl,q b H (Same.refl _) hb⟩
  . refine op_catT pins s σ H (.ref a) (.ref b) v u Q I rx ry ⟨a,b,xs,ys,rfl,rfl,ha,hb,hx,hz,fun e=>?_,fun _ p hp=>?_⟩
    . subst e
      exact q a H (Same.refl _) (by rw [List.append_nil];exact ha)
    . exact q p _ (Same.upd_new hp) (SqT.of upd_same)
noncomputable def rSlU (K:PySem.W.Frag):V->Option Int->Option Int->Hp->VK->Prop:=fun x lo hi H Q=>∃ a xs,x=.ref a/\SqT K H a xs/\∀ p H',Same H H'->SqT K H' p (cutV xs lo hi)->Q (.ref p) H'
end
section
variable {prog:Program} {w:World} {A:Around} {E:Value->Shared->Prop} {s:Shared}
theorem cut_whole {t sl:Addr} {items:Array Value} {vl vu:Value} {lo hi:Option Int} {Q:Value->Shared->Prop} (ht:IsTup s.heap t items) (hs:s.heap.IsSliceOf sl vl vu .none) (pl:IsPart vl lo) (pu:IsPart vu hi)
    (h1:HT.sIx items.size 0 lo=0) (h2:HT.sIx items.size items.size hi=items.size) (h:Q (.ref t) s):wpAny (model prog w) A (getItem (.ref t) (.ref sl)) Q E s:=by
  obtain ⟨ob,g1,g2,g3⟩:=id hs
  have hT:s.TypeIs (.ref sl) "slice":=⟨ob,g1,g2⟩
  unfold getItem
  try with_reducible refine wpAny_holding ?_
  first | refine wpAny_bind (wpAny_pure ?_) | skip
  refine wpAny_bind (wpAny_sequenceKey ht.typeIs (by decide) ?_)
  have key:wpAny (model prog w) A.in1 (Builtin.«tuple.__getitem__» ⟨[.ref t,.ref sl],[]⟩) (fun fin s'=>∃ v,fin=.done (.ret v)/\Q v s') E s:=by
    show wpAny _ _ (Builtin.Tuple.tupleItemsOf (.ref t) >>= _) _ _ s
    refine wpAny_bind (PyProof.Rows.tupleItemsOf_ ht (wpAny_bind (wpAny_typeOf hT ?_)))
    rw [if_pos (by decide)]
    refine wpAny_bind (HT.sliceApplied_gen hs pl pu ?_)
    rw [h1,h2]
    show wpAny _ _ (if ((((0:Nat):Int) == 0 && (1:Int) == 1 && (items.size - 0) == items.size))=true then _ else _) _ _ s
    rw [if_pos (by simp)]
    refine wpAny_bind (wpAny_bind (wpAny_typeOf ht.typeIs (wpAny_pure ?_)))
    rw [if_pos (by decide)]
    exact wpAny_bind (wpAny_rule (wpAny_pure ⟨_,rfl,h⟩))
  exact wpAny_bind (wpAny_callSpecial?_slot (name:=Str.ofString "__getitem__") ht.typeIs PyProof.Rows.slot_tuple_getitem (wpAny_call_entry PyProof.Rows.slot_tuple_getitem ht.typeIs PyProof.Rows.entry_tuple_getitem (wpAny_mono key (fun fin s' ⟨v,e,q⟩=>⟨v,e,wpAny_pure q⟩) fun _ _ z=>z) (PyProof.Rows.args_tuple_getitem _ _)))
end
section
variable {X:Cx}
theorem cutV_whole {xs:List V} {lo hi:Option Int} (h1:HT.sIx xs.length 0 lo=0) (h2:HT.sIx xs.length xs.length hi=xs.length):cutV xs lo hi=xs:=by
  unfold cutV
  rw [h1,h2,List.drop_zero,Nat.sub_zero,List.take_length]
theorem sl_tupU:SlR X (rSlU X.K):=by
  intro pins s σ H x v vl vu lo hi sl Q I rx hs pl pu h
  obtain ⟨a,xs,rfl,hx,q⟩:=h
  by_cases hw:HT.sIx xs.length 0 lo=0/\HT.sIx xs.length xs.length hi=xs.length
  . cases rx
    obtain ⟨its,r,ht,hz⟩:=I.tuple hx
    have hlen:its.toArray.size=xs.length:=by rw [List.size_toArray];exact r.length.symm
    refine ⟨"tuple",_,PyProof.Rows.slot_tuple_getitem.lookup,ht.typeIs,cut_whole ht hs pl pu (by rw [hlen];exact hw.1) (by rw [hlen];exact hw.2) ⟨.ref a,H,I,rfl,q a H (Same.refl _) ?_⟩⟩
    rw [cutV_whole hw.1 hw.2]
    exact hx
  . exact sl_tup pins s σ H (.ref a) v vl vu lo hi sl Q I rx hs pl pu ⟨a,xs,rfl,hx,hw,fun p hp=>q p _ (Same.upd_new hp) (SqT.of upd_same)⟩
noncomputable def uAddW (K:PySem.W.Frag):R2:=fun x y H Q=>match x,y with
  | .int i,.int j=>Q (.int (i + j)) H
  | .str i,.str j=>i.length + j.length<=sizeLine/\Q (.str (i++j)) H
  | .ref a,.ref b=>(∃ xs zs,SqL K H a xs/\SqL K H b zs/\xs.length + zs.length<=sizeLine/\∀ p,H p=none->Q (.ref p) (upd H p (.lst (xs++zs)))) \/
      (∃ xs zs,SqT K H a xs/\SqT K H b zs/\xs.length + zs.length<=sizeLine/\∀ p H',Same H H'->SqT K H' p (xs++zs)->Q (.ref p) H')
  | _,_=>False
theorem o_addW:OpR X (binaryOp .Add) (uAddW X.K):=((op_add.or op_add_str).or (op_catL.or op_catU)).imp fun x y H Q q=>by
  unfold uAddW at q
  split at q
  . exact .inl (.inl ⟨_,_,rfl,rfl,q⟩)
  . exact .inl (.inr ⟨_,_,rfl,rfl,q.1,q.2⟩)
  . rcases q with ⟨xs,zs,h1,h2,h3,h4⟩ | ⟨xs,zs,h1,h2,h3,h4⟩
    . exact .inr (.inl ⟨_,_,xs,zs,rfl,rfl,h1,h2,h3,h4⟩)
    . exact .inr (.inr ⟨_,_,xs,zs,rfl,rfl,h1,h2,h3,h4⟩)
  . exact q.elim
noncomputable def uSlW (K:PySem.W.Frag):V->Option Int->Option Int->Hp->VK->Prop:=fun x lo hi H Q=>match x with
  | .str z=>z.length<=sizeLine/\Q (.str (cutS z lo hi)) H
  | .ref a=>(∃ xs,SqL K H a xs/\∀ p,H p=none->Q (.ref p) (upd H p (.lst (cutV xs lo hi))))\/(∃ xs,SqT K H a xs/\∀ p H',Same H H'->SqT K H' p (cutV xs lo hi)->Q (.ref p) H')
  | _=>False
theorem o_slW:SlR X (uSlW X.K):=by
  intro pins s σ H x v vl vu lo hi sl Q I rx hs pl pu q
  unfold uSlW at q
  split at q
  . exact sl_str pins s σ H _ v vl vu lo hi sl Q I rx hs pl pu ⟨_,rfl,q.1,q.2⟩
  . rcases q with ⟨xs,h1,h2⟩ | ⟨xs,h1,h2⟩
    . exact sl_list pins s σ H _ v vl vu lo hi sl Q I rx hs pl pu ⟨_,xs,rfl,h1,h2⟩
    . exact sl_tupU pins s σ H _ v vl vu lo hi sl Q I rx hs pl pu ⟨_,xs,rfl,h1,h2⟩
  . exact q.elim
end
section
open PySem.AutoSeq1 (wpAny_loadPart')
variable {prog:Program} {w:World} {A:Around} {E:Value->Shared->Prop} {s:Shared}
theorem enum_new_tup (t:Addr) (items:Array Value) (n:Nat) (dd:Option Addr) (sl:Array (Option Value)) :
    Meets (Builtin.«enumerate.__new__» ⟨[.type "enumerate",.ref t],[]⟩) (fun _ R s=>s.heap.get? t=some { cls:=.type "tuple",dict:=dd,data:=.seq items n,slots:=sl } /\
      R (.ok (.ret (.ref (s.heap.push { cls:=.type "tuple_iterator",data:=.fields #[.ref t,.int 0 0] }).objs.size)))
        { s with heap:=(s.heap.push { cls:=.type "tuple_iterator",data:=.fields #[.ref t,.int 0 0] }).push { cls:=.type "enumerate",data:=.fields #[.none,.bool false,.ref s.heap.objs.size,rawInt 0,.none,.none] } }) :=
  .of_wp fun prog w A R s hq0=>by
    obtain ⟨g1,g2⟩:=hq0
    obtain ⟨hp,ge,dr,tk,os⟩:=s
    have es:=sub_enumerate
    have hL:Heap.IsTuple (Shared.heap ⟨hp,ge,dr,tk,os⟩) t items:=⟨_,g1,rfl,n,rfl⟩
    wp_walk using wpAny_loadPart' g1
    refine wpAny_stack_any fun st=>wpAny_pure ?_
    split
    . rename_i cc _ _ _ _ _
      cases (cc == Value.type "enumerate") <;> (wp_walk using wpAny_loadPart' g1,wpAny_pyIter_tuple hL;exact ⟨_,rfl,g2⟩)
    . wp_walk using wpAny_loadPart' g1,wpAny_pyIter_tuple hL
      exact ⟨_,rfl,g2⟩
end
section
variable {prog:Program} {w:World} {A:Around} {E:Value->Shared->Prop} {s:Shared}
theorem call_enum_tup {t:Addr} {items:Array Value} {Q:Value->Shared->Prop} (ht:s.heap.IsTuple t items)
    (h:∀ h',IsEnum h' (s.heap.objs.size + 1) s.heap.objs.size 0 .none->h'.IsTupleIter s.heap.objs.size t 0->(∀ b o,s.heap.get? b=some o->h'.get? b=some o)->Q (.ref (s.heap.objs.size + 1)) { s with heap:=h' }) :
    wpAny (model prog w) A (call (.type "enumerate") [.ref t]) Q E s:=by
  obtain ⟨⟨c,dd,dt,sl⟩,g1,k1,n,k2⟩:=ht
  simp only at k1 k2
  subst k1 k2
  have e1:(s.heap.push { cls:=.type "tuple_iterator",data:=.fields #[.ref t,.int 0 0] }).objs.size=s.heap.objs.size + 1:=Heap.size_push ..
  have e2:IsEnum ((s.heap.push { cls:=.type "tuple_iterator",data:=.fields #[.ref t,.int 0 0] }).push { cls:=.type "enumerate",data:=.fields #[.none,.bool false,.ref s.heap.objs.size,rawInt 0,.none,.none] }) (s.heap.objs.size + 1) s.heap.objs.size 0 .none:=by
    rw [<- e1]
    exact Heap.get?_push_size _ rfl
  refine callType_new F.called_enumerate (by decide) (F.typeCall_enumerate_1 _) (F.newCall_enumerate_1 _) (fun ob=>F.args_object_init_2 ob _) F.entry_enumerate_new (enum_new_tup t items n dd sl) ⟨g1,?_⟩
  show _/\_
  rw [e1]
  exact ⟨⟨_,e2,rfl⟩,h _ e2 ⟨_,Heap.get?_push_of_some _ (Heap.get?_push_size _ rfl),rfl,rfl⟩ fun b o z=>Heap.get?_push_of_some _ (Heap.get?_push_of_some _ z)⟩
theorem next_tup_item {it t:Addr} {i:Nat} {items:Array Value} {x:Value} {Q:Value->Shared->Prop} (st:s.heap.IsTupleIter it t i) (ht:s.heap.IsTuple t items) (hx:items[i]? = some x)
    (hQ:∀ h',h'.IsTupleIter it t (i + 1)->Heap.SameBut it s.heap h'->Q x { s with heap:=h' }):wpAny (model prog w) A (Builtin.SmallTypes.nextOf (.ref it)) Q E s:=by
  obtain ⟨ob,g1,g2,g3⟩:=id st
  obtain ⟨ol,k1,k2,n,k3⟩:=ht
  have no:¬ ((Value.ref t == Value.none)=true):=Bool.false_ne_true
  unfold Builtin.SmallTypes.nextOf
  refine wpAny_bind (wpAny_callSpecial?_slot (name:=Str.ofString "__next__") st.typeIs F.slot_tuple_iterator_next (wpAny_call_entry F.slot_tuple_iterator_next st.typeIs F.entry_tuple_iterator_next ?_ (F.args_tuple_iterator_next_1 _)))
  refine (show wpAny _ _ (field (.ref it) 0 >>= _) _ _ s from wpAny_bind (wpAny_field g1 g3 (x:=.ref t) rfl ?_))
  refine (show wpAny _ _ (if (Value.ref t == Value.none)=true then _ else _) _ _ s from ?_)
  rw [if_neg no]
  refine (show wpAny _ _ (field (.ref it) 1 >>= _) _ _ s from wpAny_bind (wpAny_field g1 g3 (x:=.int i 0) rfl ?_))
  refine (show wpAny _ _ (seqItems? (.ref t) >>= _) _ _ s from wpAny_bind (wpAny_seqItems k1 k3 ?_))
  simp only [hx,Int.toNat_natCast]
  refine wpAny_bind (wpAny_setField g1 g3 (by simp) (wpAny_pure ⟨x,rfl,wpAny_pure (hQ _ ⟨_,Heap.get?_update_self _ g1 (Obj.isFreed_of_fields (Obj.data_mapFields g3 _)),(Obj.cls_mapFields ..).trans g2,?_⟩ (Heap.SameBut.update ..))⟩))
  rw [Obj.data_mapFields g3]
  simp [rawInt]
theorem enum_item {e it:Addr} {i:Nat} {x old:Value} {Q:Option Value->Shared->Prop} {T1:Heap->Prop} (he:IsEnum s.heap e it i old) (hne:e≠it)
    (hk:∀ h h',T1 h->(∀ o,h.get? it=some o->h'.get? it=some o)->T1 h')
    (hn:∀ (A':Around) (E':Value->Shared->Prop) (Q':Value->Shared->Prop),(∀ h',T1 h'->Heap.SameBut it s.heap h'->Q' x { s with heap:=h' })->wpAny (model prog w) A' (Builtin.SmallTypes.nextOf (.ref it)) Q' E' s)
    (hQ : ∀ h',IsEnumOut h' e it ((i:Int) + 1) x s.heap.objs.size->T1 h'->h'.get? s.heap.objs.size=some { cls:=.type "tuple",data:=.seq #[.int i s.toks,x] } ->
      (∀ b o,b≠e->b≠it->s.heap.get? b=some o->h'.get? b=some o)->Q (some (.ref s.heap.objs.size)) { s with heap:=h',toks:=s.toks + 1 }) :
    wpAny (model prog w) A (pyNext (.ref e)) Q E s:=by
  have hT:s.TypeIs (.ref e) "enumerate":=⟨_,he,rfl⟩
  have lt:e < s.heap.objs.size:=Heap.lt_size he
  have core:wpAny (model prog w) A.in1 (Builtin.«enumerate.__next__» ⟨[.ref e],[]⟩) (fun fin s'=>∃ v,fin=.done (.ret v)/\wpAny (model prog w) A (pure (some v)) Q E s') (fun _ _=>False) s:=by
    obtain ⟨hp,ge,dr,tk,os⟩:=s
    refine (show wpAny _ _ (field (.ref e) 2 >>= _) _ _ _ from wpAny_bind (wpAny_field he rfl (x:=.ref it) rfl (wpAny_bind (hn _ _ _ fun h1 t1 b1=>?_))))
    have b1:Heap.SameBut it hp h1:=b1
    have g1:IsEnum h1 e it i old:=(b1.2 e hne).trans he
    refine (show wpAny _ _ (field (.ref e) 3 >>= _) _ _ ⟨h1,ge,dr,tk,os⟩ from wpAny_bind (wpAny_field g1 rfl (x:=rawInt i) rfl ?_))
    refine (show wpAny _ _ (field (.ref e) 4 >>= _) _ _ ⟨h1,ge,dr,tk,os⟩ from wpAny_bind (wpAny_field g1 rfl (x:=.none) rfl ?_))
    refine (show wpAny _ _ (mkInt i >>= _) _ _ ⟨h1,ge,dr,tk,os⟩ from wpAny_bind (wpAny_mkInt ?_))
    refine (show wpAny _ _ (setField (.ref e) 3 (rawInt ((i:Int) + 1)) >>= _) _ _ ⟨h1,ge,dr,tk + 1,os⟩ from wpAny_bind (wpAny_setField_rec g1 (by simp) fun h2 g2 b2=>?_))
    have b2:Heap.SameBut e h1 h2:=b2
    have g2:IsEnum h2 e it ((i:Int) + 1) old:=g2
    refine (show wpAny _ _ (setField (.ref e) 4 .none >>= _) _ _ ⟨h2,ge,dr,tk + 1,os⟩ from wpAny_bind (wpAny_setField_rec g2 (by simp) fun h3 g3 b3=>?_))
    have b3:Heap.SameBut e h2 h3:=b3
    have g3:IsEnum h3 e it ((i:Int) + 1) old:=g3
    have z3:h3.objs.size=hp.objs.size:=by rw [b3.1,b2.1,b1.1]
    refine (show wpAny _ _ (newTuple [.int i tk,x] >>= _) _ _ ⟨h3,ge,dr,tk + 1,os⟩ from wpAny_bind (wpAny_newTuple ?_))
    have g4:IsEnum (h3.push { cls:=.type "tuple",data:=.seq #[.int i tk,x] }) e it ((i:Int) + 1) old:=Heap.get?_push_of_some _ g3
    have u4:(h3.push { cls:=.type "tuple",data:=.seq #[.int i tk,x] }).get? hp.objs.size=some { cls:=.type "tuple",data:=.seq #[.int i tk,x] }:=by
      rw [<- z3]
      exact Heap.get?_push_size _ rfl
    have v4:∀ b o,b≠e->b≠it->hp.get? b=some o->(h3.push { cls:=.type "tuple",data:=.seq #[.int i tk,x] }).get? b=some o:=fun b o q1 q2 q3=>Heap.get?_push_of_some _ (b3.extBut b o q1 (b2.extBut b o q1 (b1.extBut b o q2 q3)))
    have w4:T1 (h3.push { cls:=.type "tuple",data:=.seq #[.int i tk,x] }):=hk h1 _ t1 fun o q=>Heap.get?_push_of_some _ (b3.extBut it o (Ne.symm hne) (b2.extBut it o (Ne.symm hne) q))
    generalize h3.push { cls:=.type "tuple",data:=.seq #[.int i tk,x] }=h4 at g4 u4 v4 w4 ⊢
    rw [z3]
    refine (show wpAny _ _ (Builtin.SmallTypes.ownedTupleIsFree (.ref e) >>= _) _ _ ⟨h4,ge,dr,tk + 1,os⟩ from wpAny_bind ?_)
    unfold Builtin.SmallTypes.ownedTupleIsFree
    refine wpAny_bind (wpAny_field g4 rfl (x:=.none) rfl (wpAny_pure ?_))
    simp only [if_true]
    refine wpAny_bind (wpAny_rule (wpAny_bind (wpAny_field g4 rfl (x:=old) rfl (wpAny_bind (wpAny_setField_rec g4 (by simp) fun h5 g5 b5=>?_)))))
    have b5:Heap.SameBut e h4 h5:=b5
    have g5:IsEnum h5 e it ((i:Int) + 1) x:=g5
    refine (show wpAny _ _ (Builtin.SmallTypes.ownedTupleHandOut (.ref e) (.ref hp.objs.size) >>= _) _ _ ⟨h5,ge,dr,tk + 1,os⟩ from wpAny_bind ?_)
    unfold Builtin.SmallTypes.ownedTupleHandOut
    refine wpAny_bind (wpAny_setField_rec g5 (by simp) fun h6 g6 b6=>?_)
    have b6:Heap.SameBut e h5 h6:=b6
    have g6:IsEnumOut h6 e it ((i:Int) + 1) x hp.objs.size:=g6
    refine wpAny_setField_rec g6 (by simp) fun h7 g7 b7=>?_
    have b7:Heap.SameBut e h6 h7:=b7
    have g7:IsEnumOut h7 e it ((i:Int) + 1) x hp.objs.size:=g7
    have on:∀ b o,b≠e->h4.get? b=some o->h7.get? b=some o:=fun b o q1 q2=>b7.extBut b o q1 (b6.extBut b o q1 (b5.extBut b o q1 q2))
    exact wpAny_bind (wpAny_letGo (wpAny_pure ⟨_,rfl,wpAny_pure (hQ h7 g7 (hk h4 h7 w4 fun o q=>on it o (Ne.symm hne) q) (on _ _ (Nat.ne_of_gt lt) u4) fun b o q1 q2 q3=>on b o q1 (v4 b o q1 q2 q3))⟩))
  unfold pyNext
  exact wpAny_bind (wpAny_attempt (wpAny_callSpecial?_slot (name:=Str.ofString "__next__") hT F.slot_enumerate_next (wpAny_call_entry F.slot_enumerate_next hT F.entry_enumerate_next (wpAny_mono core (fun fin s' ⟨v,q1,q2⟩=>⟨v,q1,q2⟩) fun _ _ z=>z.elim) (F.args_enumerate_next_1 _))))
end
section
variable {prog:Program} {w:World} {A:Around} {E:Value->Shared->Prop} {s:Shared}
theorem next_tup_end {it t:Addr} {i:Nat} {items:Array Value} {Q:Value->Shared->Prop} (hh:A.handled=none) (st:s.heap.IsTupleIter it t i) (ht:s.heap.IsTuple t items) (hx:items[i]? = none)
    (hE:∀ h' e,Heap.ExtBut it s.heap h'->(∃ o,h'.get? e=some o/\o.cls=.type "StopIteration")->E (.ref e) { s with heap:=h' }):wpAny (model prog w) A (Builtin.SmallTypes.nextOf (.ref it)) Q E s:=by
  obtain ⟨ob,g1,g2,g3⟩:=id st
  obtain ⟨ol,k1,k2,n,k3⟩:=ht
  have no:¬ ((Value.ref t == Value.none)=true):=Bool.false_ne_true
  unfold Builtin.SmallTypes.nextOf
  refine wpAny_bind (wpAny_callSpecial?_slot (name:=Str.ofString "__next__") st.typeIs F.slot_tuple_iterator_next (wpAny_call_entry F.slot_tuple_iterator_next st.typeIs F.entry_tuple_iterator_next ?_ (F.args_tuple_iterator_next_1 _)))
  refine (show wpAny _ _ (field (.ref it) 0 >>= _) _ _ s from wpAny_bind (wpAny_field g1 g3 (x:=.ref t) rfl ?_))
  refine (show wpAny _ _ (if (Value.ref t == Value.none)=true then _ else _) _ _ s from ?_)
  rw [if_neg no]
  refine (show wpAny _ _ (field (.ref it) 1 >>= _) _ _ s from wpAny_bind (wpAny_field g1 g3 (x:=.int i 0) rfl ?_))
  refine (show wpAny _ _ (seqItems? (.ref t) >>= _) _ _ s from wpAny_bind (wpAny_seqItems k1 k3 ?_))
  simp only [hx,Int.toNat_natCast]
  refine wpAny_bind (wpAny_rule (wpAny_bind (wpAny_setField g1 g3 (by simp) (show wpAny _ _ (newExc (.type "StopIteration") [] >>= _) _ _ _ from wpAny_bind ?_))))
  simp only [newTuple,newExc]
  refine wpAny_bind (wpAny_newObj_type (wpAny_bind (m:=firstArgMember _ _) (wpAny_of_eq (a:=Value.none) (by first | rfl | (simp only [firstArgMember];rfl)) (wpAny_newObj_type ?_ (by size_fits)))) (by size_fits))
  simp only [raiseNew]
  refine wpAny_bind (wpAny_handled ?_)
  first | rw [hh] | rw [show A.in1.handled=none from hh]
  exact wpAny_bind (wpAny_pure (wpAny_throw (hE _ _ (((Heap.SameBut.update ..).extBut.push _).push _) ⟨_,Heap.get?_push_size _ rfl,rfl⟩)))
theorem enum_end {e it:Addr} {i:Int} {old:Value} {Q:Option Value->Shared->Prop} (he:IsEnum s.heap e it i old)
    (hn:∀ (E':Value->Shared->Prop) (Q':Value->Shared->Prop),(∀ h' x,Heap.ExtBut it s.heap h'->(∃ o,h'.get? x=some o/\o.cls=.type "StopIteration")->E' (.ref x) { s with heap:=h' })->wpAny (model prog w) A.in1 (Builtin.SmallTypes.nextOf (.ref it)) Q' E' s)
    (hQ:∀ h',Heap.ExtBut it s.heap h'->Q none { s with heap:=h' }):wpAny (model prog w) A (pyNext (.ref e)) Q E s:=by
  have hT:s.TypeIs (.ref e) "enumerate":=⟨_,he,rfl⟩
  unfold pyNext
  refine wpAny_bind (wpAny_attempt (wpAny_callSpecial?_slot (name:=Str.ofString "__next__") hT F.slot_enumerate_next (wpAny_call_entry F.slot_enumerate_next hT F.entry_enumerate_next ?_ (F.args_enumerate_next_1 _))))
  refine (show wpAny _ _ (field (.ref e) 2 >>= _) _ _ _ from wpAny_bind (wpAny_field he rfl (x:=.ref it) rfl (wpAny_bind (hn _ _ fun h' x q1 q2=>?_))))
  obtain ⟨o,ho,hc⟩:=q2
  exact wpAny_bind (wpAny_isInstance (T:="StopIteration") (b:=true) ⟨o,ho,hc⟩ isSubtype_stop (wpAny_pure (hQ _ q1)))
end
noncomputable def Iteu (K:PySem.W.Frag) (a:Addr):It :=
  ⟨fun i H=>∃ xs x,SqT K H a xs/\xs[i]? = some x,
   fun i H v H'=>∃ T x,v=.ref T/\H T=none/\H'=upd H T (.tup [.int i,x])/\(∀ xs,SqT K H a xs->xs[i]? = some x),
   fun i H=>∃ xs,SqT K H a xs/\xs.length<=i⟩
theorem turn_enumT {P:Program} {w:World} {K:PySem.W.Frag} {elts:List Expr} {k0} {pos:Pos} {e it l:Addr} (hne:e≠it):Turn P w K (.Tuple elts k0 pos) (Iteu K l) [e,it] e
    (fun i h=>(∃ old,IsEnum h e it i old)/\h.IsTupleIter it l i) where
  mem:=by simp
  obj := fun i h st b hb=>by
    obtain ⟨⟨old,he⟩,h1⟩:=st
    simp only [List.mem_cons,List.not_mem_nil,or_false] at hb
    rcases hb with rfl | rfl
    . exact ⟨_,he,fun v q=>nomatch q⟩
    . obtain ⟨o,e,c,d⟩:=h1
      exact ⟨o,e,fun v q=>by rw [d] at q;cases q⟩
  keep:=fun i h h' st k=>by
    obtain ⟨⟨old,he⟩,h1⟩:=st
    exact ⟨⟨old,k e (by simp) _ he⟩,h1.at fun o q=>k it (by simp) o q⟩
  item := by
    intro X hP hw hK hc i pins s σ H E I hf st hg
    subst hP hw hK
    obtain ⟨⟨old,he⟩,h1⟩:=st
    obtain ⟨xs,x,hx,hxi⟩:=hg
    obtain ⟨its,rv,p,_⟩:=I.tuple hx
    obtain ⟨u,hu,ru⟩:=rv.get hxi
    refine enum_item (x:=u) (T1:=fun h=>h.IsTupleIter it l (i + 1)) he hne (fun h h' a b=>a.at b) (fun A' E' Q' q=>next_tup_item h1 p (by simpa using hu) q) fun h' a1 a2 a3 hk=>?_
    refine ⟨_,rfl,wpAny_letOwnedTupleGo_enum a1 fun h'' he' sb=>?_⟩
    have nz:s.heap.objs.size≠e:=Nat.ne_of_gt (Heap.lt_size he)
    have hT':IsTup h'' s.heap.objs.size [Value.int i s.toks,u].toArray:=⟨_,sb.extBut _ _ nz a3,rfl,_,rfl⟩
    have I':Inv X pins σ (upd H s.heap.objs.size (.tup [.int i,x])) { s with heap:=h'',toks:=s.toks + 1 }:=I.turnedL (ch:=[e,it]) hf (fun b o hb q=>by
      simp only [List.mem_cons,List.not_mem_nil,or_false,not_or] at hb
      exact sb.extBut _ _ hb.1 (hk b o hb.1 hb.2 q)) (Nat.le_refl _) ⟨by show 2<=sizeLine;decide,[Value.int i s.toks,u],.cons ⟨_,rfl⟩ (.cons ru .nil),hT'⟩
    have hn:H s.heap.objs.size=none:=I.hok.fresh (Nat.le_refl _)
    refine ⟨.ref s.heap.objs.size,_,I',rfl,⟨_,x,rfl,hn,rfl,fun zs hzs=>by rw [I.tuple_inj hzs hx];exact hxi⟩,⟨⟨_,by push_cast;exact he'⟩,a2.at fun o q=>sb.extBut it o (Ne.symm hne) q⟩,fun b hb=>?_⟩
    have hfb:=(hf b hb).1
    have : b≠s.heap.objs.size:=by
      obtain ⟨o,q⟩:∃ o,s.heap.get? b=some o:=by
        simp only [List.mem_cons,List.not_mem_nil,or_false] at hb
        rcases hb with rfl | rfl
        . exact ⟨_,he⟩
        . obtain ⟨o,q,_⟩:=h1;exact ⟨o,q⟩
      exact Nat.ne_of_lt (Heap.lt_size q)
    rw [upd_ne this];exact hfb
  done := by
    intro X hP hw hK hc i pins s σ H E I hf st hg
    subst hP hw hK
    obtain ⟨⟨old,he⟩,h1⟩:=st
    obtain ⟨xs,hx,hend⟩:=hg
    obtain ⟨its,rv,p,_⟩:=I.tuple hx
    have hl:=rv.length
    exact enum_end he (fun E' Q' q=>next_tup_end (show X.A.in1.handled=none from I.ok.hd hc) h1 p (by simp;lia) q) fun h' hk=>⟨rfl,I.turnedM (t':=s.toks) (ch:=[e,it]) hf (fun b o hb q=>by
      simp only [List.mem_cons,List.not_mem_nil,or_false,not_or] at hb
      exact hk b o hb.2 q)⟩
  self:=fun _ _ _ _ _ st h=>by
    obtain ⟨⟨old,he⟩,h1⟩:=st
    exact wpAny_pyIter_enum he h
noncomputable def uEnumT (K:PySem.W.Frag):List V->Hp->(It->Hp->Prop)->Prop:=fun vs H R=>match vs with
  | [.ref a]=>(∃ xs,SqT K H a xs)/\R (Iteu K a) H
  | _=>False
end L2
namespace L2
open PySem PySem.Spec PyProof.Rows
theorem boot_reversed:bootBuiltins "reversed"=some (.type "reversed"):=by decide +kernel
section
variable {X:Cx} {e:Expr} {te:TE} {p1 p2 pos1 pos2:Pos}
theorem rev_made (hc:X.calm=true) (hg2:Gl X "reversed") (hm2:X.mg "reversed"=none) (he:PE X e te) (hs2:starEach [e] X.env=[(false,eval e X.env)]) {pins:List (Addr × Obj)} {s:Shared} {σ:St} {H:Hp} {R:Addr->List V->Hp->Prop} {Q:Value->Shared->Prop} (I:Inv X pins σ H s)
    (h:te σ H fun x H1=>∃ a xs,x=.ref a/\SqL X.K H1 a xs/\R a xs H1)
    (k:∀ a xs H1 s1 its,Inv X pins σ H1 s1->SqL X.K H1 a xs->Vals xs its->s1.heap.IsList a its.toArray->xs.length<=sizeLine->R a xs H1->Q (.ref s1.heap.objs.size) { s1 with heap:=s1.heap.push (revObj a ((its.toArray.size:Int) - 1)) }) :
    wpAny (model X.prog X.w) X.A (eval (.Call (.Name "reversed" p2) [e] [] pos2) X.env) Q X.xe s:=by
  refine wpAny_Call_Name_kw (ld_blt I hg2 hm2 boot_reversed ?_ (by decide) (by decide))
  refine PyProof.Rows.callWith_type1 (T:="reversed") ?_ hs2 rfl
  rw [hs2]
  refine (show wpAny _ _ (spliced ((false,eval e X.env)::[])) _ _ s from Calls.spliced_cons (thn (he pins s σ H _ I h) fun v s1 ⟨x,H1,I1,r1,a,xs,e1,hx,q⟩=>Calls.spliced_nil ?_))
  subst e1
  cases r1
  obtain ⟨its,rv,pl,hz⟩:=I1.list hx
  exact call_reversed_list pl.isList (k a xs H1 s1 its I1 hx rv pl.isList hz q)
end
end L2
namespace L2
open PySem PySem.Spec PyProof.Rows
inductive Wr where
  | nothing
  | bead (c:Str)
  | side (b:Bool) (f:Wr)
  | pair (f g:Wr)
  | many (k:Nat) (ps:List Wr)
noncomputable def mname:Nat->Str
  | 0=>"row"
  | 1=>"bag"
  | 2=>"choice"
  | _=>"ring"
noncomputable def sname:Bool->Str
  | true=>"right"
  | false=>"left"
noncomputable def Wr.name:Wr->Str
  | .nothing=>"nothing"
  | .bead _=>"bead"
  | .side b _=>sname b
  | .pair _ _=>"pair"
  | .many k _=>mname k
mutual
noncomputable def Wr.tups:Wr->Nat
  | .nothing=>1
  | .bead _=>1
  | .side _ f=>1 + f.tups
  | .pair f g=>1 + (f.tups + (g.tups + 0))
  | .many _ ps=>1 + tupsL ps
noncomputable def tupsL:List Wr->Nat
  | []=>0
  | w::ws=>w.tups + tupsL ws
end
noncomputable def SameT (K:PySem.W.Frag) (H H':Hp):Prop:=∀ a xs,SqT K H a xs->SqT K H' a xs
theorem SameT.trans {K:PySem.W.Frag} {H H1 H2:Hp} (h:SameT K H H1) (k:SameT K H1 H2):SameT K H H2:=fun a xs q=>k a xs (h a xs q)
theorem Same.tups {K:PySem.W.Frag} {H H':Hp} (e:Same H H'):SameT K H H':=fun _ _ h=>e.sq h
theorem SameT.lst {K:PySem.W.Frag} {H:Hp} {l:Addr} {ys zs:List V} (h:H l=some (.lst ys)):SameT K H (upd H l (.lst zs)):=fun a xs q=>by
  rcases q with (q | ⟨o,q⟩) | q
  . refine .inl (.inl ?_)
    rw [upd_ne (ne_of q h (by intro z;cases z))];exact q
  . refine .inl (.inr ⟨o,?_⟩)
    rw [upd_ne (ne_of q h (by intro z;cases z))];exact q
  . exact .inr q
noncomputable def tn (ps:List Wr) (i:Nat):Int:=((ps.map Wr.tups).getD i 0:Nat)
end L2
namespace L2
open PySem PySem.Spec PyProof.Rows
noncomputable def Itv (K:PySem.W.Frag) (a:Addr) (n:Nat):It :=
  ⟨fun i H=>i < n/\∃ xs x,SqL K H a xs/\xs[n - 1 - i]? = some x,fun i H x H'=>H'=H/\∀ xs,SqL K H a xs->xs[n - 1 - i]? = some x,fun i _=>i=n⟩
theorem turn_rev {P:Program} {w:World} {K:PySem.W.Frag} {tg:Expr} (a it:Addr) (n:Nat):Turn P w K tg (Itv K a n) [it] it (fun i h=>h.IsRevIter it a ((n:Int) - 1 - (i:Int))):=by
  refine ⟨by simp,fun i h st b hb=>?_,fun i h h' st k=>st.at fun o e=>k it (by simp) o e,?_,?_,fun _ _ _ _ _ st h=>wpAny_pyIter_revIter st h⟩
  . obtain rfl:b=it:=by simpa using hb
    obtain ⟨o,e1,_,d⟩:=st
    exact ⟨o,e1,fun v z=>by rw [d] at z;cases z⟩
  . intro X e1 e2 e3 hc i pins s σ H E I hf st ⟨hi,xs,x,hq,hx⟩
    subst e1 e2 e3
    obtain ⟨its,rv,pl,hz⟩:=I.list hq
    obtain ⟨u,hu,ru⟩:=rv.get hx
    obtain ⟨f0,f1,_,f3,f4,f5⟩:=hf it (by simp)
    have st2:s.heap.IsRevIter it a ((n - 1 - i:Nat):Int):=by
      have:((n - 1 - i:Nat):Int)=(n:Int) - 1 - (i:Int):=by lia
      rw [this];exact st
    refine wpAny_pyNext_rev_item st2 pl.isList (x:=u) (by simpa using hu) fun h' st' sb=>?_
    have J1:Inv X pins σ H { s with heap:=h' }:=I.turned (t':=s.toks) (fun b o hb z=>(sb.2 b hb).trans z) f0 f1 f3 f4 f5
    have st3:h'.IsRevIter it a ((n:Int) - 1 - ((i + 1:Nat):Int)):=by
      have:(n:Int) - 1 - ((i + 1:Nat):Int)=((n - 1 - i:Nat):Int) - 1:=by lia
      rw [this];exact st'
    obtain ⟨o,z1,z2,z3⟩:=id st'
    refine ⟨u,rfl,go_of (s:={ s with heap:=h' }) z1 z2 z3 (by decide) ⟨x,H,J1,ru,⟨rfl,fun ys hy=>?_⟩,st3,fun b hb=>(hf b hb).1⟩⟩
    rw [I.list_inj hy hq];exact hx
  . intro X e1 e2 e3 hc i pins s σ H E I hf st hi
    subst e1 e2 e3
    have hi:i=n:=hi
    subst hi
    obtain ⟨f0,f1,_,f3,f4,f5⟩:=hf it (by simp)
    have st2:s.heap.IsRevIter it a (-1):=by
      have:(-1:Int)=(i:Int) - 1 - (i:Int):=by lia
      rw [this];exact st
    exact wpAny_pyNext_rev_end (I.ok.hd hc) st2 fun h' eb=>⟨rfl,I.turned (t':=s.toks) (fun b o hb z=>eb b o hb z) f0 f1 f3 f4 f5⟩
section
variable {X:Cx} {tg e:Expr} {te:TE} {p2 pos2:Pos}
noncomputable def jRev (K:PySem.W.Frag) (te:TE):TI:=fun σ H R=>te σ H fun x H1=>∃ a xs,x=.ref a/\SqL K H1 a xs/\R (Itv K a xs.length) H1
theorem pj_rev (hc:X.calm=true) (hg:Gl X "reversed") (hm:X.mg "reversed"=none) (he:PE X e te) (hs:starEach [e] X.env=[(false,eval e X.env)]:=by rfl):PI X tg (.Call (.Name "reversed" p2) [e] [] pos2) (jRev X.K te):=by
  intro pins s σ H R I h
  refine rev_made hc hg hm he hs I h fun a xs H1 s1 its I1 hx rv pl hz q=>?_
  have hlen:its.toArray.size=xs.length:=by rw [List.size_toArray];exact rv.length.symm
  have hit:(s1.heap.push (revObj a ((its.toArray.size:Int) - 1))).IsRevIter s1.heap.objs.size a ((its.toArray.size:Int) - 1):=⟨_,Heap.get?_push_size _ rfl,rfl,rfl⟩
  refine wpAny_pyIter_revIter (s:={ s1 with heap:=s1.heap.push (revObj a ((its.toArray.size:Int) - 1)) }) hit ⟨_,[s1.heap.objs.size],_,_,H1,rfl,I1.kept (t':=s1.toks) fun b o z=>Heap.get?_push_of_some _ z,turn_rev a s1.heap.objs.size xs.length,?_,fun b hb=>?_,q⟩
  . show Heap.IsRevIter _ _ _ _
    rw [<- hlen,show ((its.toArray.size:Nat):Int) - 1 - ((0:Nat):Int)=(its.toArray.size:Int) - 1 from by lia]
    exact hit
  . obtain rfl:b=s1.heap.objs.size:=by simpa using hb
    exact I1.fpOk (Nat.le_refl _) I1.fresh
end
end L2
namespace L2
open PySem PySem.Spec PyProof.Rows
end L2
namespace L2
open PySem PySem.Spec PyProof.Rows
end L2
namespace L2
open PySem PySem.Spec PyProof.Rows PySem.MeetsSeq
open PySem.AutoSeq1 (wpAny_loadPart')
end L2
namespace L2
open PySem PySem.Spec PyProof.Rows
theorem ty_const {K:PySem.W.Frag} {a:Addr} {oc:Value} {od:Option Addr} {is:Array Value} {sn:Nat} {sl:Array (Option Value)} (o:K.lookup a=some ⟨oc,od,.seq is sn,sl⟩) (t:(oc == .type "tuple")=true/\(od == none)=true):∀ H,tyV K "tuple" (.ref a) H :=
  fun H=>.inr (.inl ⟨rfl,_,o,eq_of_beq t.1,eq_of_beq t.2⟩)
end L2
namespace L2
open PySem PySem.Spec PyProof.Rows
inductive U where
  | non | bl (b:Bool) | int (i:Int) | str (x:Str) | ty (n:String) | tup (xs:List U) | rol (xs:List U) | ref (a:Addr)
noncomputable def SqR (K:PySem.W.Frag) (H:Hp) (a:Addr) (xs:List V):Prop:=(∃ o,H a=some (.frz o (.lst xs))) \/
    ∃ (o:Obj) (its:Array Value) (n:Nat),K.lookup a=some o/\o.cls=.type "list"/\o.dict=none/\o.data=.seq its n/\its.size<=sizeLine/\Vals xs its.toList
theorem SqR.sq {K:PySem.W.Frag} {H:Hp} {a:Addr} {xs:List V} (h:SqR K H a xs):SqL K H a xs:=by
  rcases h with h | h
  . exact .inl (.inr h)
  . exact .inr h
structure Kp (K:PySem.W.Frag) (H H':Hp):Prop where
  t : SameT K H H'
  r : ∀ a xs,SqR K H a xs->SqR K H' a xs
  f : ∀ a o u,H a=some (.frz o u)->H' a=some (.frz o u)
theorem Kp.refl {K:PySem.W.Frag} (H:Hp):Kp K H H:=⟨fun _ _ h=>h,fun _ _ h=>h,fun _ _ _ h=>h⟩
theorem Kp.trans {K:PySem.W.Frag} {H H1 H2:Hp} (h:Kp K H H1) (k:Kp K H1 H2):Kp K H H2:=⟨h.t.trans k.t,fun a xs q=>k.r a xs (h.r a xs q),fun a o u q=>k.f a o u (h.f a o u q)⟩
theorem Same.kp {K:PySem.W.Frag} {H H':Hp} (e:Same H H'):Kp K H H':=⟨e.tups,fun a xs q=>by
  rcases q with ⟨o,q⟩ | q
  . exact .inl ⟨o,e _ _ q⟩
  . exact .inr q,fun a o u q=>e _ _ q⟩
theorem Kp.lst {K:PySem.W.Frag} {H:Hp} {l:Addr} {ys zs:List V} (h:H l=some (.lst ys)):Kp K H (upd H l (.lst zs)):=⟨SameT.lst h,fun a xs q=>by
  rcases q with ⟨o,q⟩ | q
  . exact .inl ⟨o,by rw [upd_ne (ne_of q h (by intro z;cases z))];exact q⟩
  . exact .inr q,fun a o u q=>by rw [upd_ne (ne_of q h (by intro z;cases z))];exact q⟩
theorem Kp.ins {K:PySem.W.Frag} {H:Hp} {l C dx:Addr} {fs:List (Str × V)} {o':HO} (h:H l=some (.ins C dx fs)):Kp K H (upd H l o'):=⟨fun a xs q=>by
  rcases q with (q | ⟨o,q⟩) | q
  . exact .inl (.inl (by rw [upd_ne (ne_of q h (by intro z;cases z))];exact q))
  . exact .inl (.inr ⟨o,by rw [upd_ne (ne_of q h (by intro z;cases z))];exact q⟩)
  . exact .inr q,fun a xs q=>by
  rcases q with ⟨o,q⟩ | q
  . exact .inl ⟨o,by rw [upd_ne (ne_of q h (by intro z;cases z))];exact q⟩
  . exact .inr q,fun a o u q=>by rw [upd_ne (ne_of q h (by intro z;cases z))];exact q⟩
mutual
inductive RU (K:PySem.W.Frag) (H:Hp):U->V->Prop
  | non:RU K H .non .non
  | bl (b:Bool):RU K H (.bl b) (.bl b)
  | int (i:Int):RU K H (.int i) (.int i)
  | str (x:Str):RU K H (.str x) (.str x)
  | ty (n:String):RU K H (.ty n) (.ty n)
  | ref (a:Addr):RU K H (.ref a) (.ref a)
  | tup {a:Addr} {vs:List V} {us:List U}:SqT K H a vs->RUs K H us vs->RU K H (.tup us) (.ref a)
  | rol {a:Addr} {vs:List V} {us:List U}:SqR K H a vs->RUs K H us vs->RU K H (.rol us) (.ref a)
inductive RUs (K:PySem.W.Frag) (H:Hp):List U->List V->Prop
  | nil:RUs K H [] []
  | cons {u:U} {v:V} {us:List U} {vs:List V}:RU K H u v->RUs K H us vs->RUs K H (u::us) (v::vs)
end
section
variable {K:PySem.W.Frag} {H H':Hp}
mutual
theorem RU.same (e:Kp K H H'):∀ {u:U} {v:V},RU K H u v->RU K H' u v
  | _,_,.non=>.non
  | _,_,.bl b=>.bl b
  | _,_,.int i=>.int i
  | _,_,.str x=>.str x
  | _,_,.ty n=>.ty n
  | _,_,.ref a=>.ref a
  | _,_,.tup h r=>.tup (e.t _ _ h) (RUs.same e r)
  | _,_,.rol h r=>.rol (e.r _ _ h) (RUs.same e r)
theorem RUs.same (e:Kp K H H'):∀ {us:List U} {vs:List V},RUs K H us vs->RUs K H' us vs
  | _,_,.nil=>.nil
  | _,_,.cons h r=>.cons (RU.same e h) (RUs.same e r)
end
theorem RUs.length:∀ {us:List U} {vs:List V},RUs K H us vs->us.length=vs.length
  | _,_,.nil=>rfl
  | _,_,.cons _ r=>by rw [List.length_cons,List.length_cons,r.length]
theorem RUs.app:∀ {us ws:List U} {vs xs:List V},RUs K H us vs->RUs K H ws xs->RUs K H (us++ws) (vs++xs)
  | _,_,_,_,.nil,s=>s
  | _,_,_,_,.cons h r,s=>.cons h (RUs.app r s)
theorem RUs.one {u:U} {v:V} (h:RU K H u v):RUs K H [u] [v]:=.cons h .nil
theorem RUs.get':∀ {us:List U} {vs:List V} {i:Nat} {u:U},RUs K H us vs->us[i]? = some u->∃ v,vs[i]? = some v/\RU K H u v
  | _,_,_,_,.nil,e=>by simp at e
  | _,_,0,_,.cons h _,e=>by simp at e;subst e;exact ⟨_,rfl,h⟩
  | _,_,i + 1,_,.cons _ r,e=>by simp at e;simpa using RUs.get' r e
theorem RUs.take:∀ {us:List U} {vs:List V} (n:Nat),RUs K H us vs->RUs K H (us.take n) (vs.take n)
  | _,_,0,_=>.nil
  | _,_,_ + 1,.nil=>.nil
  | _,_,n + 1,.cons r t=>.cons r (RUs.take n t)
theorem RUs.drop:∀ {us:List U} {vs:List V} (n:Nat),RUs K H us vs->RUs K H (us.drop n) (vs.drop n)
  | _,_,0,r=>r
  | _,_,_ + 1,.nil=>.nil
  | _,_,n + 1,.cons _ t=>RUs.drop n t
theorem RUs.dropLast {us:List U} {vs:List V} (h:RUs K H us vs):RUs K H us.dropLast vs.dropLast:=by
  rw [List.dropLast_eq_take,List.dropLast_eq_take,h.length];exact h.take _
theorem RUs.ints:∀ {ns:List Int} {vs:List V},RUs K H (ns.map U.int) vs->vs=ns.map V.int
  | [],_,.nil=>rfl
  | n::ns,_,.cons h r=>by cases h;rw [List.map_cons,RUs.ints r]
theorem RUs.bls:∀ {ns:List Bool} {vs:List V},RUs K H (ns.map U.bl) vs->vs=ns.map V.bl
  | [],_,.nil=>rfl
  | n::ns,_,.cons h r=>by cases h;rw [List.map_cons,RUs.bls r]
theorem RUs.strs:∀ {ns:List Str} {vs:List V},RUs K H (ns.map U.str) vs->vs=ns.map V.str
  | [],_,.nil=>rfl
  | n::ns,_,.cons h r=>by cases h;rw [List.map_cons,RUs.strs r]
theorem RUs.of_strs:∀ {ns:List Str},RUs K H (ns.map U.str) (ns.map V.str)
  | []=>.nil
  | n::ns=>.cons (.str n) RUs.of_strs
theorem RUs.of_ints:∀ {ns:List Int},RUs K H (ns.map U.int) (ns.map V.int)
  | []=>.nil
  | n::ns=>.cons (.int n) RUs.of_ints
end
inductive AO where
  | lst (us:List U) | ins (C dx:Addr) (fs:List (Str × U)) | oth (φ:PySem.W.Frag->Hp->Addr->Prop)
noncomputable abbrev AHp:=Addr->Option AO
noncomputable def updA (A:AHp) (a:Addr) (o:AO):AHp:=fun b=>if b=a then some o else A b
theorem updA_same {A:AHp} {a:Addr} {o:AO}:updA A a o a=some o:=by unfold updA;rw [if_pos rfl]
theorem updA_ne {A:AHp} {a b:Addr} {o:AO} (h:b≠a):updA A a o b=A b:=by unfold updA;rw [if_neg h]
theorem updA_updA {A:AHp} {a:Addr} {o u:AO}:updA (updA A a o) a u=updA A a u:=by funext b;unfold updA;split <;> rfl
noncomputable def RFs (K:PySem.W.Frag) (H:Hp) (fs:List (Str × U)) (gs:List (Str × V)):Prop:=fs.map (·.1)=gs.map (·.1)/\RUs K H (fs.map (·.2)) (gs.map (·.2))
noncomputable def RO (K:PySem.W.Frag) (H:Hp) (a:Addr):AO->Prop
  | .lst us=>∃ vs,H a=some (.lst vs)/\RUs K H us vs
  | .ins C dx fs=>∃ gs,H a=some (.ins C dx gs)/\RFs K H fs gs
  | .oth φ=>(∃ o,H a=some o)/\φ K H a/\∀ H1 H2,φ K H1 a->Kp K H1 H2->H2 a=H1 a->φ K H2 a
noncomputable def HR (K:PySem.W.Frag) (H:Hp) (A:AHp):Prop:=∀ a o,A a=some o->RO K H a o
section
variable {K:PySem.W.Frag} {H H':Hp} {A:AHp} {a:Addr}
theorem RO.keep {b:Addr} {o:AO} (t:Kp K H H') (e:H' b=H b) (h:RO K H b o):RO K H' b o:=by
  cases o with
  | lst us=>obtain ⟨vs,h1,h2⟩:=h;exact ⟨vs,by rw [e];exact h1,h2.same t⟩
  | ins C dx fs=>obtain ⟨gs,h1,h2,h3⟩:=h;exact ⟨gs,by rw [e];exact h1,h2,h3.same t⟩
  | oth φ=>obtain ⟨h0,h1,h2⟩:=h;exact ⟨by rw [e];exact h0,h2 _ _ h1 t e,h2⟩
theorem HR.grow (t:Same H H') (h:HR K H A):HR K H' A:=fun a o e=>by
  have q:=h a o e
  cases o with
  | lst us=>obtain ⟨vs,h1,h2⟩:=q;exact ⟨vs,t _ _ h1,h2.same t.kp⟩
  | ins C dx fs=>obtain ⟨gs,h1,h2,h3⟩:=q;exact ⟨gs,t _ _ h1,h2,h3.same t.kp⟩
  | oth φ=>obtain ⟨⟨o,h0⟩,h1,h2⟩:=q;exact ⟨⟨o,t _ _ h0⟩,h2 _ _ h1 t.kp (by rw [h0];exact t _ _ h0),h2⟩
theorem HR.none (h:HR K H A) (e:H a=none):A a=none:=by
  cases q:A a with
  | none=>rfl
  | some o =>
    have:=h a o q
    cases o with
    | lst us=>obtain ⟨vs,h1,_⟩:=this;rw [e] at h1;cases h1
    | ins C dx fs=>obtain ⟨vs,h1,_⟩:=this;rw [e] at h1;cases h1
    | oth φ=>obtain ⟨⟨_,h1⟩,_⟩:=this;rw [e] at h1;cases h1
theorem HR.newL {us:List U} {vs:List V} (h:HR K H A) (e:H a=Option.none) (r:RUs K H us vs):HR K (upd H a (.lst vs)) (updA A a (.lst us)):=fun b o q=>by
  have s:=Same.upd_new (o:=.lst vs) e
  by_cases hb:b=a
  . subst hb
    rw [updA_same] at q
    cases q
    exact ⟨vs,upd_same,r.same s.kp⟩
  . rw [updA_ne hb] at q
    exact (h b o q).keep s.kp (upd_ne hb)
theorem HR.setL {us:List U} {vs xs:List V} (h:HR K H A) (e:H a=some (.lst xs)) (r:RUs K H us vs):HR K (upd H a (.lst vs)) (updA A a (.lst us)):=fun b o q=>by
  have s:Kp K H (upd H a (.lst vs)):=Kp.lst e
  by_cases hb:b=a
  . subst hb
    rw [updA_same] at q
    cases q
    exact ⟨vs,upd_same,r.same s⟩
  . rw [updA_ne hb] at q
    exact (h b o q).keep s (upd_ne hb)
theorem HR.list {us:List U} (h:HR K H A) (e:A a=some (.lst us)):∃ vs,H a=some (.lst vs)/\RUs K H us vs:=h a _ e
end
noncomputable abbrev ASt:=List (Option U)
inductive RSt (K:PySem.W.Frag) (H:Hp):ASt->St->Prop
  | nil:RSt K H [] []
  | skip {x:Option V} {ρ:ASt} {σ:St}:RSt K H ρ σ->RSt K H (none::ρ) (x::σ)
  | cons {u:U} {v:V} {ρ:ASt} {σ:St}:RU K H u v->RSt K H ρ σ->RSt K H (some u::ρ) (some v::σ)
section
variable {K:PySem.W.Frag} {H H':Hp}
theorem RSt.same (e:Kp K H H'):∀ {ρ:ASt} {σ:St},RSt K H ρ σ->RSt K H' ρ σ
  | _,_,.nil=>.nil
  | _,_,.skip r=>.skip (RSt.same e r)
  | _,_,.cons h r=>.cons (h.same e) (RSt.same e r)
noncomputable def aGetN:Nat->ASt->(U->Prop)->Prop
  | 0, ρ,k=>match ρ with
    | some u::_=>k u
    | _=>False
  | i + 1,ρ,k=>match ρ with
    | _::ρ=>aGetN i ρ k
    | []=>False
noncomputable def aGet (ρ:ASt) (i:Nat) (k:U->Prop):Prop:=aGetN i ρ k
theorem RSt.get:∀ {ρ:ASt} {σ:St} {i:Nat} {k:U->Prop},RSt K H ρ σ->aGet ρ i k->∃ u v,σ[i]? = some (some v)/\RU K H u v/\k u
  | _,_,0,_,.nil,h=>h.elim
  | _,_,_ + 1,_,.nil,h=>h.elim
  | _,_,0,_,.skip _,h=>h.elim
  | _,_,i + 1,_,.skip r,h=>by simpa using RSt.get r h
  | _,_,0,_,.cons q _,h=>⟨_,_,rfl,q,h⟩
  | _,_,i + 1,_,.cons _ r,h=>by simpa using RSt.get r h
theorem RSt.set {u:U} {v:V} (q:RU K H u v):∀ {ρ:ASt} {σ:St} (i:Nat),RSt K H ρ σ->RSt K H (ρ.set i (some u)) (σ.set i (some v))
  | _,_,_,.nil=>.nil
  | _,_,0,.skip r=>.cons q r
  | _,_,i + 1,.skip r=>.skip (RSt.set q i r)
  | _,_,0,.cons _ r=>.cons q r
  | _,_,i + 1,.cons h r=>.cons h (RSt.set q i r)
end
noncomputable abbrev AVK:=U->AHp->Prop
noncomputable abbrev AE:=ASt->AHp->AVK->Prop
noncomputable abbrev AT:=ASt->AHp->(Bool->AHp->Prop)->Prop
noncomputable abbrev AA:=ASt->AHp->(List U->AHp->Prop)->Prop
noncomputable abbrev AP1:=ASt->AHp->(Option Int->AHp->Prop)->Prop
structure AEnds where
  nx:ASt->AHp->Prop
  rt:AVK
  bk:ASt->AHp->Prop:=fun _ _=>False
  ct:ASt->AHp->Prop:=fun _ _=>False
noncomputable abbrev AS:=AEnds->ASt->AHp->Prop
noncomputable abbrev Aft (K:PySem.W.Frag) (H:Hp) (Q':AVK) (Q:VK):Prop:=∀ u A' v H',Kp K H H'->HR K H' A'->RU K H' u v->Q' u A'->Q v H'
noncomputable def AbE (K:PySem.W.Frag) (te:TE) (ae:AE):Prop:=∀ ρ A σ H Q' Q,RSt K H ρ σ->HR K H A->ae ρ A Q'->Aft K H Q' Q->te σ H Q
noncomputable def AbT (K:PySem.W.Frag) (te:TT) (ae:AT):Prop:=∀ ρ A σ H (Q':Bool->AHp->Prop) (Q:Bool->Hp->Prop),RSt K H ρ σ->HR K H A->ae ρ A Q'->(∀ b A' H',Kp K H H'->HR K H' A'->Q' b A'->Q b H')->te σ H Q
noncomputable def AbA (K:PySem.W.Frag) (te:TA) (ae:AA):Prop:=∀ ρ A σ H (Q':List U->AHp->Prop) (Q:List V->Hp->Prop),RSt K H ρ σ->HR K H A->ae ρ A Q'->(∀ us A' vs H',Kp K H H'->HR K H' A'->RUs K H' us vs->Q' us A'->Q vs H')->te σ H Q
noncomputable def AbP (K:PySem.W.Frag) (te:TO) (ae:AP1):Prop:=∀ ρ A σ H (Q':Option Int->AHp->Prop) (Q:Option Int->Hp->Prop),RSt K H ρ σ->HR K H A->ae ρ A Q'->(∀ b A' H',Kp K H H'->HR K H' A'->Q' b A'->Q b H')->te σ H Q
structure AftS (K:PySem.W.Frag) (H:Hp) (D':AEnds) (D:Ends):Prop where
  nx:∀ ρ A σ H',Kp K H H'->HR K H' A->RSt K H' ρ σ->D'.nx ρ A->D.nx σ H'
  rt:Aft K H D'.rt D.rt
  bk:∀ ρ A σ H',Kp K H H'->HR K H' A->RSt K H' ρ σ->D'.bk ρ A->D.bk σ H'
  ct:∀ ρ A σ H',Kp K H H'->HR K H' A->RSt K H' ρ σ->D'.ct ρ A->D.ct σ H'
theorem AftS.same {K:PySem.W.Frag} {H H1:Hp} {D':AEnds} {D:Ends} (h:AftS K H D' D) (k:Kp K H H1):AftS K H1 D' D :=
  ⟨fun ρ A σ H' q=>h.nx ρ A σ H' (k.trans q),fun u A v H' q=>h.rt u A v H' (k.trans q),fun ρ A σ H' q=>h.bk ρ A σ H' (k.trans q),fun ρ A σ H' q=>h.ct ρ A σ H' (k.trans q)⟩
noncomputable def AbS (K:PySem.W.Frag) (ts:TS) (as:AS):Prop:=∀ ρ A σ H D' D,RSt K H ρ σ->HR K H A->as D' ρ A->AftS K H D' D->ts D σ H
end L2
namespace L2
open PySem PySem.Spec PyProof.Rows
section
variable {K:PySem.W.Frag}
noncomputable def aVar (i:Nat):AE:=fun ρ A Q=>aGet ρ i fun u=>Q u A
theorem ab_var {i:Nat}:AbE K (tVar i) (aVar i):=fun ρ A σ H Q' Q hr hh h k=>by
  obtain ⟨u,v,e,r,q⟩:=hr.get h
  exact ⟨v,e,k u A v H (.refl H) hh r q⟩
noncomputable def aC (u:U):AE:=fun _ A Q=>Q u A
theorem ab_c {u:U} {v:V} (h:∀ H,RU K H u v):AbE K (tC v) (aC u):=fun ρ A σ H Q' Q hr hh q k=>k u A v H (.refl H) hh (h H) q
theorem ab_int {i:Int}:AbE K (tC (.int i)) (aC (.int i)):=ab_c fun _=>.int i
theorem ab_str {i:Str}:AbE K (tC (.str i)) (aC (.str i)):=ab_c fun _=>.str i
theorem ab_bl {i:Bool}:AbE K (tC (.bl i)) (aC (.bl i)):=ab_c fun _=>.bl i
theorem ab_non:AbE K (tC .non) (aC .non):=ab_c fun _=>.non
theorem ab_ty {n:String}:AbE K (tC (.ty n)) (aC (.ty n)):=ab_c fun _=>.ty n
theorem ab_ref {a:Addr}:AbE K (tC (.ref a)) (aC (.ref a)):=ab_c fun _=>.ref a
noncomputable abbrev AR2:=U->U->AHp->AVK->Prop
noncomputable def AbR (K:PySem.W.Frag) (r:R2) (ar:AR2):Prop:=∀ x y u w A H Q' Q,RU K H u x->RU K H w y->HR K H A->ar u w A Q'->Aft K H Q' Q->r x y H Q
noncomputable def aOp (ar:AR2) (a b:AE):AE:=fun ρ A Q=>a ρ A fun x A1=>b ρ A1 fun y A2=>ar x y A2 Q
theorem ab_op {r:R2} {ar:AR2} {ta tb:TE} {aa ab:AE} (hr:AbR K r ar) (ha:AbE K ta aa) (hb:AbE K tb ab):AbE K (tOp r ta tb) (aOp ar aa ab):=fun ρ A σ H Q' Q hs hh h k =>
  ha ρ A σ H _ _ hs hh h fun x A1 v H1 k1 h1 r1 q1=>hb ρ A1 σ H1 _ _ (hs.same k1) h1 q1 fun y A2 v2 H2 k2 h2 r2 q2=>hr _ _ _ _ _ _ _ _ (r1.same k2) r2 h2 q2 fun z A3 v3 H3 k3 h3 r3 q3=>k _ _ _ _ (k1.trans (k2.trans k3)) h3 r3 q3
noncomputable def AbU (K:PySem.W.Frag) (r:V->Hp->VK->Prop) (ar:U->AHp->AVK->Prop):Prop:=∀ x u A H Q' Q,RU K H u x->HR K H A->ar u A Q'->Aft K H Q' Q->r x H Q
noncomputable def aUn (ar:U->AHp->AVK->Prop) (a:AE):AE:=fun ρ A Q=>a ρ A fun x A1=>ar x A1 Q
theorem ab_un {r:V->Hp->VK->Prop} {ar:U->AHp->AVK->Prop} {ta:TE} {aa:AE} (hr:AbU K r ar) (ha:AbE K ta aa):AbE K (tUn r ta) (aUn ar aa):=fun ρ A σ H Q' Q hs hh h k =>
  ha ρ A σ H _ _ hs hh h fun x A1 v H1 k1 h1 r1 q1=>hr _ _ _ _ _ _ r1 h1 q1 fun z A3 v3 H3 k3 h3 r3 q3=>k _ _ _ _ (k1.trans k3) h3 r3 q3
noncomputable def aB (a:AE):AT:=fun ρ A Q=>a ρ A fun x A1=>∃ c,x=.bl c/\Q c A1
theorem ab_tb {ta:TE} {aa:AE} (ha:AbE K ta aa):AbT K (tB ta) (aB aa):=fun ρ A σ H Q' Q hs hh h k =>
  ha ρ A σ H _ _ hs hh h fun x A1 v H1 k1 h1 r1 hq0=>by obtain ⟨c,e,q1⟩:=hq0;subst e;cases r1;exact ⟨c,rfl,k c A1 H1 k1 h1 q1⟩
theorem ab_test {ta:TE} {aa:AE} (ha:AbE K ta aa):AbT K (tTest ta) (aB aa):=ab_tb ha
noncomputable def aAnd (t u:AT):AT:=fun ρ A Q=>t ρ A fun c A1=>if c=true then u ρ A1 Q else Q false A1
noncomputable def aOr (t u:AT):AT:=fun ρ A Q=>t ρ A fun c A1=>if c=true then Q true A1 else u ρ A1 Q
noncomputable def aNot (t:AT):AT:=fun ρ A Q=>t ρ A fun c A1=>Q (!c) A1
theorem ab_and {t u:TT} {a b:AT} (ha:AbT K t a) (hb:AbT K u b):AbT K (tAnd t u) (aAnd a b):=fun ρ A σ H Q' Q hs hh h k =>
  ha ρ A σ H _ _ hs hh h fun c A1 H1 k1 h1 q1=>by
    cases c
    . exact iteN (by decide) (k _ _ _ k1 h1 (by simpa using q1))
    . exact iteP rfl (hb ρ A1 σ H1 _ _ (hs.same k1) h1 (by simpa using q1) fun c A2 H2 k2 h2 q2=>k _ _ _ (k1.trans k2) h2 q2)
theorem ab_or {t u:TT} {a b:AT} (ha:AbT K t a) (hb:AbT K u b):AbT K (tOr t u) (aOr a b):=fun ρ A σ H Q' Q hs hh h k =>
  ha ρ A σ H _ _ hs hh h fun c A1 H1 k1 h1 q1=>by
    cases c
    . exact iteN (by decide) (hb ρ A1 σ H1 _ _ (hs.same k1) h1 (by simpa using q1) fun c A2 H2 k2 h2 q2=>k _ _ _ (k1.trans k2) h2 q2)
    . exact iteP rfl (k _ _ _ k1 h1 (by simpa using q1))
theorem ab_not {t:TT} {a:AT} (ha:AbT K t a):AbT K (tNot t) (aNot a):=fun ρ A σ H Q' Q hs hh h k=>ha ρ A σ H _ _ hs hh h fun c A1 H1 k1 h1 q1=>k _ _ _ k1 h1 q1
noncomputable def aAndV (a b:AE):AE:=fun ρ A Q=>a ρ A fun x A1=>∃ c,x=.bl c/\if c=true then b ρ A1 Q else Q (.bl false) A1
noncomputable def aOrV (a b:AE):AE:=fun ρ A Q=>a ρ A fun x A1=>∃ c,x=.bl c/\if c=true then Q (.bl true) A1 else b ρ A1 Q
noncomputable def aNotV (a:AE):AE:=fun ρ A Q=>a ρ A fun x A1=>∃ c,x=.bl c/\Q (.bl (!c)) A1
theorem ab_andv {t u:TE} {a b:AE} (ha:AbE K t a) (hb:AbE K u b):AbE K (tAndV t u) (aAndV a b):=fun ρ A σ H Q' Q hs hh h k =>
  ha ρ A σ H _ _ hs hh h fun x A1 v H1 k1 h1 r1 hq0=>by
    obtain ⟨c,e,q1⟩:=hq0
    subst e;cases r1
    refine ⟨c,rfl,?_⟩
    cases c
    . exact iteN (by decide) (k _ _ _ _ k1 h1 (.bl _) (by simpa using q1))
    . exact iteP rfl (hb ρ A1 σ H1 _ _ (hs.same k1) h1 (by simpa using q1) fun z A2 v2 H2 k2 h2 r2 q2=>k _ _ _ _ (k1.trans k2) h2 r2 q2)
theorem ab_orv {t u:TE} {a b:AE} (ha:AbE K t a) (hb:AbE K u b):AbE K (tOrV t u) (aOrV a b):=fun ρ A σ H Q' Q hs hh h k =>
  ha ρ A σ H _ _ hs hh h fun x A1 v H1 k1 h1 r1 hq0=>by
    obtain ⟨c,e,q1⟩:=hq0
    subst e;cases r1
    refine ⟨c,rfl,?_⟩
    cases c
    . exact iteN (by decide) (hb ρ A1 σ H1 _ _ (hs.same k1) h1 (by simpa using q1) fun z A2 v2 H2 k2 h2 r2 q2=>k _ _ _ _ (k1.trans k2) h2 r2 q2)
    . exact iteP rfl (k _ _ _ _ k1 h1 (.bl _) (by simpa using q1))
theorem ab_notv {t:TE} {a:AE} (ha:AbE K t a):AbE K (tNotV t) (aNotV a):=fun ρ A σ H Q' Q hs hh h k =>
  ha ρ A σ H _ _ hs hh h fun x A1 v H1 k1 h1 r1 hq0=>by obtain ⟨c,e,q1⟩:=hq0;subst e;cases r1;exact ⟨c,rfl,k _ _ _ _ k1 h1 (.bl _) q1⟩
noncomputable def aChain (r r':AR2) (a b c:AE):AE:=fun ρ A Q=>a ρ A fun x A1=>b ρ A1 fun y A2=>r x y A2 fun z A3=>∃ k,z=.bl k/\(if k=true then c ρ A3 fun w A4=>r' y w A4 Q else Q (.bl false) A3)
theorem ab_chain {r r':R2} {s s':AR2} {ta tb tc:TE} {a b c:AE} (h1:AbR K r s) (h2:AbR K r' s') (ha:AbE K ta a) (hb:AbE K tb b) (hc:AbE K tc c):AbE K (tChain r r' ta tb tc) (aChain s s' a b c):=fun ρ A σ H Q' Q hs hh h k =>
  ha ρ A σ H _ _ hs hh h fun x A1 v H1 k1 g1 r1 q1=>hb ρ A1 σ H1 _ _ (hs.same k1) g1 q1 fun y A2 v2 H2 k2 g2 r2 q2=>h1 _ _ _ _ _ _ _ _ (r1.same k2) r2 g2 q2 fun z A3 v3 H3 k3 g3 r3 hq0=>by
    obtain ⟨b,e,q3⟩:=hq0
    subst e;cases r3
    refine ⟨b,rfl,?_⟩
    cases b
    . exact iteN (by decide) (k _ _ _ _ (k1.trans (k2.trans k3)) g3 (.bl _) (by simpa using q3))
    . exact iteP rfl (hc ρ A3 σ H3 _ _ (hs.same (k1.trans (k2.trans k3))) g3 (by simpa using q3) fun w A4 v4 H4 k4 g4 r4 q4=>h2 _ _ _ _ _ _ _ _ (r2.same (k3.trans k4)) r4 g4 q4 fun z A5 v5 H5 k5 g5 r5 q5=>k _ _ _ _ (k1.trans (k2.trans (k3.trans (k4.trans k5)))) g5 r5 q5)
noncomputable def aTrue:AT:=fun _ A Q=>Q true A
theorem ab_true:AbT K tTrue aTrue:=fun ρ A σ H Q' Q hs hh h k=>k _ _ _ (.refl H) hh h
noncomputable def aNil:AA:=fun _ A Q=>Q [] A
theorem ab_nil:AbA K tNil aNil:=fun ρ A σ H Q' Q hs hh h k=>k _ _ _ _ (.refl H) hh .nil h
noncomputable def aCons (a:AE) (l:AA):AA:=fun ρ A Q=>a ρ A fun x A1=>l ρ A1 fun xs A2=>Q (x::xs) A2
theorem ab_cons {ta:TE} {tl:TA} {a:AE} {l:AA} (ha:AbE K ta a) (hl:AbA K tl l):AbA K (tCons ta tl) (aCons a l):=fun ρ A σ H Q' Q hs hh h k =>
  ha ρ A σ H _ _ hs hh h fun x A1 v H1 k1 g1 r1 q1=>hl ρ A1 σ H1 _ _ (hs.same k1) g1 q1 fun xs A2 vs H2 k2 g2 r2 q2=>k _ _ _ _ (k1.trans k2) g2 (.cons (r1.same k2) r2) q2
noncomputable def aConst (us:List U):AA:=fun _ A L=>L us A
theorem ab_strs {xs:List Str}:AbA K (tConst (xs.map V.str)) (aConst (xs.map U.str)):=fun ρ A σ H Q' Q hs hh h k=>k _ _ _ _ (.refl H) hh RUs.of_strs h
noncomputable def aTup (l:AA):AE:=fun ρ A Q=>l ρ A fun xs A1=>xs.length<=sizeLine/\Q (.tup xs) A1
theorem ab_tup {tl:TA} {l:AA} (hl:AbA K tl l):AbE K (tTup tl) (aTup l):=fun ρ A σ H Q' Q hs hh h k =>
  hl ρ A σ H _ _ hs hh h fun xs A1 vs H1 k1 g1 r1 ⟨hz,q1⟩=>⟨by rw [<- r1.length];exact hz,fun p hp=>by
    have s:=Same.upd_new (o:=.tup vs) hp
    exact k _ _ _ _ (k1.trans s.kp) (g1.grow s) (.tup (SqT.of upd_same) (r1.same s.kp)) q1⟩
noncomputable def aLst (l:AA):AE:=fun ρ A Q=>l ρ A fun xs A1=>xs.length<=sizeLine/\∀ p,A1 p=none->Q (.ref p) (updA A1 p (.lst xs))
theorem ab_lst {tl:TA} {l:AA} (hl:AbA K tl l):AbE K (tLst tl) (aLst l):=fun ρ A σ H Q' Q hs hh h k =>
  hl ρ A σ H _ _ hs hh h fun xs A1 vs H1 k1 g1 r1 ⟨hz,q1⟩=>⟨by rw [<- r1.length];exact hz,fun p hp=>k _ _ _ _ (k1.trans (Same.upd_new hp).kp) (g1.newL hp r1) (.ref p) (q1 p (g1.none hp))⟩
noncomputable def AbL (K:PySem.W.Frag) (r:List V->Hp->VK->Prop) (ar:List U->AHp->AVK->Prop):Prop:=∀ xs us A H Q' Q,RUs K H us xs->HR K H A->ar us A Q'->Aft K H Q' Q->r xs H Q
noncomputable def aCB (ar:List U->AHp->AVK->Prop) (l:AA):AE:=fun ρ A Q=>l ρ A fun us A1=>ar us A1 Q
theorem ab_cb {r:List V->Hp->VK->Prop} {ar:List U->AHp->AVK->Prop} {tl:TA} {l:AA} (hr:AbL K r ar) (hl:AbA K tl l):AbE K (tCB r tl) (aCB ar l):=fun ρ A σ H Q' Q hs hh h k =>
  hl ρ A σ H _ _ hs hh h fun xs A1 vs H1 k1 g1 r1 q1=>hr _ _ _ _ _ _ r1 g1 q1 fun z A3 v3 H3 k3 h3 r3 q3=>k _ _ _ _ (k1.trans k3) h3 r3 q3
noncomputable abbrev ASp:=List U->AHp->AVK->Prop
noncomputable def spOf (K:PySem.W.Frag) (asp:ASp):Sp:=fun vs H Q _=>∃ us A Q',RUs K H us vs/\HR K H A/\asp us A Q'/\Aft K H Q' Q
noncomputable def aCall (asp:ASp) (l:AA):AE:=fun ρ A Q=>l ρ A fun us A1=>asp us A1 Q
theorem ab_call {asp:ASp} {E:XK} {tl:TA} {l:AA} (hl:AbA K tl l):AbE K (tCall (spOf K asp) [] E tl) (aCall asp l):=fun ρ A σ H Q' Q hs hh h k =>
  hl ρ A σ H _ _ hs hh h fun us A1 vs H1 k1 g1 r1 q1=>⟨us,A1,Q',by rw [List.append_nil];exact r1,g1,q1,fun z A3 v3 H3 k3 h3 r3 q3=>k _ _ _ _ (k1.trans k3) h3 r3 q3⟩
noncomputable def aNoPart:AP1:=fun _ A Q=>Q none A
theorem ab_nopart:AbP K tNoPart aNoPart:=fun ρ A σ H Q' Q hs hh h k=>k _ _ _ (.refl H) hh h
noncomputable def aPart (a:AE):AP1:=fun ρ A Q=>a ρ A fun x A1=>∃ i,x=.int i/\Q (some i) A1
theorem ab_part {t:TE} {a:AE} (ha:AbE K t a):AbP K (tPart t) (aPart a):=fun ρ A σ H Q' Q hs hh h k =>
  ha ρ A σ H _ _ hs hh h fun x A1 v H1 k1 h1 r1 hq0=>by obtain ⟨i,e,q1⟩:=hq0;subst e;cases r1;exact ⟨i,rfl,k _ _ _ k1 h1 q1⟩
noncomputable def AbSl (K:PySem.W.Frag) (r:V->Option Int->Option Int->Hp->VK->Prop) (ar:U->Option Int->Option Int->AHp->AVK->Prop):Prop:=∀ x u lo hi A H Q' Q,RU K H u x->HR K H A->ar u lo hi A Q'->Aft K H Q' Q->r x lo hi H Q
noncomputable def aSl (ar:U->Option Int->Option Int->AHp->AVK->Prop) (a:AE) (l h:AP1):AE:=fun ρ A Q=>a ρ A fun x A1=>l ρ A1 fun i A2=>h ρ A2 fun j A3=>ar x i j A3 Q
theorem ab_sl {r:V->Option Int->Option Int->Hp->VK->Prop} {ar:U->Option Int->Option Int->AHp->AVK->Prop} {t:TE} {tl th:TO} {a:AE} {l h:AP1} (hr:AbSl K r ar) (ha:AbE K t a) (hl:AbP K tl l) (hh:AbP K th h):AbE K (tSl r t tl th) (aSl ar a l h):=fun ρ A σ H Q' Q hs g w k =>
  ha ρ A σ H _ _ hs g w fun x A1 v H1 k1 g1 r1 q1=>hl ρ A1 σ H1 _ _ (hs.same k1) g1 q1 fun i A2 H2 k2 g2 q2=>hh ρ A2 σ H2 _ _ (hs.same (k1.trans k2)) g2 q2 fun j A3 H3 k3 g3 q3 =>
    hr _ _ _ _ _ _ _ _ (r1.same (k2.trans k3)) g3 q3 fun z A4 v4 H4 k4 g4 r4 q4=>k _ _ _ _ (k1.trans (k2.trans (k3.trans k4))) g4 r4 q4
noncomputable def AbY (K:PySem.W.Frag) (T:String) (y:U->AHp->Prop):Prop:=∀ x u A H,RU K H u x->HR K H A->y u A->tyV K T x H
noncomputable def aBM0 (y:U->AHp->Prop) (ar:U->List U->AHp->AVK->Prop) (a:AE):AE:=fun ρ A Q=>a ρ A fun x A1=>y x A1/\ar x [] A1 Q
noncomputable def aBM (y:U->AHp->Prop) (ar:U->List U->AHp->AVK->Prop) (a:AE) (l:AA):AE:=fun ρ A Q=>a ρ A fun x A1=>y x A1/\l ρ A1 fun us A2=>ar x us A2 Q
noncomputable def AbMt (K:PySem.W.Frag) (r:V->List V->Hp->VK->Prop) (ar:U->List U->AHp->AVK->Prop):Prop:=∀ x u xs us A H Q' Q,RU K H u x->RUs K H us xs->HR K H A->ar u us A Q'->Aft K H Q' Q->r x xs H Q
theorem ab_bm0 {T:String} {r:V->List V->Hp->VK->Prop} {y:U->AHp->Prop} {ar:U->List U->AHp->AVK->Prop} {t:TE} {a:AE} (hy:AbY K T y) (hr:AbMt K r ar) (ha:AbE K t a):AbE K (tBM0 K T r t) (aBM0 y ar a):=fun ρ A σ H Q' Q hs g w k =>
  ha ρ A σ H _ _ hs g w fun x A1 v H1 k1 g1 r1 ⟨q0,q1⟩=>⟨hy _ _ _ _ r1 g1 q0,hr _ _ _ _ _ _ _ _ r1 .nil g1 q1 fun z A4 v4 H4 k4 g4 r4 q4=>k _ _ _ _ (k1.trans k4) g4 r4 q4⟩
theorem ab_bm {T:String} {r:V->List V->Hp->VK->Prop} {y:U->AHp->Prop} {ar:U->List U->AHp->AVK->Prop} {t:TE} {a:AE} {tl:TA} {l:AA} (hy:AbY K T y) (hr:AbMt K r ar) (ha:AbE K t a) (hl:AbA K tl l):AbE K (tBM K T r t tl) (aBM y ar a l):=fun ρ A σ H Q' Q hs g w k =>
  ha ρ A σ H _ _ hs g w fun x A1 v H1 k1 g1 r1 ⟨q0,q1⟩=>⟨hy _ _ _ _ r1 g1 q0,hl ρ A1 σ H1 _ _ (hs.same k1) g1 q1 fun us A2 vs H2 k2 g2 r2 q2=>hr _ _ _ _ _ _ _ _ (r1.same k2) r2 g2 q2 fun z A4 v4 H4 k4 g4 r4 q4=>k _ _ _ _ (k1.trans (k2.trans k4)) g4 r4 q4⟩
noncomputable def aNext:AS:=fun D ρ A=>D.nx ρ A
theorem ab_next:AbS K tNext aNext:=fun ρ A σ H D' D hs g w k=>k.nx _ _ _ _ (.refl H) g hs w
noncomputable def aSeq (t u:AS):AS:=fun D ρ A=>t { D with nx:=u D } ρ A
theorem ab_seq {t u:TS} {a b:AS} (ha:AbS K t a) (hb:AbS K u b):AbS K (tSeq t u) (aSeq a b):=fun ρ A σ H D' D hs g w k =>
  ha ρ A σ H _ _ hs g w ⟨fun ρ1 A1 σ1 H1 k1 g1 r1 q1=>hb ρ1 A1 σ1 H1 _ _ r1 g1 q1 (k.same k1),k.rt,k.bk,k.ct⟩
noncomputable def aDrop (a:AE):AS:=fun D ρ A=>a ρ A fun _ A1=>D.nx ρ A1
theorem ab_drop {t:TE} {a:AE} (ha:AbE K t a):AbS K (tDrop t) (aDrop a):=fun ρ A σ H D' D hs g w k=>ha ρ A σ H _ _ hs g w fun x A1 v H1 k1 g1 r1 q1=>k.nx _ _ _ _ k1 g1 (hs.same k1) q1
noncomputable def aRet (a:AE):AS:=fun D ρ A=>a ρ A D.rt
theorem ab_ret {t:TE} {a:AE} (ha:AbE K t a):AbS K (tRet t) (aRet a):=fun ρ A σ H D' D hs g w k=>ha ρ A σ H _ _ hs g w k.rt
noncomputable def aIfS (c:AT) (t u:AS):AS:=fun D ρ A=>c ρ A fun b A1=>if b=true then t D ρ A1 else u D ρ A1
theorem ab_ifs {c:TT} {t u:TS} {ac:AT} {a b:AS} (hc:AbT K c ac) (ha:AbS K t a) (hb:AbS K u b):AbS K (tIfS c t u) (aIfS ac a b):=fun ρ A σ H D' D hs g w k =>
  hc ρ A σ H _ _ hs g w fun c A1 H1 k1 g1 q1=>by
    cases c
    . exact iteN (by decide) (hb ρ A1 σ H1 _ _ (hs.same k1) g1 (by simpa using q1) (k.same k1))
    . exact iteP rfl (ha ρ A1 σ H1 _ _ (hs.same k1) g1 (by simpa using q1) (k.same k1))
noncomputable abbrev AG:=U->ASt->AHp->(ASt->AHp->Prop)->Prop
noncomputable abbrev AGs:=List U->ASt->AHp->(ASt->AHp->Prop)->Prop
noncomputable abbrev AftG (K:PySem.W.Frag) (H:Hp) (Q':ASt->AHp->Prop) (Q:St->Hp->Prop):Prop:=∀ ρ A σ H',Kp K H H'->HR K H' A->RSt K H' ρ σ->Q' ρ A->Q σ H'
noncomputable def AbG (K:PySem.W.Frag) (t:TG) (a:AG):Prop:=∀ u v ρ A σ H Q' Q,RU K H u v->RSt K H ρ σ->HR K H A->a u ρ A Q'->AftG K H Q' Q->t v σ H Q
noncomputable def AbGs (K:PySem.W.Frag) (t:TGs) (a:AGs):Prop:=∀ u v ρ A σ H Q' Q,RUs K H u v->RSt K H ρ σ->HR K H A->a u ρ A Q'->AftG K H Q' Q->t v σ H Q
noncomputable def bName (i:Nat):AG:=fun u ρ A Q=>Q (ρ.set i (some u)) A
theorem ab_name {i:Nat}:AbG K (gName i) (bName i):=fun u v ρ A σ H Q' Q r hs g w k=>k _ _ _ _ (.refl H) g (hs.set r i) w
noncomputable def bNil:AGs:=fun us ρ A Q=>us=[]/\Q ρ A
theorem ab_gnil:AbGs K gNil bNil:=fun u v ρ A σ H Q' Q r hs g hq0 k=>by obtain ⟨e,w⟩:=hq0;subst e;cases r;exact ⟨rfl,k _ _ _ _ (.refl H) g hs w⟩
noncomputable def bCons (t:AG) (u:AGs):AGs:=fun us ρ A Q=>∃ v r,us=v::r/\t v ρ A fun ρ' A'=>u r ρ' A' Q
theorem ab_gcons {t:TG} {u:TGs} {a:AG} {b:AGs} (ha:AbG K t a) (hb:AbGs K u b):AbGs K (gCons t u) (bCons a b):=fun us vs ρ A σ H Q' Q r hs g hq0 k=>by
  obtain ⟨x,xs,e,w⟩:=hq0
  subst e
  cases r with
  | cons r rr=>exact ⟨_,_,rfl,ha _ _ _ _ _ _ _ _ r hs g w fun ρ1 A1 σ1 H1 k1 g1 s1 q1=>hb _ _ _ _ _ _ _ _ (rr.same k1) s1 g1 q1 fun ρ2 A2 σ2 H2 k2 g2 s2 q2=>k _ _ _ _ (k1.trans k2) g2 s2 q2⟩
noncomputable def bTup (n:Nat) (t:AGs):AG:=fun u ρ A Q=>∃ us,u=.tup us/\us.length=n/\t us ρ A Q
theorem ab_gtup {n:Nat} {t:TGs} {a:AGs} (ha:AbGs K t a):AbG K (gTup K n t) (bTup n a):=fun u v ρ A σ H Q' Q r hs g hq0 k=>by
  obtain ⟨us,e,hn,w⟩:=hq0
  subst e
  cases r with
  | tup h rr=>exact ⟨_,_,rfl,h,by rw [<- rr.length];exact hn,ha _ _ _ _ _ _ _ _ rr hs g w k⟩
noncomputable def aAsg (a:AE) (b:AG):AS:=fun D ρ A=>a ρ A fun x A1=>b x ρ A1 D.nx
theorem ab_asg {t:TE} {a:AE} {tg:TG} {b:AG} (ha:AbE K t a) (hb:AbG K tg b):AbS K (tAsg t tg) (aAsg a b):=fun ρ A σ H D' D hs g w k =>
  ha ρ A σ H _ _ hs g w fun x A1 v H1 k1 g1 r1 q1=>hb _ _ _ _ _ _ _ _ r1 (hs.same k1) g1 q1 fun ρ2 A2 σ2 H2 k2 g2 s2 q2=>k.nx _ _ _ _ (k1.trans k2) g2 s2 q2
noncomputable def aPar (i j:Nat) (l:AA):AS:=fun D ρ A=>l ρ A fun us A1=>∃ v w,us=[v,w]/\D.nx ((ρ.set i (some v)).set j (some w)) A1
noncomputable def aWhile (c:AT) (b:AS):AS:=fun D ρ A=>∃ W:Nat->ASt->AHp->Prop,(∃ m,W m ρ A)/\∀ m ρ A,W m ρ A ->
  c ρ A fun k A1=>if k=true then ∃ N:ASt->AHp->Prop,(∀ ρ' A',N ρ' A'->∃ m',m' < m/\W m' ρ' A')/\b { D with nx:=N,ct:=N,bk:=D.nx } ρ A1 else D.nx ρ A1
theorem ab_while {c:TT} {t:TS} {ac:AT} {a:AS} (hc:AbT K c ac) (ha:AbS K t a):AbS K (tWhile c t) (aWhile ac a):=fun ρ A σ H D' D hs g hq0 k=>by
  obtain ⟨W,⟨m0,w0⟩,turn⟩:=hq0
  refine ⟨fun m σ1 H1=>∃ ρ1 A1,Kp K H H1/\HR K H1 A1/\RSt K H1 ρ1 σ1/\W m ρ1 A1,⟨m0,ρ,A,.refl H,g,hs,w0⟩,?_⟩
  rintro m σ1 H1 ⟨ρ1,A1,k1,g1,s1,w1⟩
  refine hc ρ1 A1 σ1 H1 _ _ s1 g1 (turn m ρ1 A1 w1) fun b A2 H2 k2 g2 q2=>?_
  cases b
  . exact iteN (by decide) (k.nx _ _ _ _ (k1.trans k2) g2 (s1.same k2) (by simpa using q2))
  . refine iteP rfl ?_
    obtain ⟨N,hN,q2⟩:=(by simpa using q2:∃ N:ASt->AHp->Prop,(∀ ρ' A',N ρ' A'->∃ m',m' < m/\W m' ρ' A')/\a { D' with nx:=N,ct:=N,bk:=D'.nx } ρ1 A2)
    refine ⟨fun σ' H'=>∃ ρ' A',Kp K H H'/\HR K H' A'/\RSt K H' ρ' σ'/\N ρ' A',?_,?_⟩
    . rintro σ' H' ⟨ρ',A',k',g',s',n'⟩
      obtain ⟨m',hm,w'⟩:=hN ρ' A' n'
      exact ⟨m',hm,ρ',A',k',g',s',w'⟩
    . have k12:=k1.trans k2
      exact ha ρ1 A2 σ1 H2 _ _ (s1.same k2) g2 q2 ⟨fun ρ A σ H' k3 g3 s3 n3=>⟨ρ,A,k12.trans k3,g3,s3,n3⟩,(k.same k12).rt,fun ρ A σ H' k3 g3 s3 n3=>k.nx _ _ _ _ (k12.trans k3) g3 s3 n3,fun ρ A σ H' k3 g3 s3 n3=>⟨ρ,A,k12.trans k3,g3,s3,n3⟩⟩
end
end L2
namespace L2
open PySem PySem.Spec PyProof.Rows
noncomputable abbrev AIt:=Nat->AHp->Option U->Prop
noncomputable def AbJ (K:PySem.W.Frag) (H0:Hp) (J:It) (aj:AIt):Prop:=∀ i A H r,Kp K H0 H->HR K H A->aj i A r->match r with
  | none=>J.stop i H
  | some u=>J.go i H/\∀ x H',J.yld i H x H'->Kp K H H'/\HR K H' A/\RU K H' u x
noncomputable abbrev AI:=ASt->AHp->(AIt->AHp->Prop)->Prop
noncomputable def AbI (K:PySem.W.Frag) (wi:TI) (ai:AI):Prop:=∀ ρ A σ H R' R,RSt K H ρ σ->HR K H A->ai ρ A R'->(∀ aj A' J H',Kp K H H'->HR K H' A'->AbJ K H' J aj->R' aj A'->R J H')->wi σ H R
noncomputable def aLoop (J:AIt) (g:AG) (b:AS) (D:AEnds) (ρ:ASt) (A:AHp):Prop:=∃ W:Nat->Nat->ASt->AHp->Prop,(∃ m,W 0 m ρ A)/\∀ i m ρ A,W i m ρ A ->
  (J i A none/\D.nx ρ A)\/∃ u,J i A (some u)/\∃ N:ASt->AHp->Prop,(∀ ρ' A',N ρ' A'->∃ m',m' < m/\W (i + 1) m' ρ' A')/\g u ρ A fun ρ2 A2=>b { D with nx:=N,ct:=N,bk:=D.nx } ρ2 A2
noncomputable def aFor (wi:AI) (g:AG) (b:AS):AS:=fun D ρ A=>wi ρ A fun J A1=>aLoop J g b D ρ A1
section
variable {K:PySem.W.Frag}
theorem ab_for {wi:TI} {g:TG} {t:TS} {ai:AI} {ag:AG} {a:AS} (hi:AbI K wi ai) (hg:AbG K g ag) (ha:AbS K t a):AbS K (tFor wi g t) (aFor ai ag a):=fun ρ A σ H D' D hs g0 w k=>by
  refine hi ρ A σ H _ _ hs g0 w fun aj A1 J H1 k1 g1 hj q=>?_
  obtain ⟨W,⟨m0,w0⟩,turn⟩:=q
  refine ⟨fun i m σ2 H2=>∃ ρ2 A2,Kp K H1 H2/\HR K H2 A2/\RSt K H2 ρ2 σ2/\W i m ρ2 A2,⟨m0,ρ,A1,.refl H1,g1,hs.same k1,w0⟩,?_⟩
  rintro i m σ2 H2 ⟨ρ2,A2,k2,g2,s2,w2⟩
  have k12:=k1.trans k2
  rcases turn i m ρ2 A2 w2 with ⟨hstop,q⟩ | ⟨u,hgo,N,hN,q⟩
  . exact .inl ⟨hj i A2 H2 _ k2 g2 hstop,k.nx _ _ _ _ k12 g2 s2 q⟩
  . obtain ⟨j1,j2⟩:=hj i A2 H2 _ k2 g2 hgo
    refine .inr ⟨j1,fun σ' H'=>∃ ρ' A',Kp K H1 H'/\HR K H' A'/\RSt K H' ρ' σ'/\N ρ' A',?_,fun x H3 hy=>?_⟩
    . rintro σ' H' ⟨ρ',A',k',g',s',n'⟩
      obtain ⟨m',hm,w'⟩:=hN ρ' A' n'
      exact ⟨m',hm,ρ',A',k',g',s',w'⟩
    . obtain ⟨k3,g3,r3⟩:=j2 x H3 hy
      refine hg _ _ _ _ _ _ _ _ r3 (s2.same k3) g3 q fun ρ4 A4 σ4 H4 k4 g4 s4 q4=>?_
      have k24:=k2.trans (k3.trans k4)
      exact ha ρ4 A4 σ4 H4 _ _ s4 g4 q4 ⟨fun ρ5 A5 σ5 H5 k5 g5 s5 n5=>⟨ρ5,A5,k24.trans k5,g5,s5,n5⟩,(k.same (k1.trans k24)).rt,fun ρ5 A5 σ5 H5 k5 g5 s5 n5=>k.nx _ _ _ _ ((k1.trans k24).trans k5) g5 s5 n5,fun ρ5 A5 σ5 H5 k5 g5 s5 n5=>⟨ρ5,A5,k24.trans k5,g5,s5,n5⟩⟩
noncomputable def jFix (us:List U):AIt:=fun i _ r=>r=us[i]?
noncomputable def jLst (a:Addr):AIt:=fun i A r=>∃ us,A a=some (.lst us)/\r=us[i]?
noncomputable def aJof (y:U->AHp->(AIt->AHp->Prop)->Prop) (a:AE):AI:=fun ρ A R=>a ρ A fun x A1=>y x A1 R
noncomputable def AbY1 (K:PySem.W.Frag) (u:V->Hp->(It->Hp->Prop)->Prop) (y:U->AHp->(AIt->AHp->Prop)->Prop):Prop:=∀ x v A H R' R,RU K H x v->HR K H A->y x A R'->(∀ aj A' J H',Kp K H H'->HR K H' A'->AbJ K H' J aj->R' aj A'->R J H')->u v H R
theorem ab_jof {u:V->Hp->(It->Hp->Prop)->Prop} {y:U->AHp->(AIt->AHp->Prop)->Prop} {t:TE} {a:AE} (hy:AbY1 K u y) (ha:AbE K t a):AbI K (jOf u t) (aJof y a):=fun ρ A σ H R' R hs g w k =>
  ha ρ A σ H _ _ hs g w fun x A1 v H1 k1 g1 r1 q1=>hy _ _ _ _ _ _ r1 g1 q1 fun aj A2 J H2 k2 g2 hj q2=>k _ _ _ _ (k1.trans k2) g2 hj q2
theorem itl_fix {H:Hp} {a:Addr} {us:List U} {vs:List V} (h:SqR K H a vs) (r:RUs K H us vs):AbJ K H (Itl K a) (jFix us):=fun i A H1 x k g e=>by
  have e:x=us[i]?:=e
  have h1:=(k.r _ _ h).sq
  have r1:=r.same k
  subst e
  cases hu:us[i]? with
  | none=>exact ⟨vs,h1,by rw [<- r1.length];exact List.getElem?_eq_none_iff.mp hu⟩
  | some u =>
    obtain ⟨v,hv,rv⟩:=r1.get' hu
    refine ⟨⟨vs,v,h1,hv⟩,?_⟩
    rintro x H' ⟨rfl,hx⟩
    have:=hx vs h1
    rw [hv] at this;cases this
    exact ⟨.refl _,g,rv⟩
theorem itl_lst {H:Hp} {a:Addr}:AbJ K H (Itl K a) (jLst a):=fun i A H1 x k g hq0=>by
  obtain ⟨us,hA,e⟩:=hq0
  subst e
  obtain ⟨vs,h1,r1⟩:=g.list hA
  have h1:SqL K H1 a vs:=SqL.of h1
  cases hu:us[i]? with
  | none=>exact ⟨vs,h1,by rw [<- r1.length];exact List.getElem?_eq_none_iff.mp hu⟩
  | some u =>
    obtain ⟨v,hv,rv⟩:=r1.get' hu
    refine ⟨⟨vs,v,h1,hv⟩,?_⟩
    rintro x H' ⟨rfl,hx⟩
    have:=hx vs h1
    rw [hv] at this;cases this
    exact ⟨.refl _,g,rv⟩
theorem itt_fix {H:Hp} {a:Addr} {us:List U} {vs:List V} (h:SqT K H a vs) (r:RUs K H us vs):AbJ K H (Itt K a) (jFix us):=fun i A H1 x k g e=>by
  have e:x=us[i]?:=e
  have h1:=k.t _ _ h
  have r1:=r.same k
  subst e
  cases hu:us[i]? with
  | none=>exact ⟨vs,h1,by rw [<- r1.length];exact List.getElem?_eq_none_iff.mp hu⟩
  | some u =>
    obtain ⟨v,hv,rv⟩:=r1.get' hu
    refine ⟨⟨vs,v,h1,hv⟩,?_⟩
    rintro x H' ⟨rfl,hx⟩
    have:=hx vs h1
    rw [hv] at this;cases this
    exact ⟨.refl _,g,rv⟩
noncomputable def yList:U->AHp->(AIt->AHp->Prop)->Prop:=fun u A R=>match u with
  | .ref a=>(∃ us,A a=some (.lst us))/\R (jLst a) A
  | .rol us=>R (jFix us) A
  | _=>False
theorem ab_ylist:AbY1 K (uList K) yList:=fun x v A H R' R r g w k=>by
  cases r with
  | ref a =>
    obtain ⟨⟨us,hA⟩,w⟩:=w
    obtain ⟨vs,h1,r1⟩:=g.list hA
    exact ⟨⟨vs,SqL.of h1⟩,k _ _ _ _ (.refl H) g itl_lst w⟩
  | rol h1 r1=>exact ⟨⟨_,h1.sq⟩,k _ _ _ _ (.refl H) g (itl_fix h1 r1) w⟩
  | _=>exact w.elim
noncomputable def yTup:U->AHp->(AIt->AHp->Prop)->Prop:=fun u A R=>match u with
  | .tup us=>R (jFix us) A
  | _=>False
theorem ab_ytup:AbY1 K (uTupI K) yTup:=fun x v A H R' R r g w k=>by
  cases r with
  | tup h1 r1=>exact ⟨⟨_,h1⟩,k _ _ _ _ (.refl H) g (itt_fix h1 r1) w⟩
  | _=>exact w.elim
noncomputable def yStr:U->AHp->(AIt->AHp->Prop)->Prop:=fun u A R=>match u with
  | .str z=>R (jFix (z.cps.toList.map fun c=>.str ⟨#[c]⟩)) A
  | _=>False
theorem ab_ystr:AbY1 K uStrI yStr:=fun x v A H R' R r g w k=>by
  cases r with
  | str z =>
    refine k _ _ _ _ (.refl H) g (fun i A H1 r k g e=>?_) w
    have e:r=(z.cps.toList.map fun c=>U.str ⟨#[c]⟩)[i]?:=e
    subst e
    cases hu:(z.cps.toList.map fun c=>U.str ⟨#[c]⟩)[i]? with
    | none =>
      have:=List.getElem?_eq_none_iff.mp hu
      show z.cps.size<=i
      simpa using this
    | some u =>
      rw [List.getElem?_map] at hu
      obtain ⟨c,hc,rfl⟩:=Option.map_eq_some_iff.mp hu
      refine ⟨?_,?_⟩
      . have:=(List.getElem?_eq_some_iff.mp hc).1
        show i < z.cps.size
        simpa using this
      . rintro x H' ⟨rfl,c',hc',rfl⟩
        have:z.cps[i]? = some c:=by rw [<- Array.getElem?_toList];exact hc
        rw [this] at hc';cases hc'
        exact ⟨.refl _,g,.str _⟩
  | _=>exact w.elim
noncomputable def rngU (lo:Int) (n:Nat):List U:=(List.range n).map fun (i:Nat)=>.int (lo + (i:Int))
theorem rngU_get (lo:Int) (n i:Nat):(rngU lo n)[i]? = if i < n then some (.int (lo + (i:Int))) else none:=by
  unfold rngU
  rw [List.getElem?_map]
  by_cases h:i < n
  . rw [if_pos h,List.getElem?_range h];rfl
  . rw [if_neg h,List.getElem?_eq_none (by rw [List.length_range];lia)];rfl
theorem rngU_len (lo:Int) (n:Nat):(rngU lo n).length=n:=by simp [rngU]
theorem itr_fix {H:Hp} {lo:Int} {n:Nat}:AbJ K H (Itr lo n) (jFix (rngU lo n)):=fun i A H1 x k g e=>by
  have e:x=(rngU lo n)[i]?:=e
  rw [rngU_get] at e
  subst e
  by_cases h:i < n
  . rw [if_pos h]
    refine ⟨h,?_⟩
    rintro x H' ⟨rfl,rfl⟩
    exact ⟨.refl _,g,.int _⟩
  . rw [if_neg h]
    exact Nat.le_of_not_lt h
noncomputable def yRng1:List U->AHp->(AIt->AHp->Prop)->Prop:=fun us A R=>match us with
  | [.int j]=>-(2 ^ 62)<=j/\j < 2 ^ 62/\R (jFix (rngU 0 j.toNat)) A
  | _=>False
noncomputable def AbYs (K:PySem.W.Frag) (u:List V->Hp->(It->Hp->Prop)->Prop) (y:List U->AHp->(AIt->AHp->Prop)->Prop):Prop:=∀ x v A H R' R,RUs K H x v->HR K H A->y x A R'->(∀ aj A' J H',Kp K H H'->HR K H' A'->AbJ K H' J aj->R' aj A'->R J H')->u v H R
noncomputable def aJargs (y:List U->AHp->(AIt->AHp->Prop)->Prop) (l:AA):AI:=fun ρ A R=>l ρ A fun us A1=>y us A1 R
theorem ab_jargs {u:List V->Hp->(It->Hp->Prop)->Prop} {y:List U->AHp->(AIt->AHp->Prop)->Prop} {t:TA} {l:AA} (hy:AbYs K u y) (hl:AbA K t l):AbI K (jArgs u t) (aJargs y l):=fun ρ A σ H R' R hs g w k =>
  hl ρ A σ H _ _ hs g w fun x A1 v H1 k1 g1 r1 q1=>hy _ _ _ _ _ _ r1 g1 q1 fun aj A2 J H2 k2 g2 hj q2=>k _ _ _ _ (k1.trans k2) g2 hj q2
theorem ab_yrng1:AbYs K uRng1 yRng1:=fun x v A H R' R r g w k=>by
  unfold yRng1 at w
  split at w
  . cases r with
    | cons r rr =>
      cases rr;cases r
      exact ⟨w.1,w.2.1,k _ _ _ _ (.refl H) g itr_fix w.2.2⟩
  . exact w.elim
theorem ab_jrng1 {t:TA} {l:AA} (hl:AbA K t l):AbI K (jRng1 t) (aJargs yRng1 l):=ab_jargs (u:=uRng1) ab_yrng1 hl
noncomputable def enU (us:List U):List U:=us.zipIdx.map fun p=>.tup [.int (p.2:Nat),p.1]
theorem enU_get (us:List U) (i:Nat):(enU us)[i]? = (us[i]?).map fun u=>.tup [.int (i:Nat),u]:=by
  unfold enU
  rw [List.getElem?_map,List.getElem?_zipIdx]
  cases us[i]? <;> simp
theorem enU_len (us:List U):(enU us).length=us.length:=by simp [enU]
noncomputable def jEnum (a:Addr):AIt:=fun i A r=>∃ us,A a=some (.lst us)/\r=(enU us)[i]?
noncomputable def yEnum:List U->AHp->(AIt->AHp->Prop)->Prop:=fun us A R=>match us with
  | [.ref a]=>(∃ us,A a=some (.lst us))/\R (jEnum a) A
  | [.rol us]=>R (jFix (enU us)) A
  | _=>False
theorem ite_of {H:Hp} {a:Addr} {us:List U} {vs:List V} {i:Nat} {A:AHp} (h1:SqL K H a vs) (r1:RUs K H us vs) (g:HR K H A):match (enU us)[i]? with
    | none=>(Ite K a).stop i H
    | some u=>(Ite K a).go i H/\∀ x H',(Ite K a).yld i H x H'->Kp K H H'/\HR K H' A/\RU K H' u x:=by
  rw [enU_get]
  cases hu:us[i]? with
  | none=>exact ⟨vs,h1,by rw [<- r1.length];exact List.getElem?_eq_none_iff.mp hu⟩
  | some u =>
    obtain ⟨v,hv,rv⟩:=r1.get' hu
    refine ⟨⟨vs,v,h1,hv⟩,?_⟩
    rintro x H' ⟨T,x0,rfl,hT,rfl,hx⟩
    have:=hx vs h1
    rw [hv] at this;cases this
    have s:=Same.upd_new (o:=.tup [.int i,v]) hT
    exact ⟨s.kp,g.grow s,.tup (SqT.of upd_same) (.cons (.int _) (.one (rv.same s.kp)))⟩
theorem iteu_of {H:Hp} {a:Addr} {us:List U} {vs:List V} {i:Nat} {A:AHp} (h1:SqT K H a vs) (r1:RUs K H us vs) (g:HR K H A):match (enU us)[i]? with
    | none=>(Iteu K a).stop i H
    | some u=>(Iteu K a).go i H/\∀ x H',(Iteu K a).yld i H x H'->Kp K H H'/\HR K H' A/\RU K H' u x:=by
  rw [enU_get]
  cases hu:us[i]? with
  | none=>exact ⟨vs,h1,by rw [<- r1.length];exact List.getElem?_eq_none_iff.mp hu⟩
  | some u =>
    obtain ⟨v,hv,rv⟩:=r1.get' hu
    refine ⟨⟨vs,v,h1,hv⟩,?_⟩
    rintro x H' ⟨T,x0,rfl,hT,rfl,hx⟩
    have:=hx vs h1
    rw [hv] at this;cases this
    have s:=Same.upd_new (o:=.tup [.int i,v]) hT
    exact ⟨s.kp,g.grow s,.tup (SqT.of upd_same) (.cons (.int _) (.one (rv.same s.kp)))⟩
theorem ab_yenum:AbYs K (uEnum K) yEnum:=fun x v A H R' R r g w k=>by
  unfold yEnum at w
  split at w
  . cases r with
    | cons r rr =>
      cases rr;cases r
      obtain ⟨⟨us,hA⟩,w⟩:=w
      obtain ⟨vs,h1,r1⟩:=g.list hA
      refine ⟨⟨vs,SqL.of h1⟩,k _ _ _ _ (.refl H) g (fun i A1 H1 r k1 g1 ⟨us,hA,e⟩=>?_) w⟩
      subst e
      obtain ⟨vs,h1,r1⟩:=g1.list hA
      exact ite_of (SqL.of h1) r1 g1
  . cases r with
    | cons r rr =>
      cases rr
      cases r with
      | rol h1 r1 =>
        refine ⟨⟨_,h1.sq⟩,k _ _ _ _ (.refl H) g (fun i A1 H1 r k1 g1 e=>?_) w⟩
        have e:r=(enU _)[i]?:=e
        subst e
        exact ite_of (k1.r _ _ h1).sq (r1.same k1) g1
  . exact w.elim
noncomputable def yEnumT:List U->AHp->(AIt->AHp->Prop)->Prop:=fun us A R=>match us with
  | [.tup us]=>R (jFix (enU us)) A
  | _=>False
theorem ab_yenumT:AbYs K (uEnumT K) yEnumT:=fun x v A H R' R r g w k=>by
  unfold yEnumT at w
  split at w
  . cases r with
    | cons r rr =>
      cases rr
      cases r with
      | tup h1 r1 =>
        refine ⟨⟨_,h1⟩,k _ _ _ _ (.refl H) g (fun i A1 H1 r k1 g1 e=>?_) w⟩
        have e:r=(enU _)[i]?:=e
        subst e
        exact iteu_of (k1.t _ _ h1) (r1.same k1) g1
  . exact w.elim
noncomputable def jRevA (a:Addr) (n:Nat):AIt:=fun i A r=>(i=n/\r=none)\/(i < n/\∃ us u,A a=some (.lst us)/\us[n - 1 - i]? = some u/\r=some u)
noncomputable def aJrev (a:AE):AI:=fun ρ A R=>a ρ A fun x A1=>∃ p us,x=.ref p/\A1 p=some (.lst us)/\R (jRevA p us.length) A1
theorem ab_jrev {t:TE} {a:AE} (ha:AbE K t a):AbI K (jRev K t) (aJrev a):=fun ρ A σ H R' R hs g w k =>
  ha ρ A σ H _ _ hs g w fun x A1 v H1 k1 g1 r1 hq0=>by
    obtain ⟨p,us,e,hA,q1⟩:=hq0
    subst e;cases r1
    obtain ⟨vs,h1,r1⟩:=g1.list hA
    refine ⟨p,vs,rfl,SqL.of h1,?_⟩
    rw [<- r1.length]
    refine k _ _ _ _ k1 g1 (fun i A2 H2 r k2 g2 e=>?_) q1
    rcases e with ⟨rfl,rfl⟩ | ⟨hi,us2,u,hA2,hu,rfl⟩
    . rfl
    . obtain ⟨vs2,h2,r2⟩:=g2.list hA2
      obtain ⟨v,hv,rv⟩:=r2.get' hu
      refine ⟨⟨hi,vs2,v,SqL.of h2,hv⟩,?_⟩
      rintro x H' ⟨rfl,hx⟩
      have:=hx vs2 (SqL.of h2)
      rw [hv] at this;cases this
      exact ⟨.refl _,g2,rv⟩
noncomputable def aCompStart (nt:Nat) (frs:List (Str × Nat)) (ρ:ASt):ASt:=List.replicate nt none++frs.map fun p=>(ρ[p.2]?).join
theorem RSt.join {H:Hp}:∀ {ρ:ASt} {σ:St} (i:Nat) {ρ2:ASt} {σ2:St},RSt K H ρ σ->RSt K H ρ2 σ2->RSt K H ((ρ[i]?).join::ρ2) ((σ[i]?).join::σ2)
  | _,_,_,_,_,.nil,q=>by simpa using .skip q
  | _,_,0,_,_,.skip _,q=>by simpa using .skip q
  | _,_,i + 1,_,_,.skip r,q=>by simpa using RSt.join i r q
  | _,_,0,_,_,.cons h _,q=>by simpa using .cons h q
  | _,_,i + 1,_,_,.cons _ r,q=>by simpa using RSt.join i r q
theorem RSt.comp {H:Hp} {ρ:ASt} {σ:St} (h:RSt K H ρ σ) (nt:Nat) (frs:List (Str × Nat)):RSt K H (aCompStart nt frs ρ) (compStart nt frs σ):=by
  unfold aCompStart compStart
  induction nt with
  | zero =>
    simp only [List.replicate_zero,List.nil_append]
    induction frs with
    | nil=>exact .nil
    | cons p frs ih=>simp only [List.map_cons];exact h.join p.2 ih
  | succ n ih=>simp only [List.replicate_succ,List.cons_append];exact .skip ih
noncomputable def aCL (J:AIt) (g:AG) (tt:AT) (te:AE) (l:Addr) (Q:AVK) (τ:ASt) (A:AHp):Prop:=∃ W:Nat->Nat->ASt->AHp->Prop,(∃ m,W 0 m τ A) /\
  ∀ i m τ A,W i m τ A->(J i A none/\Q (.ref l) A)\/∃ u,J i A (some u)/\g u τ A fun τ2 A2=>tt τ2 A2 fun ok A3 =>
    if ok=true then te τ2 A3 fun y A4=>∃ ys,A4 l=some (.lst ys)/\ys.length < sizeLine/\∃ m',m' < m/\W (i + 1) m' τ2 (updA A4 l (.lst (ys++[y]))) else ∃ m',m' < m/\W (i + 1) m' τ2 A3
noncomputable def aComp (nt:Nat) (frs:List (Str × Nat)) (wi:AI) (g:AG) (tt:AT) (te:AE):AE:=fun ρ A Q=>wi ρ A fun J A1=>∀ l,A1 l=none->aCL J g tt te l Q (aCompStart nt frs ρ) (updA A1 l (.lst []))
theorem ab_comp {nt:Nat} {frs:List (Str × Nat)} {wi:TI} {g:TG} {tt:TT} {te:TE} {ai:AI} {ag:AG} {at':AT} {ae:AE} (hi:AbI K wi ai) (hg:AbG K g ag) (ht:AbT K tt at') (he:AbE K te ae):AbE K (tComp nt frs wi g tt te) (aComp nt frs ai ag at' ae):=fun ρ A σ H Q' Q hs g0 w k=>by
  refine hi ρ A σ H _ _ hs g0 w fun aj A1 J H1 k1 g1 hj q=>?_
  intro l hl
  obtain ⟨W,⟨m0,w0⟩,turn⟩:=q l (g1.none hl)
  have kl:Kp K H1 (upd H1 l (.lst [])):=(Same.upd_new hl).kp
  refine ⟨fun i m τ H2=>∃ τ' A2,Kp K H1 H2/\HR K H2 A2/\RSt K H2 τ' τ/\W i m τ' A2,⟨m0,_,_,kl,g1.newL hl .nil,(hs.same (k1.trans kl)).comp nt frs,w0⟩,?_⟩
  rintro i m τ H2 ⟨τ',A2,k2,g2,s2,w2⟩
  have k12:=k1.trans k2
  rcases turn i m τ' A2 w2 with ⟨hstop,q⟩ | ⟨u,hgo,q⟩
  . exact .inl ⟨hj i A2 H2 _ k2 g2 hstop,k _ _ _ _ k12 g2 (.ref l) q⟩
  . obtain ⟨j1,j2⟩:=hj i A2 H2 _ k2 g2 hgo
    refine .inr ⟨j1,fun x H3 hy=>?_⟩
    obtain ⟨k3,g3,r3⟩:=j2 x H3 hy
    refine hg _ _ _ _ _ _ _ _ r3 (s2.same k3) g3 q fun ρ4 A4 σ4 H4 k4 g4 s4 q4=>ht ρ4 A4 σ4 H4 _ _ s4 g4 q4 fun b A5 H5 k5 g5 q5=>?_
    have k25:=k2.trans (k3.trans (k4.trans k5))
    cases b
    . refine iteN (by decide) ?_
      obtain ⟨m',hm,w'⟩:=(by simpa using q5:∃ m',m' < m/\W (i + 1) m' ρ4 A5)
      exact ⟨m',hm,_,_,k25,g5,s4.same k5,w'⟩
    . refine iteP rfl (he ρ4 A5 σ4 H5 _ _ (s4.same k5) g5 (by simpa using q5) fun y A6 v6 H6 k6 g6 r6 q6=>?_)
      obtain ⟨ys,hA,hz,m',hm,w'⟩:=q6
      obtain ⟨vs,h6,r7⟩:=g6.list hA
      exact ⟨vs,h6,by rw [<- r7.length];exact hz,m',hm,_,_,k25.trans (k6.trans (Kp.lst h6)),g6.setL h6 (r7.app (.one r6)),(s4.same (k5.trans (k6.trans (Kp.lst h6)))),w'⟩
end
end L2
namespace L2
open PySem PySem.Spec PyProof.Rows
section
variable {K:PySem.W.Frag}
noncomputable def xAdd:AR2:=fun u w A Q=>match u,w with
  | .int i,.int j=>Q (.int (i + j)) A
  | .str i,.str j=>i.length + j.length<=sizeLine/\Q (.str (i++j)) A
  | .tup xs,.tup ys=>xs.length + ys.length<=sizeLine/\Q (.tup (xs++ys)) A
  | .ref a,.ref b=>∃ xs ys,A a=some (.lst xs)/\A b=some (.lst ys)/\xs.length + ys.length<=sizeLine/\∀ p,A p=none->Q (.ref p) (updA A p (.lst (xs++ys)))
  | _,_=>False
theorem ab_add:AbR K (uAddW K) xAdd:=fun x y u w A H Q' Q hu hw g h k=>by
  unfold xAdd at h
  split at h
  . cases hu;cases hw;exact k _ _ _ _ (.refl H) g (.int _) h
  . cases hu;cases hw;exact ⟨h.1,k _ _ _ _ (.refl H) g (.str _) h.2⟩
  . cases hu with
    | tup h1 r1 =>
      cases hw with
      | tup h2 r2 =>
        refine .inr ⟨_,_,h1,h2,by rw [<- r1.length,<- r2.length];exact h.1,fun p H' s hp=>k _ _ _ _ s.kp (g.grow s) (.tup hp ((r1.app r2).same s.kp)) h.2⟩
  . cases hu;cases hw
    obtain ⟨xs,ys,e1,e2,hz,q⟩:=h
    obtain ⟨vs,h1,r1⟩:=g.list e1
    obtain ⟨zs,h2,r2⟩:=g.list e2
    exact .inl ⟨vs,zs,SqL.of h1,SqL.of h2,by rw [<- r1.length,<- r2.length];exact hz,fun p hp=>k _ _ _ _ (Same.upd_new hp).kp (g.newL hp (r1.app r2)) (.ref p) (q p (g.none hp))⟩
  . exact h.elim
noncomputable def xI2 (C:Int->Int->Prop) (f:Int->Int->U):AR2:=fun u w A Q=>match u,w with
  | .int i,.int j=>C i j/\Q (f i j) A
  | _,_=>False
noncomputable def xI (f:Int->Int->U):AR2:=fun u w A Q=>match u,w with
  | .int i,.int j=>Q (f i j) A
  | _,_=>False
theorem ab_sub:AbR K uSub (xI fun i j=>.int (i - j)):=fun x y u w A H Q' Q hu hw g h k=>by
  unfold xI at h
  split at h
  . cases hu;cases hw;exact k _ _ _ _ (.refl H) g (.int _) h
  . exact h.elim
noncomputable def xMul:AR2:=fun u w A Q=>match u,w with
  | .int i,.int j=>IntMulOk i j/\Q (.int (i * j)) A
  | .ref a,.int m=>∃ xs,A a=some (.lst xs)/\-(2 ^ 63)<=m/\m < 2 ^ 63/\xs.length * m.toNat<=sizeLine/\∀ p,A p=none->Q (.ref p) (updA A p (.lst (List.replicate m.toNat xs).flatten))
  | _,_=>False
theorem RUs.flat {H:Hp} {us:List U} {vs:List V} (r:RUs K H us vs):∀ n,RUs K H (List.replicate n us).flatten (List.replicate n vs).flatten
  | 0=>.nil
  | n + 1=>by rw [List.replicate_succ,List.replicate_succ,List.flatten_cons,List.flatten_cons];exact r.app (r.flat n)
theorem ab_mul:AbR K uMulB xMul:=fun x y u w A H Q' Q hu hw g h k=>by
  unfold xMul at h
  split at h
  . cases hu;cases hw;exact ⟨h.1,k _ _ _ _ (.refl H) g (.int _) h.2⟩
  . cases hu;cases hw
    obtain ⟨xs,e1,b1,b2,hz,q⟩:=h
    obtain ⟨vs,h1,r1⟩:=g.list e1
    exact ⟨_,_,vs,rfl,rfl,h1,b1,b2,by rw [<- r1.length];exact hz,fun p hp=>k _ _ _ _ (Same.upd_new hp).kp (g.newL hp (r1.flat _)) (.ref p) (q p (g.none hp))⟩
  . exact h.elim
theorem ab_div:AbR K uDiv (xI2 CDiv fun i j=>.int (i / j)):=fun x y u w A H Q' Q hu hw g h k=>by
  unfold xI2 at h
  split at h
  . cases hu;cases hw;exact ⟨h.1,k _ _ _ _ (.refl H) g (.int _) h.2⟩
  . exact h.elim
theorem ab_mod:AbR K uMod (xI2 (fun _ j=>0 < j) fun i j=>.int (i % j)):=fun x y u w A H Q' Q hu hw g h k=>by
  unfold xI2 at h
  split at h
  . cases hu;cases hw;exact ⟨h.1,k _ _ _ _ (.refl H) g (.int _) h.2⟩
  . exact h.elim
theorem ab_pow:AbR K uPow (xI2 CPow fun i j=>.int (i ^ j.toNat)):=fun x y u w A H Q' Q hu hw g h k=>by
  unfold xI2 at h
  split at h
  . cases hu;cases hw;exact ⟨h.1,k _ _ _ _ (.refl H) g (.int _) h.2⟩
  . exact h.elim
noncomputable def xLt:AR2:=fun u w A Q=>match u,w with
  | .int i,.int j=>Q (.bl (decide (i < j))) A
  | .str i,.str j=>Q (.bl (decide (i.cps.toList < j.cps.toList))) A
  | _,_=>False
theorem ab_lt:AbR K uLt xLt:=fun x y u w A H Q' Q hu hw g h k=>by
  unfold xLt at h
  split at h
  . cases hu;cases hw;exact k _ _ _ _ (.refl H) g (.bl _) h
  . cases hu;cases hw;exact k _ _ _ _ (.refl H) g (.bl _) h
  . exact h.elim
theorem ab_le:AbR K uLe (xI fun i j=>.bl (decide (i<=j))):=fun x y u w A H Q' Q hu hw g h k=>by
  unfold xI at h
  split at h
  . cases hu;cases hw;exact k _ _ _ _ (.refl H) g (.bl _) h
  . exact h.elim
theorem ab_gt:AbR K uGt (xI fun i j=>.bl (decide (j < i))):=fun x y u w A H Q' Q hu hw g h k=>by
  unfold xI at h
  split at h
  . cases hu;cases hw;exact k _ _ _ _ (.refl H) g (.bl _) h
  . exact h.elim
theorem ab_ge:AbR K uGe (xI fun i j=>.bl (decide (j<=i))):=fun x y u w A H Q' Q hu hw g h k=>by
  unfold xI at h
  split at h
  . cases hu;cases hw;exact k _ _ _ _ (.refl H) g (.bl _) h
  . exact h.elim
mutual
inductive DU (A:AHp):U->PyData->Prop
  | non:DU A .non .none
  | bl (b:Bool):DU A (.bl b) (.bool b)
  | int (i:Int):DU A (.int i) (.int i)
  | str (x:Str):DU A (.str x) (.str x)
  | tup {us:List U} {ds:List PyData}:DUs A us ds->DU A (.tup us) (.tuple ds)
  | rol {us:List U} {ds:List PyData}:DUs A us ds->DU A (.rol us) (.list ds)
  | lst {a:Addr} {us:List U} {ds:List PyData}:A a=some (.lst us)->DUs A us ds->DU A (.ref a) (.list ds)
inductive DUs (A:AHp):List U->List PyData->Prop
  | nil:DUs A [] []
  | cons {u:U} {d:PyData} {us:List U} {ds:List PyData}:DU A u d->DUs A us ds->DUs A (u::us) (d::ds)
end
mutual
theorem DU.rep {A:AHp} {H:Hp} (g:HR K H A):∀ {u:U} {v:V} {d:PyData},DU A u d->RU K H u v->Rep K H d v:=by
  intro u v d h r
  cases h with
  | non=>cases r;exact .non
  | bl b=>cases r;exact .bl b
  | int b=>cases r;exact .int b
  | str b=>cases r;exact .str b
  | tup q=>cases r with | tup h r=>exact .tup h (DUs.reps g q r)
  | rol q=>cases r with | rol h r=>exact .lst h.sq (DUs.reps g q r)
  | lst e q =>
    cases r
    obtain ⟨vs,h,r⟩:=g.list e
    exact .lst (SqL.of h) (DUs.reps g q r)
theorem DUs.reps {A:AHp} {H:Hp} (g:HR K H A):∀ {us:List U} {vs:List V} {ds:List PyData},DUs A us ds->RUs K H us vs->Reps K H ds vs
  | _,_,_,.nil,.nil=>.nil
  | _,_,_,.cons h r,.cons q s=>.cons (DU.rep g h q) (DUs.reps g r s)
end
noncomputable def xDeep (ne:Bool) (u w:U) (A:AHp) (Q:AVK):Prop:=∃ d e,DU A u d/\DU A w e/\d.canLay0=true/\e.canLay0=true/\d.depth<=190/\Q (.bl (if ne then !PyData.eqv d e else PyData.eqv d e)) A
noncomputable def xEq:AR2:=fun u w A Q=>match u,w with
  | .int i,.int j=>Q (.bl (decide (i=j))) A
  | .str i,.str j=>Q (.bl (decide (i=j))) A
  | .bl i,.bl j=>Q (.bl (decide (i=j))) A
  | .tup us,.tup ws=>xDeep false (.tup us) (.tup ws) A Q
  | .ref a,.ref b=>xDeep false (.ref a) (.ref b) A Q
  | .rol a,.ref b=>xDeep false (.rol a) (.ref b) A Q
  | .tup us,.non=>xDeep false (.tup us) .non A Q
  | .non,.tup us=>xDeep false .non (.tup us) A Q
  | .non,.non=>Q (.bl true) A
  | .non,.str _=>Q (.bl false) A
  | .str _,.non=>Q (.bl false) A
  | _,_=>False
theorem deep_eq {x y:V} {u w:U} {A:AHp} {H:Hp} {Q':AVK} {Q:VK} {ne:Bool} (hu:RU K H u x) (hw:RU K H w y) (g:HR K H A) (h:xDeep ne u w A Q') (k:Aft K H Q' Q):rEqD K ne x y H Q:=by
  obtain ⟨d,e,h1,h2,c1,c2,dp,q⟩:=h
  exact ⟨d,e,h1.rep g hu,h2.rep g hw,c1,c2,dp,k _ _ _ _ (.refl H) g (.bl _) q⟩
theorem ab_eq:AbR K (uEqD K) xEq:=fun x y u w A H Q' Q hu hw g h k=>by
  unfold xEq at h
  split at h
  . cases hu;cases hw;exact k _ _ _ _ (.refl H) g (.bl _) h
  . cases hu;cases hw;exact k _ _ _ _ (.refl H) g (.bl _) h
  . cases hu;cases hw;exact k _ _ _ _ (.refl H) g (.bl _) h
  . have:=deep_eq hu hw g h k;cases hu;exact this
  . have:=deep_eq hu hw g h k;cases hu;exact this
  . have:=deep_eq hu hw g h k;cases hu;exact this
  . have:=deep_eq hu hw g h k;cases hu;exact this
  . have:=deep_eq hu hw g h k;cases hu;cases hw;exact this
  . cases hu;cases hw;exact k _ _ _ _ (.refl H) g (.bl _) h
  . cases hu;cases hw;exact k _ _ _ _ (.refl H) g (.bl _) h
  . cases hu;cases hw;exact k _ _ _ _ (.refl H) g (.bl _) h
  . exact h.elim
noncomputable def xNe:AR2:=fun u w A Q=>match u,w with
  | .int i,.int j=>Q (.bl (!decide (i=j))) A
  | .str i,.str j=>Q (.bl (!decide (i=j))) A
  | .bl i,.bl j=>Q (.bl (!decide (i=j))) A
  | .tup us,.tup ws=>xDeep true (.tup us) (.tup ws) A Q
  | .ref a,.ref b=>xDeep true (.ref a) (.ref b) A Q
  | .rol a,.ref b=>xDeep true (.rol a) (.ref b) A Q
  | .tup us,.non=>xDeep true (.tup us) .non A Q
  | .non,.tup us=>xDeep true .non (.tup us) A Q
  | .non,.non=>Q (.bl false) A
  | .non,.str _=>Q (.bl true) A
  | .str _,.non=>Q (.bl true) A
  | _,_=>False
theorem ab_ne:AbR K (uNeD K) xNe:=fun x y u w A H Q' Q hu hw g h k=>by
  unfold xNe at h
  split at h
  . cases hu;cases hw;exact k _ _ _ _ (.refl H) g (.bl _) h
  . cases hu;cases hw;exact k _ _ _ _ (.refl H) g (.bl _) h
  . cases hu;cases hw;exact k _ _ _ _ (.refl H) g (.bl _) h
  . have:=deep_eq hu hw g h k;cases hu;exact this
  . have:=deep_eq hu hw g h k;cases hu;exact this
  . have:=deep_eq hu hw g h k;cases hu;exact this
  . have:=deep_eq hu hw g h k;cases hu;exact this
  . have:=deep_eq hu hw g h k;cases hu;cases hw;exact this
  . cases hu;cases hw;exact k _ _ _ _ (.refl H) g (.bl _) h
  . cases hu;cases hw;exact k _ _ _ _ (.refl H) g (.bl _) h
  . cases hu;cases hw;exact k _ _ _ _ (.refl H) g (.bl _) h
  . exact h.elim
noncomputable def U.isNon:U->Bool
  | .non=>true
  | _=>false
noncomputable def xIsN:AR2:=fun u w A Q=>w=.non/\Q (.bl u.isNon) A
noncomputable def xNotN:AR2:=fun u w A Q=>w=.non/\Q (.bl (!u.isNon)) A
theorem ab_isN:AbR K (fun x y H Q=>y=.non/\Q (.bl (decide (x=.non))) H) xIsN:=fun x y u w A H Q' Q hu hw g hq0 k=>by
  obtain ⟨e,h⟩:=hq0
  subst e;cases hw
  refine ⟨rfl,?_⟩
  have:decide (x=V.non)=u.isNon:=by cases hu <;> simp [U.isNon]
  rw [this]
  exact k _ _ _ _ (.refl H) g (.bl _) h
theorem ab_notN:AbR K (fun x y H Q=>y=.non/\Q (.bl (!decide (x=.non))) H) xNotN:=fun x y u w A H Q' Q hu hw g hq0 k=>by
  obtain ⟨e,h⟩:=hq0
  subst e;cases hw
  refine ⟨rfl,?_⟩
  have:decide (x=V.non)=u.isNon:=by cases hu <;> simp [U.isNon]
  rw [this]
  exact k _ _ _ _ (.refl H) g (.bl _) h
noncomputable def U.flat:U->Bool
  | .non=>true
  | .bl _=>true
  | .int _=>true
  | .str _=>true
  | _=>false
noncomputable def U.toV:U->V
  | .bl b=>.bl b
  | .int i=>.int i
  | .str x=>.str x
  | _=>.non
theorem RU.flat {H:Hp} {u:U} {v:V} (h:RU K H u v) (f:u.flat=true):v=u.toV/\flatV v=true:=by
  cases h <;> first | exact ⟨rfl,rfl⟩ | cases f
theorem RUs.flats {H:Hp}:∀ {us:List U} {vs:List V},RUs K H us vs->us.all U.flat=true->vs=us.map U.toV/\vs.all flatV=true
  | _,_,.nil,_=>⟨rfl,rfl⟩
  | _, _,.cons h r,f=>by
    rw [List.all_cons,Bool.and_eq_true] at f
    obtain ⟨e1,f1⟩:=h.flat f.1
    obtain ⟨e2,f2⟩:=RUs.flats r f.2
    exact ⟨by rw [List.map_cons,e1,e2],by rw [List.all_cons,f1,f2];rfl⟩
noncomputable def inU (u:U) (us:List U):Bool:=inV u.toV (us.map U.toV)
noncomputable def xInB (neg:Bool):AR2:=fun u w A Q=>match w with
  | .str j=>∃ i,u=.str i/\Q (.bl (if neg then !occ j i else occ j i)) A
  | .tup us=>u.flat=true/\us.all U.flat=true/\Q (.bl (if neg then !inU u us else inU u us)) A
  | .rol us=>u.flat=true/\us.all U.flat=true/\Q (.bl (if neg then !inU u us else inU u us)) A
  | .ref a=>∃ us,A a=some (.lst us)/\u.flat=true/\us.all U.flat=true/\Q (.bl (if neg then !inU u us else inU u us)) A
  | _=>False
noncomputable abbrev xIn:=xInB false
noncomputable abbrev xNin:=xInB true
theorem in_ref {x:V} {p:Addr} {H:Hp} {Q:VK} {xs:List V} (fx:flatV x=true) (h:∃ xs,Sq K H p xs/\flatV x=true/\xs.all flatV=true/\Q (.bl (inV x xs)) H):uIn K x (.ref p) H Q:=by
  cases x <;> exact h
theorem nin_ref {x:V} {p:Addr} {H:Hp} {Q:VK} {xs:List V} (fx:flatV x=true) (h:∃ xs,Sq K H p xs/\flatV x=true/\xs.all flatV=true/\Q (.bl (!inV x xs)) H):uNin K x (.ref p) H Q:=by
  cases x <;> exact h
theorem in_go {x:V} {u:U} {us:List U} {vs:List V} {p:Addr} {H:Hp} {A:AHp} {Q':AVK} {Q:VK} (hu:RU K H u x) (hs:Sq K H p vs) (r:RUs K H us vs) (g:HR K H A) (f:u.flat=true) (fs:us.all U.flat=true) (h:Q' (.bl (inU u us)) A) (k:Aft K H Q' Q):uIn K x (.ref p) H Q:=by
  obtain ⟨e1,f1⟩:=hu.flat f
  obtain ⟨e2,f2⟩:=r.flats fs
  refine in_ref (xs:=vs) f1 ⟨vs,hs,f1,f2,k _ _ _ _ (.refl H) g (.bl _) ?_⟩
  rw [e1,e2];exact h
theorem nin_go {x:V} {u:U} {us:List U} {vs:List V} {p:Addr} {H:Hp} {A:AHp} {Q':AVK} {Q:VK} (hu:RU K H u x) (hs:Sq K H p vs) (r:RUs K H us vs) (g:HR K H A) (f:u.flat=true) (fs:us.all U.flat=true) (h:Q' (.bl (!inU u us)) A) (k:Aft K H Q' Q):uNin K x (.ref p) H Q:=by
  obtain ⟨e1,f1⟩:=hu.flat f
  obtain ⟨e2,f2⟩:=r.flats fs
  refine nin_ref (xs:=vs) f1 ⟨vs,hs,f1,f2,k _ _ _ _ (.refl H) g (.bl _) ?_⟩
  rw [e1,e2];exact h
theorem ab_in:AbR K (uIn K) xIn:=fun x y u w A H Q' Q hu hw g h k=>by
  unfold xIn xInB at h
  split at h
  . obtain ⟨i,rfl,h⟩:=h
    cases hw;cases hu;exact k _ _ _ _ (.refl H) g (.bl _) h
  . cases hw with
    | tup h1 r1=>exact in_go hu (.inr h1) r1 g h.1 h.2.1 h.2.2 k
  . cases hw with
    | rol h1 r1=>exact in_go hu (.inl h1.sq) r1 g h.1 h.2.1 h.2.2 k
  . cases hw
    obtain ⟨us,e,h⟩:=h
    obtain ⟨vs,h1,r1⟩:=g.list e
    exact in_go hu (.inl (SqL.of h1)) r1 g h.1 h.2.1 h.2.2 k
  . exact h.elim
theorem ab_nin:AbR K (uNin K) xNin:=fun x y u w A H Q' Q hu hw g h k=>by
  unfold xNin xInB at h
  split at h
  . obtain ⟨i,rfl,h⟩:=h
    cases hw;cases hu;exact k _ _ _ _ (.refl H) g (.bl _) h
  . cases hw with
    | tup h1 r1=>exact nin_go hu (.inr h1) r1 g h.1 h.2.1 h.2.2 k
  . cases hw with
    | rol h1 r1=>exact nin_go hu (.inl h1.sq) r1 g h.1 h.2.1 h.2.2 k
  . cases hw
    obtain ⟨us,e,h⟩:=h
    obtain ⟨vs,h1,r1⟩:=g.list e
    exact nin_go hu (.inl (SqL.of h1)) r1 g h.1 h.2.1 h.2.2 k
  . exact h.elim
theorem RUs.at {H:Hp} {us:List U} {vs:List V} {i:Int} {u:U} (r:RUs K H us vs) (h:atI us i=some u):∃ v,atI vs i=some v/\RU K H u v:=by
  unfold atI at h ⊢
  rw [<- r.length]
  cases e:ixN us.length i with
  | none=>rw [e] at h;cases h
  | some j=>rw [e] at h;exact r.get' h
noncomputable def xIx:AR2:=fun u w A Q=>match u,w with
  | .str z,.int i=>z.length<=sizeLine/\∃ c,atI z.cps.toList i=some c/\Q (.str ⟨#[c]⟩) A
  | .tup us,.int i=>∃ x,atI us i=some x/\Q x A
  | .rol us,.int i=>∃ x,atI us i=some x/\Q x A
  | .ref a,.int i=>∃ us x,A a=some (.lst us)/\atI us i=some x/\Q x A
  | _,_=>False
theorem ab_ix:AbR K (uIx K) xIx:=fun x y u w A H Q' Q hu hw g h k=>by
  unfold xIx at h
  split at h
  . cases hu;cases hw
    obtain ⟨hz,c,e,h⟩:=h
    exact ⟨hz,c,e,k _ _ _ _ (.refl H) g (.str _) h⟩
  . cases hw
    obtain ⟨x,e,h⟩:=h
    cases hu with
    | tup h1 r1 =>
      obtain ⟨v,e2,rv⟩:=r1.at e
      exact ⟨_,v,.inr h1,e2,k _ _ _ _ (.refl H) g rv h⟩
  . cases hw
    obtain ⟨x,e,h⟩:=h
    cases hu with
    | rol h1 r1 =>
      obtain ⟨v,e2,rv⟩:=r1.at e
      exact ⟨_,v,.inl h1.sq,e2,k _ _ _ _ (.refl H) g rv h⟩
  . cases hw;cases hu
    obtain ⟨us,x,e0,e,h⟩:=h
    obtain ⟨vs,h1,r1⟩:=g.list e0
    obtain ⟨v,e2,rv⟩:=r1.at e
    exact ⟨_,v,.inl (SqL.of h1),e2,k _ _ _ _ (.refl H) g rv h⟩
  . exact h.elim
noncomputable def cutU (xs:List U) (lo hi:Option Int):List U:=(xs.drop (HT.sIx xs.length 0 lo)).take (HT.sIx xs.length xs.length hi - HT.sIx xs.length 0 lo)
theorem RUs.cut {H:Hp} {us:List U} {vs:List V} (r:RUs K H us vs) (lo hi:Option Int):RUs K H (cutU us lo hi) (cutV vs lo hi):=by
  unfold cutU cutV
  rw [r.length]
  exact (r.drop _).take _
noncomputable def xSl:U->Option Int->Option Int->AHp->AVK->Prop:=fun u lo hi A Q=>match u with
  | .str z=>z.length<=sizeLine/\Q (.str (cutS z lo hi)) A
  | .tup us=>Q (.tup (cutU us lo hi)) A
  | .rol us=>∀ p,A p=none->Q (.ref p) (updA A p (.lst (cutU us lo hi)))
  | .ref a=>∃ us,A a=some (.lst us)/\∀ p,A p=none->Q (.ref p) (updA A p (.lst (cutU us lo hi)))
  | _=>False
theorem ab_xsl:AbSl K (uSlW K) xSl:=fun x u lo hi A H Q' Q hu g h k=>by
  unfold xSl at h
  split at h
  . cases hu;exact ⟨h.1,k _ _ _ _ (.refl H) g (.str _) h.2⟩
  . cases hu with
    | tup h1 r1=>exact .inr ⟨_,h1,fun p H' s hp=>k _ _ _ _ s.kp (g.grow s) (.tup hp ((r1.cut lo hi).same s.kp)) h⟩
  . cases hu with
    | rol h1 r1=>exact .inl ⟨_,h1.sq,fun p hp=>k _ _ _ _ (Same.upd_new hp).kp (g.newL hp (r1.cut lo hi)) (.ref p) (h p (g.none hp))⟩
  . cases hu
    obtain ⟨us,e,h⟩:=h
    obtain ⟨vs,h1,r1⟩:=g.list e
    exact .inl ⟨_,SqL.of h1,fun p hp=>k _ _ _ _ (Same.upd_new hp).kp (g.newL hp (r1.cut lo hi)) (.ref p) (h p (g.none hp))⟩
  . exact h.elim
noncomputable def xLen:List U->AHp->AVK->Prop:=fun us A Q=>match us with
  | [.str z]=>z.length<=sizeLine/\Q (.int z.length) A
  | [.tup us]=>Q (.int us.length) A
  | [.rol us]=>Q (.int us.length) A
  | [.ref a]=>∃ us,A a=some (.lst us)/\Q (.int us.length) A
  | _=>False
theorem RUs.inv1 {H:Hp} {u:U} {vs:List V} (h:RUs K H [u] vs):∃ v,vs=[v]/\RU K H u v:=by
  cases h with
  | cons h r=>cases r;exact ⟨_,rfl,h⟩
theorem RUs.inv2 {H:Hp} {u w:U} {vs:List V} (h:RUs K H [u,w] vs):∃ v x,vs=[v,x]/\RU K H u v/\RU K H w x:=by
  cases h with
  | cons h r=>obtain ⟨x,rfl,r'⟩:=r.inv1;exact ⟨_,x,rfl,h,r'⟩
theorem ab_len:AbL K (uLen K) xLen:=fun xs us A H Q' Q r g h k=>by
  unfold xLen at h
  split at h
  . obtain ⟨v,rfl,r'⟩:=r.inv1;cases r';exact ⟨h.1,k _ _ _ _ (.refl H) g (.int _) h.2⟩
  . obtain ⟨v,rfl,r'⟩:=r.inv1
    cases r' with
    | tup h1 r1=>exact ⟨_,.inr h1,k _ _ _ _ (.refl H) g (.int _) (by rw [<- r1.length];exact h)⟩
  . obtain ⟨v,rfl,r'⟩:=r.inv1
    cases r' with
    | rol h1 r1=>exact ⟨_,.inl h1.sq,k _ _ _ _ (.refl H) g (.int _) (by rw [<- r1.length];exact h)⟩
  . obtain ⟨v,rfl,r'⟩:=r.inv1
    cases r'
    obtain ⟨us,e,h⟩:=h
    obtain ⟨vs,h1,r1⟩:=g.list e
    exact ⟨_,.inl (SqL.of h1),k _ _ _ _ (.refl H) g (.int _) (by rw [<- r1.length];exact h)⟩
  . exact h.elim
noncomputable def xMin:List U->AHp->AVK->Prop:=fun us A Q=>match us with
  | [.int i,.int j]=>Q (.int (min i j)) A
  | [.ref a]=>∃ ns:List Int,A a=some (.lst (ns.map U.int))/\1<=ns.length/\∀ m,m∈ns->(∀ x∈ns,m<=x)->Q (.int m) A
  | _=>False
noncomputable def xMax:List U->AHp->AVK->Prop:=fun us A Q=>match us with
  | [.int i,.int j]=>Q (.int (max i j)) A
  | [.ref a]=>∃ ns:List Int,A a=some (.lst (ns.map U.int))/\1<=ns.length/\∀ m,m∈ns->(∀ x∈ns,x<=m)->Q (.int m) A
  | _=>False
theorem ab_min:AbL K (uMinA K) xMin:=fun xs us A H Q' Q r g h k=>by
  unfold xMin at h
  split at h
  . obtain ⟨v,x,rfl,r1,r2⟩:=r.inv2;cases r1;cases r2;exact k _ _ _ _ (.refl H) g (.int _) h
  . obtain ⟨v,rfl,r'⟩:=r.inv1;cases r'
    obtain ⟨ns,e,hn,h⟩:=h
    obtain ⟨vs,h1,r1⟩:=g.list e
    exact ⟨ns,SqL.of (by rw [h1,r1.ints]),hn,fun m hm hx=>k _ _ _ _ (.refl H) g (.int _) (h m hm hx)⟩
  . exact h.elim
theorem ab_max:AbL K (uMaxA K) xMax:=fun xs us A H Q' Q r g h k=>by
  unfold xMax at h
  split at h
  . obtain ⟨v,x,rfl,r1,r2⟩:=r.inv2;cases r1;cases r2;exact k _ _ _ _ (.refl H) g (.int _) h
  . obtain ⟨v,rfl,r'⟩:=r.inv1;cases r'
    obtain ⟨ns,e,hn,h⟩:=h
    obtain ⟨vs,h1,r1⟩:=g.list e
    exact ⟨ns,SqL.of (by rw [h1,r1.ints]),hn,fun m hm hx=>k _ _ _ _ (.refl H) g (.int _) (h m hm hx)⟩
  . exact h.elim
noncomputable def xSum:List U->AHp->AVK->Prop:=fun us A Q=>match us with
  | [.ref a]=>∃ ns:List Int,A a=some (.lst (ns.map U.int))/\Q (.int ns.sum) A
  | _=>False
theorem ab_sum:AbL K (uSum K) xSum:=fun xs us A H Q' Q r g h k=>by
  unfold xSum at h
  split at h
  . obtain ⟨v,rfl,r'⟩:=r.inv1;cases r'
    obtain ⟨ns,e,h⟩:=h
    obtain ⟨vs,h1,r1⟩:=g.list e
    exact ⟨ns,SqL.of (by rw [h1,r1.ints]),k _ _ _ _ (.refl H) g (.int _) h⟩
  . exact h.elim
noncomputable def xAll:List U->AHp->AVK->Prop:=fun us A Q=>match us with
  | [.ref a]=>∃ bs:List Bool,A a=some (.lst (bs.map U.bl))/\Q (.bl (bs.all id)) A
  | _=>False
theorem ab_all:AbL K (fun xs H Q=>∃ (p:Addr) (bs:List Bool),xs=[.ref p]/\SqL K H p (bs.map V.bl)/\Q (.bl (bs.all id)) H) xAll:=fun xs us A H Q' Q r g h k=>by
  unfold xAll at h
  split at h
  . obtain ⟨v,rfl,r'⟩:=r.inv1;cases r'
    obtain ⟨bs,e,h⟩:=h
    obtain ⟨vs,h1,r1⟩:=g.list e
    exact ⟨_,bs,rfl,SqL.of (by rw [h1,r1.bls]),k _ _ _ _ (.refl H) g (.bl _) h⟩
  . exact h.elim
noncomputable def xListOf:List U->AHp->AVK->Prop:=fun us A Q=>match us with
  | [.tup us]=>∀ p,A p=none->Q (.ref p) (updA A p (.lst us))
  | [.rol us]=>∀ p,A p=none->Q (.ref p) (updA A p (.lst us))
  | [.ref a]=>∃ us,A a=some (.lst us)/\∀ p,A p=none->Q (.ref p) (updA A p (.lst us))
  | _=>False
theorem ab_listof:AbL K (uListOf K) xListOf:=fun xs us A H Q' Q r g h k=>by
  unfold xListOf at h
  split at h
  . obtain ⟨v,rfl,r'⟩:=r.inv1
    cases r' with
    | tup h1 r1=>exact ⟨_,.inr h1,fun p hp=>k _ _ _ _ (Same.upd_new hp).kp (g.newL hp r1) (.ref p) (h p (g.none hp))⟩
  . obtain ⟨v,rfl,r'⟩:=r.inv1
    cases r' with
    | rol h1 r1=>exact ⟨_,.inl h1.sq,fun p hp=>k _ _ _ _ (Same.upd_new hp).kp (g.newL hp r1) (.ref p) (h p (g.none hp))⟩
  . obtain ⟨v,rfl,r'⟩:=r.inv1
    cases r'
    obtain ⟨us,e,h⟩:=h
    obtain ⟨vs,h1,r1⟩:=g.list e
    exact ⟨_,.inl (SqL.of h1),fun p hp=>k _ _ _ _ (Same.upd_new hp).kp (g.newL hp r1) (.ref p) (h p (g.none hp))⟩
  . exact h.elim
noncomputable def xTupOf:List U->AHp->AVK->Prop:=fun us A Q=>match us with
  | [.tup us]=>Q (.tup us) A
  | [.rol us]=>Q (.tup us) A
  | [.ref a]=>∃ us,A a=some (.lst us)/\Q (.tup us) A
  | _=>False
noncomputable def xInt:List U->AHp->AVK->Prop:=fun us A Q=>match us with
  | [.int i]=>Q (.int i) A
  | [.bl k]=>Q (.int (if k then 1 else 0)) A
  | _=>False
theorem ab_xint:AbL K uInt xInt:=fun xs us A H Q' Q r g h k=>by
  unfold xInt at h
  split at h
  . obtain ⟨v,rfl,r'⟩:=r.inv1;cases r';exact k _ _ _ _ (.refl H) g (.int _) h
  . obtain ⟨v,rfl,r'⟩:=r.inv1;cases r';exact k _ _ _ _ (.refl H) g (.int _) h
  . exact h.elim
theorem ab_neg:AbU K (rU fun i=>.int (-i)) (fun u A Q=>∃ i,u=.int i/\Q (.int (-i)) A):=fun x u A H Q' Q r g hq0 k=>by
  obtain ⟨i,e,h⟩:=hq0
  subst e;cases r;exact ⟨i,rfl,k _ _ _ _ (.refl H) g (.int _) h⟩
noncomputable def isLst:U->AHp->Prop:=fun u A=>match u with
  | .ref a=>∃ us,A a=some (.lst us)
  | _=>False
theorem ab_isLst:AbY K "list" isLst:=fun x u A H r g h=>by
  unfold isLst at h
  split at h
  . cases r
    obtain ⟨us,e⟩:=h
    obtain ⟨vs,h1,r1⟩:=g.list e
    exact .inl ⟨rfl,vs,SqL.of h1⟩
  . exact h.elim
noncomputable def isTupU:U->AHp->Prop:=fun u _=>match u with
  | .tup _=>True
  | _=>False
noncomputable def mApp:U->List U->AHp->AVK->Prop:=fun u us A Q=>match u,us with
  | .ref a,[w]=>∃ xs,A a=some (.lst xs)/\xs.length < sizeLine/\Q .non (updA A a (.lst (xs++[w])))
  | _,_=>False
theorem ab_mapp:AbMt K rAppend mApp:=fun x u xs us A H Q' Q r rs g h k=>by
  unfold mApp at h
  split at h
  . cases r
    obtain ⟨v,rfl,rv⟩:=rs.inv1
    obtain ⟨zs,e,hz,h⟩:=h
    obtain ⟨vs,h1,r1⟩:=g.list e
    exact ⟨_,vs,_,rfl,rfl,h1,by rw [<- r1.length];exact hz,k _ _ _ _ (Kp.lst h1) (g.setL h1 (r1.app (.one rv))) .non h⟩
  . exact h.elim
noncomputable def mPop:U->List U->AHp->AVK->Prop:=fun u us A Q=>match u,us with
  | .ref a,[]=>∃ xs y,A a=some (.lst (xs++[y]))/\Q y (updA A a (.lst xs))
  | _,_=>False
theorem ab_mpop:AbMt K rPop mPop:=fun x u xs us A H Q' Q r rs g h k=>by
  unfold mPop at h
  split at h
  . cases r;cases rs
    obtain ⟨zs,y,e,h⟩:=h
    obtain ⟨vs,h1,r1⟩:=g.list e
    have hl:=r1.length
    rw [List.length_append,List.length_singleton] at hl
    obtain ⟨v,hv,rv⟩:=r1.get' (i:=zs.length) (u:=y) (by simp)
    refine ⟨_,vs,v,rfl,rfl,h1,by rw [<- hl];exact hv,k _ _ _ _ (Kp.lst h1) (g.setL h1 ?_) (rv.same (Kp.lst h1)) h⟩
    have:=r1.dropLast
    rw [List.dropLast_concat] at this
    exact this
  . exact h.elim
end
end L2
namespace L2
open PySem PySem.Spec PyProof.Rows
theorem cutU_tail (x:U) (xs:List U):cutU (x::xs) (some 1) none=xs:=by
  unfold cutU
  have:HT.sIx (x::xs).length 0 (some 1)=1:=by
    have:=HT.sIx_nat (x::xs).length 0 1
    rw [show ((1:Nat):Int)=1 from rfl] at this
    rw [this,List.length_cons];lia
  rw [this,HT.sIx_none,List.drop_succ_cons,List.drop_zero,List.length_cons,Nat.add_sub_cancel,List.take_length]
section
variable {u:U} {ρ:ASt} {A:AHp} {Q:AVK} {a b:AE} {c d:AT} {B:Bool->AHp->Prop} {l:AA} {L:List U->AHp->Prop} {D:AEnds}
theorem q_var0 :(aVar 0 (some u::ρ) A Q)=(Q u A):=rfl
theorem q_nm0 {a0:Option U} {g:ASt->AHp->Prop} :(bName 0 u (a0::ρ) A g)=(g (some u::ρ) A):=rfl
theorem q_get0 {k:U->Prop} :(aGet (some u::ρ) 0 k)=(k u):=rfl
theorem q_varS {i:Nat} {a0:Option U}:(aVar (i + 1) (a0::ρ) A Q)=(aVar i ρ A Q):=rfl
theorem q_nmS {i:Nat} {a0:Option U} {g:ASt->AHp->Prop}:(bName (i + 1) u (a0::ρ) A g)=(bName i u ρ A fun ρ2 A2=>g (a0::ρ2) A2):=rfl
theorem q_getS {i:Nat} {a0:Option U} {k:U->Prop}:(aGet (a0::ρ) (i + 1) k)=(aGet ρ i k):=rfl
theorem q_c :(aC u ρ A Q)=(Q u A):=rfl
theorem q_op {r:AR2}:(aOp r a b ρ A Q)=(a ρ A fun x A1=>b ρ A1 fun y A2=>r x y A2 Q):=rfl
theorem q_un {r:U->AHp->AVK->Prop}:(aUn r a ρ A Q)=(a ρ A fun x A1=>r x A1 Q):=rfl
theorem q_tb :(aB a ρ A B)=(a ρ A fun x A1=>∃ c,x=.bl c/\B c A1):=rfl
theorem q_bl {k:Bool} {F:Bool->Prop}:(∃ c,U.bl k=.bl c/\F c)=(F k):=by simp
theorem q_int {i:Int} {F:Int->Prop}:(∃ c,U.int i=.int c/\F c)=(F i):=by simp
theorem q_and :(aAnd c d ρ A B)=(c ρ A fun k A1=>if k=true then d ρ A1 B else B false A1):=rfl
theorem q_or :(aOr c d ρ A B)=(c ρ A fun k A1=>if k=true then B true A1 else d ρ A1 B):=rfl
theorem q_not :(aNot c ρ A B)=(c ρ A fun k A1=>B (!k) A1):=rfl
theorem q_andv :(aAndV a b ρ A Q)=(a ρ A fun x A1=>∃ k,x=.bl k/\if k=true then b ρ A1 Q else Q (.bl false) A1):=rfl
theorem q_orv :(aOrV a b ρ A Q)=(a ρ A fun x A1=>∃ k,x=.bl k/\if k=true then Q (.bl true) A1 else b ρ A1 Q):=rfl
theorem q_notv :(aNotV a ρ A Q)=(a ρ A fun x A1=>∃ k,x=.bl k/\Q (.bl (!k)) A1):=rfl
theorem q_chain {r r2:AR2} {e:AE}:(aChain r r2 a b e ρ A Q)=(a ρ A fun x A1=>b ρ A1 fun y A2=>r x y A2 fun z A3=>∃ k,z=.bl k/\(if k=true then e ρ A3 fun w A4=>r2 y w A4 Q else Q (.bl false) A3)):=rfl
theorem q_true :(aTrue ρ A B)=(B true A):=rfl
theorem q_nil :(aNil ρ A L)=(L [] A):=rfl
theorem q_cons :(aCons a l ρ A L)=(a ρ A fun x A1=>l ρ A1 fun xs A2=>L (x::xs) A2):=rfl
theorem q_const {us:List U}:(aConst us ρ A L)=(L us A):=rfl
theorem q_tup :(aTup l ρ A Q)=(l ρ A fun xs A1=>xs.length<=sizeLine/\Q (.tup xs) A1):=rfl
theorem q_lst :(aLst l ρ A Q)=(l ρ A fun xs A1=>xs.length<=sizeLine/\∀ p,A1 p=none->Q (.ref p) (updA A1 p (.lst xs))):=rfl
theorem q_cb {r:List U->AHp->AVK->Prop}:(aCB r l ρ A Q)=(l ρ A fun us A1=>r us A1 Q):=rfl
theorem q_call {sp:ASp}:(aCall sp l ρ A Q)=(l ρ A fun us A1=>sp us A1 Q):=rfl
theorem q_nopart {O:Option Int->AHp->Prop}:(aNoPart ρ A O)=(O none A):=rfl
theorem q_part {O:Option Int->AHp->Prop}:(aPart a ρ A O)=(a ρ A fun x A1=>∃ i,x=.int i/\O (some i) A1):=rfl
theorem q_sl {r:U->Option Int->Option Int->AHp->AVK->Prop} {lo hi:AP1}:(aSl r a lo hi ρ A Q)=(a ρ A fun x A1=>lo ρ A1 fun i A2=>hi ρ A2 fun j A3=>r x i j A3 Q):=rfl
theorem q_bm0 {y:U->AHp->Prop} {r:U->List U->AHp->AVK->Prop}:(aBM0 y r a ρ A Q)=(a ρ A fun x A1=>y x A1/\r x [] A1 Q):=rfl
theorem q_bm {y:U->AHp->Prop} {r:U->List U->AHp->AVK->Prop}:(aBM y r a l ρ A Q)=(a ρ A fun x A1=>y x A1/\l ρ A1 fun us A2=>r x us A2 Q):=rfl
theorem q_next :(aNext D ρ A)=(D.nx ρ A):=rfl
theorem q_seq {t t2:AS}:(aSeq t t2 D ρ A)=(t { D with nx:=t2 D } ρ A):=rfl
theorem q_drop :(aDrop a D ρ A)=(a ρ A fun _ A1=>D.nx ρ A1):=rfl
theorem q_ret :(aRet a D ρ A)=(a ρ A D.rt):=rfl
theorem q_ifs {t t2:AS}:(aIfS c t t2 D ρ A)=(c ρ A fun k A1=>if k=true then t D ρ A1 else t2 D ρ A1):=rfl
theorem q_asg {g:AG}:(aAsg a g D ρ A)=(a ρ A fun x A1=>g x ρ A1 D.nx):=rfl
theorem q_par {i j:Nat}:(aPar i j l D ρ A)=(l ρ A fun us A1=>∃ v w,us=[v,w]/\D.nx ((ρ.set i (some v)).set j (some w)) A1):=rfl
theorem q_two {v w:U} {F:U->U->Prop}:(∃ a b,[v,w]=[a,b]/\F a b)=(F v w):=propext ⟨fun hq0=>by obtain ⟨a,b,e,h⟩:=hq0;injection e with e1 e2;injection e2 with e2 _;subst e1 e2;exact h,fun h=>⟨_,_,rfl,h⟩⟩
theorem q_for {wi:AI} {g:AG} {t:AS}:(aFor wi g t D ρ A)=(wi ρ A fun J A1=>aLoop J g t D ρ A1):=rfl
theorem q_jof {y:U->AHp->(AIt->AHp->Prop)->Prop} {R:AIt->AHp->Prop}:(aJof y a ρ A R)=(a ρ A fun x A1=>y x A1 R):=rfl
theorem q_jargs {y:List U->AHp->(AIt->AHp->Prop)->Prop} {R:AIt->AHp->Prop}:(aJargs y l ρ A R)=(l ρ A fun us A1=>y us A1 R):=rfl
theorem q_ylr {R:AIt->AHp->Prop} {p:Addr}:(yList (.ref p) A R)=((∃ us,A p=some (.lst us))/\R (jLst p) A):=rfl
theorem q_ylo {R:AIt->AHp->Prop} {us:List U}:(yList (.rol us) A R)=(R (jFix us) A):=rfl
theorem q_yt {R:AIt->AHp->Prop} {us:List U}:(yTup (.tup us) A R)=(R (jFix us) A):=rfl
theorem q_ys {R:AIt->AHp->Prop} {z:Str}:(yStr (.str z) A R)=(R (jFix (z.cps.toList.map fun c=>.str ⟨#[c]⟩)) A):=rfl
theorem q_yr1 {R:AIt->AHp->Prop} {j:Int}:(yRng1 [.int j] A R)=(-(2 ^ 62)<=j/\j < 2 ^ 62/\R (jFix (rngU 0 j.toNat)) A):=rfl
theorem q_yer {R:AIt->AHp->Prop} {p:Addr}:(yEnum [.ref p] A R)=((∃ us,A p=some (.lst us))/\R (jEnum p) A):=rfl
theorem q_yeo {R:AIt->AHp->Prop} {us:List U}:(yEnum [.rol us] A R)=(R (jFix (enU us)) A):=rfl
theorem q_yet {R:AIt->AHp->Prop} {us:List U}:(yEnumT [.tup us] A R)=(R (jFix (enU us)) A):=rfl
theorem q_jrev {R:AIt->AHp->Prop}:(aJrev a ρ A R)=(a ρ A fun x A1=>∃ p us,x=.ref p/\A1 p=some (.lst us)/\R (jRevA p us.length) A1):=rfl
theorem q_comp {nt:Nat} {frs:List (Str × Nat)} {wi:AI} {g:AG} {tt:AT} {te:AE}:(aComp nt frs wi g tt te ρ A Q)=(wi ρ A fun J A1=>∀ l,A1 l=none->aCL J g tt te l Q (aCompStart nt frs ρ) (updA A1 l (.lst []))):=rfl
theorem q_gtup {n:Nat} {t:AGs} {N:ASt->AHp->Prop} {us:List U}:(bTup n t (.tup us) ρ A N)=(us.length=n/\t us ρ A N):=propext ⟨fun hq0=>by obtain ⟨vs,e,h⟩:=hq0;cases e;exact h,fun h=>⟨_,rfl,h⟩⟩
theorem q_gcons {t:AG} {ts:AGs} {N:ASt->AHp->Prop} {us:List U}:(bCons t ts (u::us) ρ A N)=(t u ρ A fun ρ2 A2=>ts us ρ2 A2 N):=propext ⟨fun hq0=>by obtain ⟨v,r,e,h⟩:=hq0;cases e;exact h,fun h=>⟨_,_,rfl,h⟩⟩
theorem q_gnil {N:ASt->AHp->Prop}:(bNil [] ρ A N)=(N ρ A):=propext ⟨fun h=>h.2,fun h=>⟨rfl,h⟩⟩
theorem q_addi {i j:Int}:(xAdd (.int i) (.int j) A Q)=(Q (.int (i + j)) A):=rfl
theorem q_adds {x y:Str}:(xAdd (.str x) (.str y) A Q)=(x.length + y.length<=sizeLine/\Q (.str (x++y)) A):=rfl
theorem q_addt {us ws:List U}:(xAdd (.tup us) (.tup ws) A Q)=(us.length + ws.length<=sizeLine/\Q (.tup (us++ws)) A):=rfl
theorem q_addr {p q:Addr}:(xAdd (.ref p) (.ref q) A Q)=(∃ xs ys,A p=some (.lst xs)/\A q=some (.lst ys)/\xs.length + ys.length<=sizeLine/\∀ p,A p=none->Q (.ref p) (updA A p (.lst (xs++ys)))):=rfl
theorem q_xi {i j:Int} {f:Int->Int->U}:(xI f (.int i) (.int j) A Q)=(Q (f i j) A):=rfl
theorem q_xi2 {i j:Int} {f:Int->Int->U} {C:Int->Int->Prop}:(xI2 C f (.int i) (.int j) A Q)=(C i j/\Q (f i j) A):=rfl
theorem q_mul {i j:Int}:(xMul (.int i) (.int j) A Q)=(IntMulOk i j/\Q (.int (i * j)) A):=rfl
theorem q_rep {p:Addr} {m:Int}:(xMul (.ref p) (.int m) A Q)=(∃ xs,A p=some (.lst xs)/\-(2 ^ 63)<=m/\m < 2 ^ 63/\xs.length * m.toNat<=sizeLine/\∀ p,A p=none->Q (.ref p) (updA A p (.lst (List.replicate m.toNat xs).flatten))):=rfl
theorem q_lti {i j:Int}:(xLt (.int i) (.int j) A Q)=(Q (.bl (decide (i < j))) A):=rfl
theorem q_lts {x y:Str}:(xLt (.str x) (.str y) A Q)=(Q (.bl (decide (x.cps.toList < y.cps.toList))) A):=rfl
theorem q_eqi {i j:Int}:(xEq (.int i) (.int j) A Q)=(Q (.bl (decide (i=j))) A):=rfl
theorem q_eqs {x y:Str}:(xEq (.str x) (.str y) A Q)=(Q (.bl (decide (x=y))) A):=rfl
theorem q_eqb {k m:Bool}:(xEq (.bl k) (.bl m) A Q)=(Q (.bl (decide (k=m))) A):=rfl
theorem q_eqt {us ws:List U}:(xEq (.tup us) (.tup ws) A Q)=(xDeep false (.tup us) (.tup ws) A Q):=rfl
theorem q_eqr {p q:Addr}:(xEq (.ref p) (.ref q) A Q)=(xDeep false (.ref p) (.ref q) A Q):=rfl
theorem q_eqtn {us:List U}:(xEq (.tup us) .non A Q)=(xDeep false (.tup us) .non A Q):=rfl
theorem q_eqnt {us:List U}:(xEq .non (.tup us) A Q)=(xDeep false .non (.tup us) A Q):=rfl
theorem q_eqnn :(xEq .non .non A Q)=(Q (.bl true) A):=rfl
theorem q_eqns {x:Str}:(xEq .non (.str x) A Q)=(Q (.bl false) A):=rfl
theorem q_eqsn {x:Str}:(xEq (.str x) .non A Q)=(Q (.bl false) A):=rfl
theorem q_nei {i j:Int}:(xNe (.int i) (.int j) A Q)=(Q (.bl (!decide (i=j))) A):=rfl
theorem q_nes {x y:Str}:(xNe (.str x) (.str y) A Q)=(Q (.bl (!decide (x=y))) A):=rfl
theorem q_neb {k m:Bool}:(xNe (.bl k) (.bl m) A Q)=(Q (.bl (!decide (k=m))) A):=rfl
theorem q_net {us ws:List U}:(xNe (.tup us) (.tup ws) A Q)=(xDeep true (.tup us) (.tup ws) A Q):=rfl
theorem q_ner {p q:Addr}:(xNe (.ref p) (.ref q) A Q)=(xDeep true (.ref p) (.ref q) A Q):=rfl
theorem q_netn {us:List U}:(xNe (.tup us) .non A Q)=(xDeep true (.tup us) .non A Q):=rfl
theorem q_nent {us:List U}:(xNe .non (.tup us) A Q)=(xDeep true .non (.tup us) A Q):=rfl
theorem q_nenn :(xNe .non .non A Q)=(Q (.bl false) A):=rfl
theorem q_nens {x:Str}:(xNe .non (.str x) A Q)=(Q (.bl true) A):=rfl
theorem q_nesn {x:Str}:(xNe (.str x) .non A Q)=(Q (.bl true) A):=rfl
theorem q_isn :(xIsN u .non A Q)=(Q (.bl u.isNon) A):=propext ⟨fun h=>h.2,fun h=>⟨rfl,h⟩⟩
theorem q_notn :(xNotN u .non A Q)=(Q (.bl (!u.isNon)) A):=propext ⟨fun h=>h.2,fun h=>⟨rfl,h⟩⟩
theorem q_int_ {us:List U}:(xInB false u (.tup us) A Q)=(u.flat=true/\us.all U.flat=true/\Q (.bl (inU u us)) A):=rfl
theorem q_nint_ {us:List U}:(xInB true u (.tup us) A Q)=(u.flat=true/\us.all U.flat=true/\Q (.bl (!inU u us)) A):=rfl
theorem q_inr_ {p:Addr}:(xInB false u (.ref p) A Q)=(∃ us,A p=some (.lst us)/\u.flat=true/\us.all U.flat=true/\Q (.bl (inU u us)) A):=rfl
theorem q_ninr_ {p:Addr}:(xInB true u (.ref p) A Q)=(∃ us,A p=some (.lst us)/\u.flat=true/\us.all U.flat=true/\Q (.bl (!inU u us)) A):=rfl
theorem q_ins_ {x y:Str}:(xInB false (.str x) (.str y) A Q)=(Q (.bl (occ y x)) A):=propext ⟨fun hq0=>by obtain ⟨i,e,h⟩:=hq0;cases e;exact h,fun h=>⟨_,rfl,h⟩⟩
theorem q_nins_ {x y:Str}:(xInB true (.str x) (.str y) A Q)=(Q (.bl (!occ y x)) A):=propext ⟨fun hq0=>by obtain ⟨i,e,h⟩:=hq0;cases e;exact h,fun h=>⟨_,rfl,h⟩⟩
theorem q_ixs {z:Str} {i:Int}:(xIx (.str z) (.int i) A Q)=(z.length<=sizeLine/\∃ c,atI z.cps.toList i=some c/\Q (.str ⟨#[c]⟩) A):=rfl
theorem q_ix0 {us:List U}:(xIx (.tup (u::us)) (.int 0) A Q)=(Q u A):=propext ⟨fun hq0=>by obtain ⟨x,e,h⟩:=hq0;rw [show atI (u::us) 0=some u from atI_nat (j:=0) rfl] at e;cases e;exact h,fun h=>⟨_,atI_nat (j:=0) rfl,h⟩⟩
theorem q_ix1 {w:U} {us:List U}:(xIx (.tup (u::w::us)) (.int 1) A Q)=(Q w A):=propext ⟨fun hq0=>by obtain ⟨x,e,h⟩:=hq0;rw [show atI (u::w::us) 1=some w from atI_nat (j:=1) rfl] at e;cases e;exact h,fun h=>⟨_,atI_nat (j:=1) rfl,h⟩⟩
theorem q_ix2 {w x:U} {us:List U}:(xIx (.tup (u::w::x::us)) (.int 2) A Q)=(Q x A):=propext ⟨fun hq0=>by obtain ⟨z,e,h⟩:=hq0;rw [show atI (u::w::x::us) 2=some x from atI_nat (j:=2) rfl] at e;cases e;exact h,fun h=>⟨_,atI_nat (j:=2) rfl,h⟩⟩
theorem q_ixt {us:List U} {i:Int}:(xIx (.tup us) (.int i) A Q)=(∃ x,atI us i=some x/\Q x A):=rfl
theorem q_ixo {us:List U} {i:Int}:(xIx (.rol us) (.int i) A Q)=(∃ x,atI us i=some x/\Q x A):=rfl
theorem q_ixr {p:Addr} {i:Int}:(xIx (.ref p) (.int i) A Q)=(∃ us x,A p=some (.lst us)/\atI us i=some x/\Q x A):=rfl
theorem q_sls {lo hi:Option Int} {z:Str}:(xSl (.str z) lo hi A Q)=(z.length<=sizeLine/\Q (.str (cutS z lo hi)) A):=rfl
theorem q_slt1 {us:List U}:(xSl (.tup (u::us)) (some 1) none A Q)=(Q (.tup us) A):=by show Q (.tup (cutU (u::us) (some 1) none)) A=_;rw [cutU_tail]
theorem q_slt {lo hi:Option Int} {us:List U}:(xSl (.tup us) lo hi A Q)=(Q (.tup (cutU us lo hi)) A):=rfl
theorem q_slo {lo hi:Option Int} {us:List U}:(xSl (.rol us) lo hi A Q)=(∀ p,A p=none->Q (.ref p) (updA A p (.lst (cutU us lo hi)))):=rfl
theorem q_slr {lo hi:Option Int} {p:Addr}:(xSl (.ref p) lo hi A Q)=(∃ us,A p=some (.lst us)/\∀ p,A p=none->Q (.ref p) (updA A p (.lst (cutU us lo hi)))):=rfl
theorem q_lens {z:Str}:(xLen [.str z] A Q)=(z.length<=sizeLine/\Q (.int z.length) A):=rfl
theorem q_lent {us:List U}:(xLen [.tup us] A Q)=(Q (.int us.length) A):=rfl
theorem q_leno {us:List U}:(xLen [.rol us] A Q)=(Q (.int us.length) A):=rfl
theorem q_lenr {p:Addr}:(xLen [.ref p] A Q)=(∃ us,A p=some (.lst us)/\Q (.int us.length) A):=rfl
theorem q_min2 {i j:Int}:(xMin [.int i,.int j] A Q)=(Q (.int (min i j)) A):=rfl
theorem q_max2 {i j:Int}:(xMax [.int i,.int j] A Q)=(Q (.int (max i j)) A):=rfl
theorem q_minl {p:Addr}:(xMin [.ref p] A Q)=(∃ ns:List Int,A p=some (.lst (ns.map U.int))/\1<=ns.length/\∀ m,m∈ns->(∀ x∈ns,m<=x)->Q (.int m) A):=rfl
theorem q_maxl {p:Addr}:(xMax [.ref p] A Q)=(∃ ns:List Int,A p=some (.lst (ns.map U.int))/\1<=ns.length/\∀ m,m∈ns->(∀ x∈ns,x<=m)->Q (.int m) A):=rfl
theorem q_sum {p:Addr}:(xSum [.ref p] A Q)=(∃ ns:List Int,A p=some (.lst (ns.map U.int))/\Q (.int ns.sum) A):=rfl
theorem q_all {p:Addr}:(xAll [.ref p] A Q)=(∃ bs:List Bool,A p=some (.lst (bs.map U.bl))/\Q (.bl (bs.all id)) A):=rfl
theorem q_lot {us:List U}:(xListOf [.tup us] A Q)=(∀ p,A p=none->Q (.ref p) (updA A p (.lst us))):=rfl
theorem q_loo {us:List U}:(xListOf [.rol us] A Q)=(∀ p,A p=none->Q (.ref p) (updA A p (.lst us))):=rfl
theorem q_lor {p:Addr}:(xListOf [.ref p] A Q)=(∃ us,A p=some (.lst us)/\∀ p,A p=none->Q (.ref p) (updA A p (.lst us))):=rfl
theorem q_tot {us:List U}:(xTupOf [.tup us] A Q)=(Q (.tup us) A):=rfl
theorem q_tor {p:Addr}:(xTupOf [.ref p] A Q)=(∃ us,A p=some (.lst us)/\Q (.tup us) A):=rfl
theorem q_xint {i:Int}:(xInt [.int i] A Q)=(Q (.int i) A):=rfl
theorem q_isl {p:Addr}:(isLst (.ref p) A)=(∃ us,A p=some (.lst us)):=rfl
theorem q_ist {us:List U}:(isTupU (.tup us) A)=(True):=rfl
theorem q_app {p:Addr}:(mApp (.ref p) [u] A Q)=(∃ xs,A p=some (.lst xs)/\xs.length < sizeLine/\Q .non (updA A p (.lst (xs++[u])))):=rfl
theorem q_pop {p:Addr}:(mPop (.ref p) [] A Q)=(∃ xs y,A p=some (.lst (xs++[y]))/\Q y (updA A p (.lst xs))):=rfl
theorem q_neg {i:Int}:((fun (u:U) (A:AHp) (Q:AVK)=>∃ i,u=.int i/\Q (.int (-i)) A) (.int i) A Q)=(Q (.int (-i)) A):=by simp
end
end L2
namespace L2
open PySem PySem.Spec PyProof.Rows
noncomputable def Ext (A A':AHp):Prop:=∀ a o,A a=some o->A' a=some o
theorem Ext.refl (A:AHp):Ext A A:=fun _ _ h=>h
theorem Ext.trans {A B C:AHp} (h:Ext A B) (k:Ext B C):Ext A C:=fun a o e=>k a o (h a o e)
theorem Ext.new {A:AHp} {l:Addr} {o:AO} (h:A l=none):Ext A (updA A l o):=fun b u e=>by
  rw [updA_ne (fun z=>by rw [z,h] at e;cases e)];exact e
theorem HR.ext {K:PySem.W.Frag} {H:Hp} {A A':AHp} (e:Ext A A') (h:HR K H A'):HR K H A:=fun a o q=>h a o (e a o q)
noncomputable def Fg (Q:AVK):AVK:=fun u A=>∃ A',Ext A' A/\Q u A'
noncomputable def aStart (N:List Str) (us:List U):ASt:=us.map some++List.replicate (N.length - us.length) none
section
variable {P:Program} {w:World} {K:PySem.W.Frag} {mg:Str->Option Value} {base:Heap}
theorem RSt.nones {H:Hp}:∀ n,RSt K H (List.replicate n none) (List.replicate n none)
  | 0=>.nil
  | n + 1=>.skip (RSt.nones n)
theorem RSt.start {H:Hp} (N:List Str) {us:List U} {vs:List V} (r:RUs K H us vs):RSt K H (aStart N us) (L2.start N vs):=by
  unfold aStart L2.start
  rw [r.length]
  generalize N.length - vs.length=n
  induction us generalizing vs with
  | nil=>cases r;exact RSt.nones n
  | cons u us ih =>
    cases r with
    | cons h r=>exact .cons h (ih r)
theorem Fun.okA {x qual:Str} {st:Stmt} {f:Addr} {fd:FuncData} {N ps:List Str} {k:Nat} {asp:ASp} {sc:Scope} {body:List Stmt} {as:AS} (F:Fun K x qual st f fd) (hs:defScope st=sc) (hb:defBody st=body) (S:FnScope N ps (defScope st))
    (hbody:FnScope N ps sc->∀ (cdv:Value) (A:Around) (outer:List Env) (s:Shared) (H:Hp) (E:XK),Room k (A.deeper (envOfC qual sc s.heap.objs.size f cdv)) ->
      ∃ t,PSs (cxOf CX0 P w K mg base N qual sc f cdv A outer s H E).nox body t/\AbS K t as)
    (hsp:∀ us A Q,asp us A Q->us.length=ps.length/\as { nx:=fun _ A'=>Fg Q .non A',rt:=Fg Q } (aStart N us) A):FnOk P w K mg base CX0 (k + 1) f fd ps (spOf K asp):=by
  refine F.ok2 hs hb S (fun vs H Q E ⟨us,A,Q',r,g,h,_⟩=>?_) fun S cdv A outer s H vs Q E hr ⟨us,A',Q',r,g,h,k⟩=>?_
  . rw [<- r.length];exact (hsp us A Q' h).1
  . obtain ⟨t,ht,ha⟩:=hbody S cdv A outer s H E hr
    exact ⟨t,ht,ha _ _ _ _ _ _ (RSt.start N r) g (hsp us A' Q' h).2 ⟨fun ρ A σ H' k' g' s' ⟨A3,e,q'⟩=>k _ _ _ _ k' (g'.ext e) .non q',fun u A v H' k' g' r' ⟨A3,e,q'⟩=>k _ _ _ _ k' (g'.ext e) r' q',fun _ _ _ _ _ _ _ q=>q.elim,fun _ _ _ _ _ _ _ q=>q.elim⟩⟩
noncomputable def aspLaw:ASp:=fun us A Q=>∃ ns:List Int,us=[.rol (ns.map U.int)]/\ns.length<=63/\∀ A',Q (.bl true) A'
theorem law_in {H:Hp} {a:Addr} {ns:List Int} {E:XK} (hl:ns.length<=63) (hO:Only H) (hS:SqL K H a (ns.map V.int)):spOf K aspLaw [.ref a] H (fun v _=>v=.bl true) E:=by
  have hR:SqR K H a (ns.map V.int):=by
    rcases hS with (h | h) | h
    . rcases hO a with e | ⟨o,xs,e⟩ <;> rw [e] at h <;> cases h
    . exact .inl h
    . exact .inr h
  exact ⟨[.rol (ns.map U.int)],fun _=>none,fun u _=>u=.bl true,.one (.rol hR RUs.of_ints),(fun a o e=>by cases e),⟨ns,rfl,hl,fun _=>rfl⟩,fun u A v H' _ _ r e=>by subst e;cases r;rfl⟩
end
noncomputable def truU:U->AHp->(Bool->AHp->Prop)->Prop:=fun x A1 Q=>match x with
  | .ref p=>∃ us,A1 p=some (.lst us)/\Q (!us.isEmpty) A1
  | .tup us=>Q (!us.isEmpty) A1
  | .bl b=>Q b A1
  | .int i=>Q (i != 0) A1
  | .non=>Q false A1
  | _=>False
noncomputable def aTru (a:AE):AT:=fun ρ A Q=>a ρ A fun x A1=>truU x A1 Q
theorem q_tru {a:AE} {ρ:ASt} {A:AHp} {B:Bool->AHp->Prop}:(aTru a ρ A B)=(a ρ A fun x A1=>truU x A1 B):=rfl
theorem q_trul {A:AHp} {B:Bool->AHp->Prop} {p:Addr}:(truU (.ref p) A B)=(∃ us,A p=some (.lst us)/\B (!us.isEmpty) A):=rfl
theorem q_trut {A:AHp} {B:Bool->AHp->Prop} {us:List U}:(truU (.tup us) A B)=(B (!us.isEmpty) A):=rfl
theorem q_trub {A:AHp} {B:Bool->AHp->Prop} {k:Bool}:(truU (.bl k) A B)=(B k A):=rfl
section
variable {J:AIt} {g:AG} {b:AS} {D:AEnds} {ρ:ASt} {A:AHp}
theorem for_J (items:List U) (Pv:Nat->ASt->AHp->Prop) (h0:Pv 0 ρ A) (hJ:∀ k ρ A,k<=items.length->Pv k ρ A->J k A items[k]?)
    (hs:∀ k u ρ A,items[k]? = some u->Pv k ρ A->g u ρ A fun ρ2 A2=>b { D with nx:=Pv (k + 1),ct:=Pv (k + 1),bk:=D.nx } ρ2 A2) (hd:∀ ρ A,Pv items.length ρ A->D.nx ρ A):aLoop J g b D ρ A:=by
  refine ⟨fun k m ρ A=>m=items.length - k/\k<=items.length/\Pv k ρ A,⟨_,rfl,Nat.zero_le _,h0⟩,?_⟩
  rintro k m ρ A ⟨rfl,hk,p⟩
  have j:=hJ k ρ A hk p
  by_cases hlt:k < items.length
  . rw [List.getElem?_eq_getElem hlt] at j
    exact .inr ⟨_,j,Pv (k + 1),fun ρ' A' p'=>⟨items.length - (k + 1),by lia,rfl,hlt,p'⟩,hs k _ ρ A (List.getElem?_eq_getElem hlt) p⟩
  . have e:k=items.length:=by lia
    subst e
    rw [List.getElem?_eq_none (Nat.le_refl _)] at j
    exact .inl ⟨j,hd ρ A p⟩
theorem for_fix {us:List U} (Pv:Nat->ASt->AHp->Prop) (h0:Pv 0 ρ A)
    (hs:∀ k u ρ A,us[k]? = some u->Pv k ρ A->g u ρ A fun ρ2 A2=>b { D with nx:=Pv (k + 1),ct:=Pv (k + 1),bk:=D.nx } ρ2 A2) (hd:∀ ρ A,Pv us.length ρ A->D.nx ρ A):aLoop (jFix us) g b D ρ A :=
  for_J us Pv h0 (fun _ _ _ _ _=>rfl) hs hd
theorem for_lst {a:Addr} (us:List U) (Pv:Nat->ASt->AHp->Prop) (h0:Pv 0 ρ A) (hl:∀ k ρ A,k<=us.length->Pv k ρ A->A a=some (.lst us))
    (hs:∀ k u ρ A,us[k]? = some u->Pv k ρ A->g u ρ A fun ρ2 A2=>b { D with nx:=Pv (k + 1),ct:=Pv (k + 1),bk:=D.nx } ρ2 A2) (hd:∀ ρ A,Pv us.length ρ A->D.nx ρ A):aLoop (jLst a) g b D ρ A :=
  for_J us Pv h0 (fun k ρ A hk p=>⟨us,hl k ρ A hk p,rfl⟩) hs hd
theorem for_enumA {a:Addr} (us:List U) (Pv:Nat->ASt->AHp->Prop) (h0:Pv 0 ρ A) (hl:∀ k ρ A,k<=us.length->Pv k ρ A->A a=some (.lst us))
    (hs:∀ (k:Nat) u ρ A,us[k]? = some u->Pv k ρ A->g (.tup [.int k,u]) ρ A fun ρ2 A2=>b { D with nx:=Pv (k + 1),ct:=Pv (k + 1),bk:=D.nx } ρ2 A2) (hd:∀ ρ A,Pv us.length ρ A->D.nx ρ A):aLoop (jEnum a) g b D ρ A :=
  for_J (enU us) Pv h0 (fun k ρ A hk p=>⟨us,hl k ρ A (by rw [enU_len] at hk;exact hk) p,rfl⟩) (fun k u ρ A hu p=>by
    rw [enU_get] at hu
    obtain ⟨x,hx,rfl⟩:=Option.map_eq_some_iff.mp hu
    exact hs k x ρ A hx p) (by rw [enU_len];exact hd)
theorem for_rng {lo:Int} {n:Nat} (Pv:Nat->ASt->AHp->Prop) (h0:Pv 0 ρ A)
    (hs:∀ (k:Nat) ρ A,k < n->Pv k ρ A->g (.int (lo + k)) ρ A fun ρ2 A2=>b { D with nx:=Pv (k + 1),ct:=Pv (k + 1),bk:=D.nx } ρ2 A2) (hd:∀ ρ A,Pv n ρ A->D.nx ρ A):aLoop (jFix (rngU lo n)) g b D ρ A :=
  for_J (rngU lo n) Pv h0 (fun k ρ A hk p=>rfl) (fun k u ρ A hu p=>by
    rw [rngU_get] at hu
    by_cases h:k < n
    . rw [if_pos h] at hu;cases hu;exact hs k ρ A h p
    . rw [if_neg h] at hu;cases hu) (by rw [rngU_len];exact hd)
theorem for_revA {a:Addr} (us:List U) (Pv:Nat->ASt->AHp->Prop) (h0:Pv 0 ρ A) (hl:∀ k ρ A,k<=us.length->Pv k ρ A->A a=some (.lst us))
    (hs:∀ k u ρ A,us.reverse[k]? = some u->Pv k ρ A->g u ρ A fun ρ2 A2=>b { D with nx:=Pv (k + 1),ct:=Pv (k + 1),bk:=D.nx } ρ2 A2) (hd:∀ ρ A,Pv us.length ρ A->D.nx ρ A):aLoop (jRevA a us.length) g b D ρ A :=
  for_J us.reverse Pv h0 (fun k ρ A hk p=>by
    rw [List.length_reverse] at hk
    by_cases h:k < us.length
    . rw [List.getElem?_reverse h]
      exact .inr ⟨h,us,us[us.length - 1 - k]'(by lia),hl k ρ A hk p,List.getElem?_eq_getElem (by lia),List.getElem?_eq_getElem (by lia)⟩
    . have e:k=us.length:=by lia
      subst e
      exact .inl ⟨rfl,List.getElem?_eq_none (by simp)⟩) hs (by rw [List.length_reverse];exact hd)
noncomputable def whA (Pv:ASt->AHp->Prop) (μ:ASt->AHp->Nat) (b:AS) (D:AEnds) (k:Nat) (ρ:ASt) (A1:AHp):Prop:=∃ N:ASt->AHp->Prop,(∀ ρ' A',N ρ' A'->∃ m',m' < k/\(m'=μ ρ' A'/\Pv ρ' A'))/\b { D with nx:=N,ct:=N,bk:=D.nx } ρ A1
theorem wh_goA {Pv:ASt->AHp->Prop} {μ:ASt->AHp->Nat} {k:Nat} (h:b { D with nx:=fun ρ' A'=>Pv ρ' A'/\μ ρ' A' < k,ct:=fun ρ' A'=>Pv ρ' A'/\μ ρ' A' < k,bk:=D.nx } ρ A):whA Pv μ b D k ρ A :=
  ⟨_,fun ρ' A' ⟨p,l⟩=>⟨_,l,rfl,p⟩,h⟩
theorem while_A {c:AT} (Pv:ASt->AHp->Prop) (μ:ASt->AHp->Nat) (h0:Pv ρ A)
    (hs:∀ ρ A,Pv ρ A->c ρ A fun k A1=>if k=true then whA Pv μ b D (μ ρ A) ρ A1 else D.nx ρ A1):aWhile c b D ρ A:=by
  refine ⟨fun m ρ A=>m=μ ρ A/\Pv ρ A,⟨_,rfl,h0⟩,?_⟩
  rintro m ρ A ⟨rfl,p⟩
  exact hs ρ A p
end
theorem neA {A:AHp} {a b:Addr} {o:AO} (h:A a=some o) (h':A b=none):a≠b:=fun e=>by rw [e,h'] at h;cases h
section
variable {J:AIt} {g:AG} {tt:AT} {te:AE} {l:Addr} {Q:AVK} {τ:ASt} {A:AHp}
theorem cl_gen (items:List U) (p:Nat->Bool) (f:Nat->U) (T:ASt->Prop) (h0:T τ) (hl:A l=none) (hn:items.length<=100000) (hJ:∀ k A2,k<=items.length->Ext A A2->J k A2 items[k]?)
    (hs : ∀ k u τ A2,items[k]? = some u->T τ->Ext A A2->∀ (Cy:ASt->U->AHp->Prop) (Cn:ASt->AHp->Prop),(p k=true->∀ τ2,T τ2->Cy τ2 (f k) A2)->(p k=false->∀ τ2,T τ2->Cn τ2 A2) ->
      g u τ A2 fun τ2 A3=>tt τ2 A3 fun ok A4=>if ok=true then te τ2 A4 (Cy τ2) else Cn τ2 A4)
    (hd:Q (.ref l) (updA A l (.lst (((List.range items.length).filter p).map f)))):aCL J g tt te l Q τ (updA A l (.lst [])):=by
  refine ⟨fun i m τ A2=>m=items.length - i/\i<=items.length/\T τ/\A2=updA A l (.lst (((List.range i).filter p).map f)),⟨_,rfl,Nat.zero_le _,h0,rfl⟩,?_⟩
  rintro i m τ A2 ⟨rfl,hi,ht,rfl⟩
  have j:=hJ i _ hi (Ext.new (o:=.lst (((List.range i).filter p).map f)) hl)
  by_cases hlt:i < items.length
  . have hu:items[i]? = some items[i]:=List.getElem?_eq_getElem hlt
    rw [hu] at j
    refine .inr ⟨_,j,hs i _ τ _ hu ht (Ext.new hl) _ _ (fun hp τ2 ht2=>⟨_,updA_same,?_,_,?_,rfl,hlt,ht2,?_⟩) (fun hp τ2 ht2=>⟨_,?_,rfl,hlt,ht2,?_⟩)⟩
    . have:(((List.range i).filter p).map f).length<=i:=by rw [List.length_map];exact Nat.le_trans (List.length_filter_le ..) (by simp)
      have:(100000:Nat) < sizeLine:=by decide
      lia
    . lia
    . rw [updA_updA,List.range_succ,List.filter_append,List.map_append];simp [hp]
    . lia
    . rw [List.range_succ,List.filter_append,List.map_append];simp [hp]
  . have e:i=items.length:=by lia
    subst e
    rw [List.getElem?_eq_none (Nat.le_refl _)] at j
    exact .inl ⟨j,hd⟩
theorem cl_map {x0:Option U} {fr:ASt} (items ys:List U) (hlen:ys.length=items.length) (hl:A l=none) (hn:items.length<=100000) (hJ:∀ k A2,k<=items.length->Ext A A2->J k A2 items[k]?)
    (hs:∀ (k:Nat) u y A2,items[k]? = some u->ys[k]? = some y->Ext A A2->∀ Cy:U->AHp->Prop,Cy y A2->te (some u::fr) A2 Cy)
    (hd:Q (.ref l) (updA A l (.lst ys))):aCL J (bName 0) aTrue te l Q (x0::fr) (updA A l (.lst [])):=by
  refine cl_gen items (fun _=>true) (fun k=>(ys[k]?).getD .non) (fun τ=>∃ x,τ=x::fr) ⟨_,rfl⟩ hl hn hJ ?_ ?_
  . rintro k u τ A2 hu ⟨x,rfl⟩ he Cy Cn hy hno
    show if true=true then te (some u::fr) A2 (Cy (some u::fr)) else Cn (some u::fr) A2
    rw [if_pos rfl]
    have hk:k < ys.length:=by rw [hlen];exact (List.getElem?_eq_some_iff.mp hu).1
    have hyk:ys[k]? = some ys[k]:=List.getElem?_eq_getElem hk
    refine hs k u _ A2 hu hyk he _ ?_
    have:=hy rfl (some u::fr) ⟨_,rfl⟩
    rw [hyk] at this
    exact this
  . have e:((List.range items.length).filter fun _=>true).map (fun k=>(ys[k]?).getD .non)=ys:=by
      rw [List.filter_eq_self.mpr (fun _ _=>rfl),<- hlen]
      apply List.ext_getElem
      . simp
      . intro i h1 h2;simp [List.getElem?_eq_getElem h2]
    rw [e];exact hd
end
section
variable {X:Cx}
noncomputable def U.tyName:U->Option String
  | .non=>some "NoneType"
  | .bl _=>some "bool"
  | .int _=>some "int"
  | .str _=>some "str"
  | .tup _=>some "tuple"
  | _=>none
inductive TyW (K:PySem.W.Frag) (H:Hp):V->Value->Prop
  | of {x:V} {t:Value}:TyOf K H x t->TyW K H x t
  | tup {a:Addr} {xs:List V}:SqT K H a xs->TyW K H (.ref a) (.type "tuple")
noncomputable def uIsW (K:PySem.W.Frag):List V->Hp->VK->Prop:=fun xs H Q=>match xs with
  | [x,.ty n]=>∃ t b,TyW K H x t/\PySem.W.kitOne K t (.type n)=some b/\Q (.bl b) H
  | [x,.ref c]=>∃ t b,TyW K H x t/\PySem.W.kitOne K t (.ref c)=some b/\Q (.bl b) H
  | _=>False
theorem c_isW:CallR X (.builtin "isinstance") (uIsW X.K):=by
  intro pins s σ H xs us Q I r h
  have go:∀ (x:V) (u t:Value) (c:Value) (b:Bool),RelV x u->TyW X.K H x t->PySem.W.kitOne X.K t c=some b->Q (.bl b) H->wpAny (model X.prog X.w) X.A (call (.builtin "isinstance") [u,c]) (EP X pins σ Q) X.xe s:=by
    intro x u t c b rx ty e q
    cases ty with
    | of ty=>exact isinst_ok I rx ty e fun tk=>⟨.bl b,H,I.tok _,rfl,q⟩
    | tup hq =>
      cases rx
      obtain ⟨its,rv,⟨o,h1,h2,h3⟩,hz⟩:=I.tuple hq
      exact PySem.W.kia_one PySem.W.kitx_tuple I.kIn ⟨o,h1,h2⟩ e (fun z=>nomatch z) fun tk=>⟨.bl b,H,I.tok _,rfl,q⟩
  unfold uIsW at h
  split at h
  . obtain ⟨t,b,ty,e,q⟩:=h
    cases r with
    | cons r1 r2 =>
      cases r2 with
      | cons r2 r3 =>
        cases r3;cases r2
        exact go _ _ _ _ _ r1 ty e q
  . obtain ⟨t,b,ty,e,q⟩:=h
    cases r with
    | cons r1 r2 =>
      cases r2 with
      | cons r2 r3 =>
        cases r3;cases r2
        exact go _ _ _ _ _ r1 ty e q
  . exact h.elim
end
section
variable {K:PySem.W.Frag}
noncomputable def isTy (u:U) (n:String):Bool:=match u with
  | .non=>n == "NoneType"
  | .bl _=>n == "bool" || n == "int"
  | .int _=>n == "int"
  | .str _=>n == "str"
  | .tup _=>n == "tuple"
  | _=>false
noncomputable def xIsi:List U->AHp->AVK->Prop:=fun us A Q=>match us with
  | [u,.ty n]=>(n="int"\/n="bool"\/n="str"\/n="tuple")/\(match u with | .rol _=>False | .ref _=>False | .ty _=>False | _=>True)/\Q (.bl (isTy u n)) A
  | _=>False
theorem ab_isi:AbL K (uIsW K) xIsi:=fun xs us A H Q' Q r g h k=>by
  unfold xIsi at h
  split at h
  . rename_i u n
    obtain ⟨hn,hu,h⟩:=h
    obtain ⟨v,x,rfl,r1,r2⟩:=r.inv2
    cases r2
    cases r1 with
    | non=>rcases hn with rfl | rfl | rfl | rfl <;> exact ⟨_,_,.of .non,rfl,k _ _ _ _ (.refl H) g (.bl _) h⟩
    | bl b=>rcases hn with rfl | rfl | rfl | rfl <;> exact ⟨_,_,.of (.bl b),rfl,k _ _ _ _ (.refl H) g (.bl _) h⟩
    | int b=>rcases hn with rfl | rfl | rfl | rfl <;> exact ⟨_,_,.of (.int b),rfl,k _ _ _ _ (.refl H) g (.bl _) h⟩
    | str b=>rcases hn with rfl | rfl | rfl | rfl <;> exact ⟨_,_,.of (.str b),rfl,k _ _ _ _ (.refl H) g (.bl _) h⟩
    | tup h1 r1=>rcases hn with rfl | rfl | rfl | rfl <;> exact ⟨_,_,.tup h1,rfl,k _ _ _ _ (.refl H) g (.bl _) h⟩
    | ty _=>exact hu.elim
    | ref _=>exact hu.elim
    | rol _ _=>exact hu.elim
  . exact h.elim
theorem q_isi {A:AHp} {Q:AVK} {u:U} {n:String}:(xIsi [u,.ty n] A Q)=((n="int"\/n="bool"\/n="str"\/n="tuple")/\(match u with | .rol _=>False | .ref _=>False | .ty _=>False | _=>True)/\Q (.bl (isTy u n)) A):=rfl
end
end L2
namespace L2
open PySem PySem.Spec PyProof.Rows
theorem tup1 {x:U}:[x].length<=sizeLine:=by show 1<=sizeLine;decide
theorem tup2 {x y:U}:[x,y].length<=sizeLine:=by show 2<=sizeLine;decide
theorem tup3 {x y z:U}:[x,y,z].length<=sizeLine:=by show 3<=sizeLine;decide
theorem line1000 {n:Nat} (h:n<=100000):n<=sizeLine:=Nat.le_trans h (by decide)
theorem line1000' {n:Nat} (h:n<=100000):n < sizeLine:=Nat.lt_of_le_of_lt h (by decide)
theorem fg {Q:AVK} {u:U} {A:AHp} (h:Q u A):Fg Q u A:=⟨A,Ext.refl A,h⟩
theorem fgx {Q:AVK} {u:U} {A A':AHp} (e:Ext A A') (h:Q u A):Fg Q u A':=⟨A,e,h⟩
theorem iteB {b:Bool} {X Y:Prop} (h1:b=true->X) (h2:b=false->Y):if b=true then X else Y:=by
  cases b
  . exact iteN (by decide) (h2 rfl)
  . exact iteP rfl (h1 rfl)
theorem iteTt {X Y:Prop} {b:Bool} (hb:b=true) (h:X):if b=true then X else Y:=iteP hb h
theorem iteFf {X Y:Prop} {b:Bool} (hb:b=false) (h:Y):if b=true then X else Y:=iteN (by rw [hb];decide) h
theorem Ext.put {A A2:AHp} {a:Addr} {o:AO} (e:Ext A A2):Ext (updA A a o) (updA A2 a o):=fun b u h=>by
  by_cases hb:b=a
  . subst hb;rw [updA_same] at h ⊢;exact h
  . rw [updA_ne hb] at h ⊢;exact e b u h
theorem Ext.in {A A2:AHp} {l:Addr} {o:AO} (e:Ext A A2) (h:A l=Option.none):Ext A (updA A2 l o):=fun b u q=>by
  rw [updA_ne (neA q h)];exact e b u q
theorem updA_swap {A:AHp} {a l:Addr} {x y:AO} (h:a≠l):updA (updA A a x) l y=updA (updA A l y) a x:=by
  funext b
  unfold updA
  by_cases h1:b=l
  . rw [if_pos h1,if_neg (fun e=>h (e.symm.trans h1)),if_pos h1]
  . rw [if_neg h1]
    by_cases h2:b=a
    . rw [if_pos h2,if_pos h2]
    . rw [if_neg h2,if_neg h2,if_neg h1]
theorem atI_intsU {ns:List Int} {i:Int} (h0:0<=i) (h:i < ns.length):∃ z,atI (ns.map U.int) i=some (.int z)/\ns[i.toNat]? = some z:=by
  obtain ⟨v,h1,h2⟩:=atI_lt (xs:=ns.map U.int) (i:=i) h0 (by rw [List.length_map];exact h)
  rw [List.getElem?_map] at h2
  obtain ⟨z,hz,rfl⟩:=Option.map_eq_some_iff.mp h2
  exact ⟨z,h1,hz⟩
theorem map_get {α β:Type} {f:α->β} {xs:List α} {k:Nat} {u:β} (h:(xs.map f)[k]? = some u):∃ x,xs[k]? = some x/\u=f x:=by
  rw [List.getElem?_map] at h
  obtain ⟨x,hx,rfl⟩:=Option.map_eq_some_iff.mp h
  exact ⟨x,hx,rfl⟩
theorem cl_mapW {α:Type} {J:AIt} {te:AE} {l:Addr} {Q:AVK} {A:AHp} {x0:Option U} {fr:ASt} (xs:List α) (f g:α->U) (hl:A l=Option.none) (hn:xs.length<=100000) (hJ:∀ k A2,k<=xs.length->Ext A A2->J k A2 (xs.map f)[k]?)
    (hs:∀ (x:α) A2,x∈xs->Ext A A2->∀ Cy:U->AHp->Prop,Cy (g x) A2->te (some (f x)::fr) A2 Cy)
    (hd:Q (.ref l) (updA A l (.lst (xs.map g)))):aCL J (bName 0) aTrue te l Q (x0::fr) (updA A l (.lst [])):=by
  refine cl_map (xs.map f) (xs.map g) (by simp) hl (by simpa using hn) (fun k A2 hk he=>hJ k A2 (by simpa using hk) he) (fun k u y A2 hu hy he Cy hc=>?_) hd
  obtain ⟨x,hx,rfl⟩:=map_get hu
  obtain ⟨x',hx',rfl⟩:=map_get hy
  rw [hx] at hx';cases hx'
  exact hs x A2 (List.mem_of_getElem? hx) he Cy hc
theorem none_yet {P:Program} {w:World} {K:PySem.W.Frag} {mg:Str->Option Value} {base:Heap} {x qual:Str} {st:Stmt} {f:Addr} {fd:FuncData} {N ps:List Str} {k:Nat} {asp:ASp} (F:Fun K x qual st f fd) (S:FnScope N ps (defScope st)) (h:∀ us A Q,¬ asp us A Q):FnOk P w K mg base CX0 k f fd ps (spOf K asp) :=
  ⟨fun vs H Q E ⟨us,A,Q',_,_,q,_⟩=>(h us A Q' q).elim,fun A outer s H args us vs Q E _ _ _ _ ⟨ws,A',Q',_,_,q,_⟩=>(h ws A' Q' q).elim⟩
end L2
namespace L2
open PySem PySem.Spec PyProof.Rows
end L2
namespace L2
open PySem PySem.Spec PyProof.Rows
theorem ki (i j:Nat):(((i:Nat):Int) == ((j:Nat):Int))=(i == j):=by
  by_cases h:i=j
  . subst h;simp
  . rw [beq_eq_false_iff_ne.mpr h,beq_eq_false_iff_ne.mpr (by lia)]
end L2
namespace L2
open PySem PySem.Spec PyProof.Rows
noncomputable def uSeqI (K:PySem.W.Frag):V->Hp->(It->Hp->Prop)->Prop:=fun x H R=>uList K x H R\/uTupI K x H R
section
variable {X:Cx} {tg a:Expr} {te:TE} {ta:TA} {p pos tp:Pos} {elts:List Expr} {k0:Nat}
theorem pj_seq (hl:PE X a te):PI X tg a (jOf (uSeqI X.K) te):=by
  intro pins s σ H R I h
  refine thn (hl pins s σ H _ I h) fun v s1 h_q=>?_
  obtain ⟨x,H1,I1,r1,q1⟩:=h_q
  have fp:∀ b∈[s1.heap.objs.size],FpOk X pins H1 b:=fun b hb=>by
    obtain rfl:b=s1.heap.objs.size:=by simpa using hb
    exact I1.fpOk (Nat.le_refl _) (I1.hok.fresh (Nat.le_refl _))
  have J1:∀ o,Inv X pins σ H1 { s1 with heap:=s1.heap.push o }:=fun o=>I1.kept (t':=s1.toks) fun b u e=>Heap.get?_push_of_some _ e
  cases x with
  | ref l =>
    cases r1
    rcases q1 with ⟨⟨xs,hq⟩,q⟩ | ⟨⟨xs,hq⟩,q⟩
    . obtain ⟨its,rv,pl,hz⟩:=I1.list hq
      exact wpAny_pyIter_list pl.isList ⟨s1.heap.objs.size,[s1.heap.objs.size],_,_,H1,rfl,J1 _,turn_list l _,⟨_,Heap.get?_push_size _ rfl,rfl,rfl⟩,fp,q⟩
    . obtain ⟨its,rv,pl,hz⟩:=I1.tuple hq
      exact wpAny_pyIter_tuple (show s1.heap.IsTuple l its.toArray from pl) ⟨s1.heap.objs.size,[s1.heap.objs.size],_,_,H1,rfl,J1 _,turn_tuple l _,⟨_,Heap.get?_push_size _ rfl,rfl,rfl⟩,fp,q⟩
  | _=>rcases q1 with q | q <;> exact q.elim
noncomputable def uEnumS (K:PySem.W.Frag):List V->Hp->(It->Hp->Prop)->Prop:=fun vs H R=>uEnum K vs H R\/uEnumT K vs H R
theorem pj_enumS (hg:Gl X "enumerate") (hm:X.mg "enumerate"=none) (ha:PA X [a] ta) (hs:starEach [a] X.env=[(false,eval a X.env)]:=by rfl) :
    PI X (.Tuple elts k0 tp) (.Call (.Name "enumerate" p) [a] [] pos) (jArgs (uEnumS X.K) ta):=by
  intro pins s σ H R I h
  refine Call_ (ld_blt I hg hm boot_enumerate (PyProof.Rows.callWith_type1 (thn (ha pos pins s σ H _ I h) fun us s1 ⟨vs,H1,I1,r1,q1⟩=>?_) hs rfl))
  have fp:∀ b∈[s1.heap.objs.size + 1,s1.heap.objs.size],FpOk X pins H1 b:=fun b hb=>by
    have hb':s1.heap.objs.size<=b:=by
      simp only [List.mem_cons,List.not_mem_nil,or_false] at hb
      rcases hb with e | e <;> subst e <;> first | exact Nat.le_add_right _ _ | exact Nat.le_refl _
    exact I1.fpOk hb' (I1.hok.fresh hb')
  rcases q1 with q1 | q1
  . unfold uEnum at q1
    split at q1
    . obtain ⟨⟨xs,hx⟩,q⟩:=q1
      cases r1 with
      | cons r rr =>
        cases rr;cases r
        obtain ⟨its,rv,pl,_⟩:=I1.list hx
        exact call_enumerate_list pl.isList fun h' a1 a2 a3 hk=>wpAny_pyIter_enum a1 ⟨s1.heap.objs.size + 1,_,_,_,H1,rfl,I1.kept (t':=s1.toks) hk,turn_enum (Nat.succ_ne_self _),⟨⟨_,a1⟩,a2⟩,fp,q⟩
    . exact q1.elim
  . unfold uEnumT at q1
    split at q1
    . obtain ⟨⟨xs,hx⟩,q⟩:=q1
      cases r1 with
      | cons r rr =>
        cases rr;cases r
        obtain ⟨its,rv,pl,_⟩:=I1.tuple hx
        exact call_enum_tup pl fun h' a1 a2 hk=>wpAny_pyIter_enum a1 ⟨s1.heap.objs.size + 1,_,_,_,H1,rfl,I1.kept (t':=s1.toks) hk,turn_enumT (Nat.succ_ne_self _),⟨⟨_,a1⟩,a2⟩,fp,q⟩
    . exact q1.elim
end
section
variable {K:PySem.W.Frag}
noncomputable def ySeq:U->AHp->(AIt->AHp->Prop)->Prop:=fun u A R=>match u with
  | .ref a=>(∃ us,A a=some (.lst us))/\R (jLst a) A
  | .rol us=>R (jFix us) A
  | .tup us=>R (jFix us) A
  | _=>False
theorem ab_yseq:AbY1 K (uSeqI K) ySeq:=fun x v A H R' R r g w k=>by
  cases r with
  | ref a=>exact .inl (ab_ylist (.ref a) _ A H R' R (.ref a) g w k)
  | rol h1 r1=>exact .inl (ab_ylist _ _ A H R' R (.rol h1 r1) g w k)
  | tup h1 r1=>exact .inr (ab_ytup _ _ A H R' R (.tup h1 r1) g w k)
  | _=>exact w.elim
noncomputable def yEnumS:List U->AHp->(AIt->AHp->Prop)->Prop:=fun us A R=>match us with
  | [.ref a]=>(∃ us,A a=some (.lst us))/\R (jEnum a) A
  | [.rol us]=>R (jFix (enU us)) A
  | [.tup us]=>R (jFix (enU us)) A
  | _=>False
theorem ab_yenumS:AbYs K (uEnumS K) yEnumS:=fun x v A H R' R r g w k=>by
  unfold yEnumS at w
  split at w
  . exact .inl (ab_yenum _ _ A H R' R r g w k)
  . exact .inl (ab_yenum _ _ A H R' R r g w k)
  . exact .inr (ab_yenumT _ _ A H R' R r g w k)
  . exact w.elim
variable {A:AHp} {R:AIt->AHp->Prop} {p:Addr} {us:List U}
theorem q_ysr:(ySeq (.ref p) A R)=((∃ us,A p=some (.lst us))/\R (jLst p) A):=rfl
theorem q_yso:(ySeq (.rol us) A R)=(R (jFix us) A):=rfl
theorem q_yst:(ySeq (.tup us) A R)=(R (jFix us) A):=rfl
theorem q_yesr:(yEnumS [.ref p] A R)=((∃ us,A p=some (.lst us))/\R (jEnum p) A):=rfl
theorem q_yeso:(yEnumS [.rol us] A R)=(R (jFix (enU us)) A):=rfl
theorem q_yest:(yEnumS [.tup us] A R)=(R (jFix (enU us)) A):=rfl
end
noncomputable def cutL {α:Type} (xs:List α) (lo hi:Option Int):List α:=(xs.drop (HT.sIx xs.length 0 lo)).take (HT.sIx xs.length xs.length hi - HT.sIx xs.length 0 lo)
theorem cutU_map {α:Type} (f:α->U) (xs:List α) (lo hi:Option Int):cutU (xs.map f) lo hi=(cutL xs lo hi).map f:=by
  unfold cutU cutL
  rw [List.length_map,List.map_take,List.map_drop]
end L2
namespace L2
open PySem PySem.Spec PyProof.Rows
end L2
set_option maxHeartbeats 4000000
namespace SortA
open PySem PySem.W PyProof.Rows
section
variable {n:Nat} {lt:Nat->Nat->Bool}
noncomputable def Le (lt:Nat->Nat->Bool) (p:Array Nat) (i j:Nat):Prop:=lt (p.getD j 0) (p.getD i 0)=false
noncomputable def Dn (lt:Nat->Nat->Bool) (p:Array Nat) (m:Nat):Prop:=∀ i j,i < j->j < m->Le lt p j i
end
end SortA
namespace N2
open PySem PyProof.Rows
section
variable {prog:Program} {w:World} {K:Type} [DecidableEq K] (kk:KeyKind prog w K)
inductive Its (h:Heap):List (List K)->List Value->Prop
  | nil:Its h [] []
  | cons {k:List K} {a:Addr} {ks:List (List K)} {vs:List Value} (one:IsTupleKey kk h k a) (more:Its h ks vs):Its h (k::ks) (.ref a::vs)
variable {kk}
variable {A:Around} {E:Value->Shared->Prop} {s:Shared}
end
end N2
namespace N2
open PySem PyProof.Rows PySem.F
end N2
namespace L2
open PySem PySem.Spec PyProof.Rows N2
theorem HR.putO {K:PySem.W.Frag} {H:Hp} {A:AHp} {a:Addr} {ob:HO} {o:AO} (h:HR K H A) (kp:Kp K H (upd H a ob)) (new:RO K (upd H a ob) a o):HR K (upd H a ob) (updA A a o):=fun b u q=>by
  by_cases hb:b=a
  . subst hb
    rw [updA_same] at q
    cases q
    exact new
  . rw [updA_ne hb] at q
    exact (h b u q).keep kp (upd_ne hb)
end L2
namespace L2
open PySem PySem.Spec PySem.W PyProof.Rows
end L2
namespace L2
open PySem PySem.Spec PyProof.Rows
section
variable {K:PySem.W.Frag} {H H':Hp} {A:AHp}
theorem RFs.cons_inv {x:Str × U} {fs:List (Str × U)} {gs:List (Str × V)} (h:RFs K H (x::fs) gs):∃ v gs',gs=(x.1,v)::gs'/\RU K H x.2 v/\RFs K H fs gs':=by
  obtain ⟨h1,h2⟩:=h
  cases gs with
  | nil=>simp at h1
  | cons y gs =>
    obtain ⟨n,v⟩:=y
    simp only [List.map_cons,List.cons.injEq] at h1
    cases h2 with
    | cons p q=>exact ⟨v,gs,by rw [h1.1],p,h1.2,q⟩
theorem RFs.look {f:Str} {u:U}:∀ {fs:List (Str × U)} {gs:List (Str × V)},RFs K H fs gs->fs.lookup f=some u->∃ v,gs.lookup f=some v/\RU K H u v
  | [],_,_,e=>by simp at e
  | (n, w)::fs,gs,h,e=>by
    obtain ⟨v,gs',rfl,r,t⟩:=h.cons_inv
    by_cases c:f == n
    . rw [List.lookup_cons,c] at e;cases e
      exact ⟨v,by rw [List.lookup_cons,c],r⟩
    . have c':(f == n)=false:=by simpa using c
      rw [List.lookup_cons,c'] at e
      obtain ⟨v',h1,h2⟩:=RFs.look t e
      exact ⟨v',by rw [List.lookup_cons,c'];exact h1,h2⟩
theorem RFs.miss {f:Str}:∀ {fs:List (Str × U)} {gs:List (Str × V)},RFs K H fs gs->fs.lookup f=none->gs.lookup f=none
  | [],_,⟨h1,_⟩,_=>by
    cases ‹List (Str × V)› with
    | nil=>rfl
    | cons y gs=>simp at h1
  | (n, w)::fs,gs,h,e=>by
    obtain ⟨v,gs',rfl,r,t⟩:=h.cons_inv
    by_cases c:f == n
    . rw [List.lookup_cons,c] at e;cases e
    . have c':(f == n)=false:=by simpa using c
      rw [List.lookup_cons,c'] at e ⊢
      exact RFs.miss t e
theorem RFs.len {fs:List (Str × U)} {gs:List (Str × V)} (h:RFs K H fs gs):fs.length=gs.length:=by
  have:=congrArg List.length h.1
  simpa using this
theorem RFs.same {fs:List (Str × U)} {gs:List (Str × V)} (e:Kp K H H') (h:RFs K H fs gs):RFs K H' fs gs:=⟨h.1,h.2.same e⟩
noncomputable def putU (f:Str) (u:U):List (Str × U)->List (Str × U)
  | []=>[(f,u)]
  | (g,x)::r=>if g=f then (g,u)::r else (g,x)::putU f u r
theorem RFs.put {f:Str} {u:U} {v:V} (hu:RU K H u v):∀ {fs:List (Str × U)} {gs:List (Str × V)},RFs K H fs gs->RFs K H (putU f u fs) (putF f v gs)
  | [],gs,h=>by
    cases gs with
    | nil=>exact ⟨rfl,.one hu⟩
    | cons y gs=>have:=h.1;simp at this
  | (n, w)::fs,gs,h=>by
    obtain ⟨x,gs',rfl,r,t⟩:=h.cons_inv
    by_cases c:n=f
    . simp only [putU,putF,if_pos c]
      exact ⟨by simp [t.1],.cons hu t.2⟩
    . simp only [putU,putF,if_neg c]
      have:=RFs.put (f:=f) hu t
      exact ⟨by simp [this.1],.cons r this.2⟩
theorem HR.ins {a C dx:Addr} {fs:List (Str × U)} (g:HR K H A) (e:A a=some (.ins C dx fs)):∃ gs,H a=some (.ins C dx gs)/\RFs K H fs gs:=g a _ e
theorem HR.setI {a C dx:Addr} {fs:List (Str × U)} {gs gs0:List (Str × V)} (g:HR K H A) (e:H a=some (.ins C dx gs0)) (r:RFs K H fs gs):HR K (upd H a (.ins C dx gs)) (updA A a (.ins C dx fs)) :=
  g.putO (Kp.ins e) ⟨gs,upd_same,r.same (Kp.ins e)⟩
noncomputable def aFld (K:PySem.W.Frag) (aa:AE) (f:Str):AE:=fun ρ A Q=>aa ρ A fun x A1=>∃ a C dx fs u,x=.ref a/\A1 a=some (.ins C dx fs)/\Cls K C/\NoAttr K C f/\fs.lookup f=some u/\Q u A1
theorem ab_fld {ta:TE} {aa:AE} {f:Str} (h:AbE K ta aa):AbE K (tFld K ta f) (aFld K aa f):=fun ρ A σ H Q' Q hs g w k =>
  h ρ A σ H _ _ hs g w fun x A1 v H1 k1 g1 r1 hq0=>by
    obtain ⟨a,C,dx,fs,u,e1,e2,c,n,l,q⟩:=hq0
    subst e1
    cases r1
    obtain ⟨gs,h1,h2⟩:=g1.ins e2
    obtain ⟨v,h3,h4⟩:=h2.look l
    exact ⟨a,C,dx,gs,v,rfl,h1,c,n,h3,k _ _ _ _ k1 g1 h4 q⟩
noncomputable def asFld (K:PySem.W.Frag) (aa av:AE) (f:Str):AS:=fun D ρ A=>av ρ A fun y A1=>aa ρ A1 fun x A2=>∃ a C dx fs,x=.ref a/\A2 a=some (.ins C dx fs)/\Cls K C/\NoAttr K C f/\fs.length < 1000/\D.nx ρ (updA A2 a (.ins C dx (putU f y fs)))
theorem ab_sfld {ta tv:TE} {aa av:AE} {f:Str} (ha:AbE K ta aa) (hv:AbE K tv av):AbS K (sFld K ta tv f) (asFld K aa av f):=fun ρ A σ H D' D hs g w k =>
  hv ρ A σ H _ _ hs g w fun y A1 v1 H1 k1 g1 r1 q1=>ha ρ A1 σ H1 _ _ (hs.same k1) g1 q1 fun x A2 v2 H2 k2 g2 r2 hq0=>by
    obtain ⟨a,C,dx,fs,e1,e2,c,n,l,q⟩:=hq0
    subst e1
    cases r2
    obtain ⟨gs,h1,h2⟩:=g2.ins e2
    have kp:Kp K H2 (upd H2 a (.ins C dx (putF f v1 gs))):=Kp.ins h1
    exact ⟨a,C,dx,gs,rfl,h1,c,n,by rw [<- h2.len];exact l,k.nx _ _ _ _ (k1.trans (k2.trans kp)) (g2.setI h1 (h2.put (r1.same k2))) (hs.same (k1.trans (k2.trans kp))) q⟩
noncomputable def asAug (K:PySem.W.Frag) (aa av:AE) (ar:AR2) (f:Str):AS:=fun D ρ A=>aa ρ A fun x A1=>∃ a C dx fs u,x=.ref a/\A1 a=some (.ins C dx fs)/\Cls K C/\NoAttr K C f/\fs.lookup f=some u /\
  av ρ A1 fun y A2=>ar u y A2 fun z A3=>∃ dx' fs',A3 a=some (.ins C dx' fs')/\fs'.length < 1000/\D.nx ρ (updA A3 a (.ins C dx' (putU f z fs')))
theorem ab_saug {ta tv:TE} {aa av:AE} {rd:V->V->Hp->VK->Prop} {ar:AR2} {f:Str} (ha:AbE K ta aa) (hv:AbE K tv av) (hr:AbR K rd ar):AbS K (sFldAug K ta tv rd f) (asAug K aa av ar f):=fun ρ A σ H D' D hs g w k =>
  ha ρ A σ H _ _ hs g w fun x A1 v1 H1 k1 g1 r1 hq0=>by
    obtain ⟨a,C,dx,fs,u,e1,e2,c,n,l,q⟩:=hq0
    subst e1
    cases r1
    obtain ⟨gs,h1,h2⟩:=g1.ins e2
    obtain ⟨v,h3,h4⟩:=h2.look l
    refine ⟨a,C,dx,gs,v,rfl,h1,c,n,h3,hv ρ A1 σ H1 _ _ (hs.same k1) g1 q fun y A2 v2 H2 k2 g2 r2 q2=>hr _ _ _ _ _ _ _ _ (h4.same k2) r2 g2 q2 fun z A3 v3 H3 k3 g3 r3 h_q=>?_⟩
    obtain ⟨dx',fs',e3,l',q3⟩:=h_q
    obtain ⟨gs3,h5,h6⟩:=g3.ins e3
    have kp:Kp K H3 (upd H3 a (.ins C dx' (putF f v3 gs3))):=Kp.ins h5
    exact ⟨dx',gs3,h5,by rw [<- h6.len];exact l',k.nx _ _ _ _ (k1.trans (k2.trans (k3.trans kp))) (g3.setI h5 (h6.put r3)) (hs.same (k1.trans (k2.trans (k3.trans kp)))) q3⟩
noncomputable def aMeth (C:Addr) (m:Str) (asp:ASp) (aa:AE) (l:AA):AE:=fun ρ A Q=>aa ρ A fun x A1=>∃ a dx fs,x=.ref a/\A1 a=some (.ins C dx fs)/\fs.lookup m=none/\l ρ A1 fun us A2=>asp (x::us) A2 Q
theorem ab_meth {C:Addr} {m:Str} {asp:ASp} {E:XK} {ta:TE} {aa:AE} {t:TA} {l:AA} (ha:AbE K ta aa) (hl:AbA K t l):AbE K (tMeth C m (spOf K asp) [] E ta t) (aMeth C m asp aa l):=fun ρ A σ H Q' Q hs g w k =>
  ha ρ A σ H _ _ hs g w fun x A1 v1 H1 k1 g1 r1 hq0=>by
    obtain ⟨a,dx,fs,e1,e2,e3,q⟩:=hq0
    subst e1
    cases r1
    obtain ⟨gs,h1,h2⟩:=g1.ins e2
    refine ⟨a,dx,gs,rfl,h1,h2.miss e3,hl ρ A1 σ H1 _ _ (hs.same k1) g1 q fun us A2 vs H2 k2 g2 r2 q2=>⟨.ref a::us,A2,Q',.cons (.ref a) (by rw [List.append_nil];exact r2),g2,q2,fun z A3 v3 H3 k3 h3 r3 q3=>k _ _ _ _ (k1.trans (k2.trans k3)) h3 r3 q3⟩⟩
noncomputable def aMake (C:Addr) (asp:ASp) (l:AA):AE:=fun ρ A Q=>l ρ A fun us A1=>∀ x dx,A1 x=none->asp (.ref x::us) (updA A1 x (.ins C dx [])) (fun u A2=>u=.non/\Q (.ref x) A2)
theorem ab_make {C:Addr} {asp:ASp} {E:XK} {t:TA} {l:AA} (hl:AbA K t l):AbE K (tMake C (spOf K asp) [] E t) (aMake C asp l):=fun ρ A σ H Q' Q hs g w k =>
  hl ρ A σ H _ _ hs g w fun us A1 vs H1 k1 g1 r1 q1 x dx hx hdx hne=>by
    have s1:Same H1 (upd H1 dx (.own x)):=Same.upd_new hdx
    have hx':upd H1 dx (.own x) x=none:=by rw [upd_ne (Ne.symm hne)];exact hx
    have s2:Same (upd H1 dx (.own x)) (upd (upd H1 dx (.own x)) x (.ins C dx [])):=Same.upd_new hx'
    have g2:HR K (upd (upd H1 dx (.own x)) x (.ins C dx [])) (updA A1 x (.ins C dx [])):=(g1.grow s1).putO s2.kp ⟨[],upd_same,rfl,.nil⟩
    refine ⟨.ref x::us,_,_,.cons (.ref x) (by rw [List.append_nil];exact r1.same (s1.kp.trans s2.kp)),g2,q1 x dx (g1.none hx),fun u A3 v3 H3 k3 g3 r3 h_q=>?_⟩
    obtain ⟨e,q3⟩:=h_q
    subst e
    cases r3
    exact ⟨rfl,k _ _ _ _ (k1.trans ((s1.kp.trans s2.kp).trans k3)) g3 (.ref x) q3⟩
end
end L2
namespace L2
open PySem PySem.Spec PyProof.Rows
section
variable {X:Cx}
theorem vals_strs:∀ {ts:List Str} {us:List Value},Vals (ts.map V.str) us->∃ l:List (Str × Tok),us=strValues l/\l.map (·.1)=ts
  | [],_,.nil=>⟨[],rfl,rfl⟩
  | z :: ts,_,.cons r h=>by
    obtain ⟨t,rfl⟩:=r
    obtain ⟨l,rfl,e⟩:=vals_strs h
    exact ⟨(z,t)::l,rfl,by rw [List.map_cons,e]⟩
theorem vals_of:∀ (l:List (Str × Tok)),Vals ((l.map (·.1)).map V.str) (strValues l)
  | []=>.nil
  | (z,t)::l=>.cons ⟨t,rfl⟩ (vals_of l)
noncomputable def rJoin (K:PySem.W.Frag):V->List V->Hp->VK->Prop:=fun x vs H Q=>∃ z p ts,x=.str z/\vs=[.ref p]/\SqL K H p (ts.map V.str)/\JoinOk z ts=true/\Q (.str (Txt.join z ts)) H
theorem mt_join:MtR X "str.join" (rJoin X.K):=by
  intro pins s σ H x vs v us Q I rx rv h
  obtain ⟨z,p,ts,rfl,rfl,hl,hok,q⟩:=h
  obtain ⟨t,rfl⟩:=rx
  obtain ⟨u,rfl,ru⟩:=rv.one
  cases ru
  obtain ⟨its,rs,pl,hz⟩:=I.list hl
  obtain ⟨l,rfl,e⟩:=vals_strs rs
  exact SC.join pl.isList e hok fun t' k=>⟨.str _,H,I.tok k,⟨_,rfl⟩,q⟩
noncomputable def rSplit:V->List V->Hp->VK->Prop:=fun x vs H Q=>∃ z y,x=.str z/\vs=[.str y]/\(y.length == 0)=false/\z.length<=sizeLine/\(Builtin.Str.partsBetween z (Builtin.Str.occurrences z y 0 z.length (z.length + 1)) y.length).length<=sizeLine/\(Txt.split z y).length<=sizeLine /\
  ∀ p,H p=none->Q (.ref p) (upd H p (.lst ((Txt.split z y).map V.str)))
theorem mt_split:MtR X "str.split" rSplit:=by
  intro pins s σ H x vs v us Q I rx rv h
  obtain ⟨z,y,rfl,rfl,hy,hz,hn,hs,q⟩:=h
  obtain ⟨t,rfl⟩:=rx
  obtain ⟨w,rfl,rw_⟩:=rv.one
  obtain ⟨u,rfl⟩:=rw_
  have key:∀ (l:List (Str × Tok)) (t':Nat),l.map (·.1)=Txt.split z y->EP X pins σ Q (.ref s.heap.objs.size) { s with heap:=s.heap.push { cls:=.type "list",data:=.seq (strValues l).toArray },toks:=t' }:=fun l t' e=>by
    have hv:=vals_of l
    rw [e] at hv
    exact ⟨.ref s.heap.objs.size,_,I.lnew hv (by rw [List.length_map];exact hs),rfl,q _ I.fresh⟩
  cases h1:(decide (z.length < y.length) || decide (PySem.Builtin.Str.strKind z < PySem.Builtin.Str.strKind y))
  . cases hf:(Builtin.Str.occurrences z y 0 z.length (z.length + 1)).isEmpty
    . refine call_meets F.slot_str_split (typeIs_str _ _ _) F.entry_str_split (F.args_str_split_2 _ _) (meets_str_split_sep z y t u h1 hy hf hz hn) ?_
      show wants _ _ _ { s with toks:=_,heap:=s.heap.push { cls:=.type "list",data:=.seq (strsFrom s.toks (Builtin.Str.partsBetween z (Builtin.Str.occurrences z y 0 z.length (z.length + 1)) y.length)).toArray } }
      rw [strsFrom_eq]
      exact key (numbered s.toks _) _ ((numbered_texts _ _).trans ((if_neg (ne_true_of_eq_false h1)).trans (if_neg (ne_true_of_eq_false hf))).symm)
    . exact call_meets F.slot_str_split (typeIs_str _ _ _) F.entry_str_split (F.args_str_split_2 _ _) (meets_str_split_not_found z y t u h1 hy hf)
        (key [(z,t)] s.toks ((if_neg (ne_true_of_eq_false h1)).trans (if_pos hf)).symm)
  . exact call_meets F.slot_str_split (typeIs_str _ _ _) F.entry_str_split (F.args_str_split_2 _ _) (meets_str_split_cannot_occur z y t u h1)
      (key [(z,t)] s.toks (if_pos h1).symm)
end
section
variable {K:PySem.W.Frag} {H H':Hp} {A:AHp}
noncomputable def aNo:AS:=fun _ _ _=>False
noncomputable def isStrU:U->AHp->Prop:=fun u _=>match u with
  | .str _=>True
  | _=>False
theorem ab_isStr:AbY K "str" isStrU:=fun x u A H r g h=>by
  unfold isStrU at h
  split at h
  . cases r;exact (rfl:"str"="str")
  . exact h.elim
noncomputable def mJoin:U->List U->AHp->AVK->Prop:=fun u us A Q=>match u,us with
  | .str z,[.ref p]=>∃ ts,A p=some (.lst (ts.map U.str))/\JoinOk z ts=true/\Q (.str (Txt.join z ts)) A
  | _,_=>False
theorem ab_mjoin:AbMt K (rJoin K) mJoin:=fun x u xs us A H Q' Q r rs g h k=>by
  unfold mJoin at h
  split at h
  . cases r
    obtain ⟨v,rfl,rv⟩:=rs.inv1
    cases rv
    obtain ⟨ts,e,ok,h⟩:=h
    obtain ⟨vs,h1,r1⟩:=g.list e
    have:=r1.strs
    subst this
    exact ⟨_,_,ts,rfl,rfl,SqL.of h1,ok,k _ _ _ _ (.refl H) g (.str _) h⟩
  . exact h.elim
noncomputable def mSplit:U->List U->AHp->AVK->Prop:=fun u us A Q=>match u,us with
  | .str z,[.str y]=>(y.length == 0)=false/\z.length<=sizeLine/\(Builtin.Str.partsBetween z (Builtin.Str.occurrences z y 0 z.length (z.length + 1)) y.length).length<=sizeLine/\(Txt.split z y).length<=sizeLine/\∀ p,A p=none->Q (.ref p) (updA A p (.lst ((Txt.split z y).map U.str)))
  | _,_=>False
theorem ab_msplit:AbMt K rSplit mSplit:=fun x u xs us A H Q' Q r rs g h k=>by
  unfold mSplit at h
  split at h
  . cases r
    obtain ⟨v,rfl,rv⟩:=rs.inv1
    cases rv
    obtain ⟨h1,h2,h3,h4,h⟩:=h
    exact ⟨_,_,rfl,rfl,h1,h2,h3,h4,fun p hp=>k _ _ _ _ (Same.upd_new hp).kp (g.newL hp RUs.of_strs) (.ref p) (h p (g.none hp))⟩
  . exact h.elim
end
section
variable {K:PySem.W.Frag} {a:Addr} {kus:List (Str × U)}
noncomputable def xInDC (a:Addr) (kus:List (Str × U)):AR2:=fun x y A Q=>∃ z,x=.str z/\y=.ref a/\Q (.bl (kus.lookup z).isSome) A
noncomputable def xIxDC (a:Addr) (kus:List (Str × U)):AR2:=fun x y A Q=>∃ z u,x=.ref a/\y=.str z/\kus.lookup z=some u/\Q u A
noncomputable def xRadd:AR2:=fun x y A Q=>∃ i j,x=.int i/\y=.int j/\Q (.int (i + j)) A
theorem ab_radd:AbR K rAdd xRadd:=fun x y u w A H Q' Q hu hw g h k=>by
  obtain ⟨i,j,rfl,rfl,q⟩:=h
  cases hu;cases hw
  exact ⟨i,j,rfl,rfl,k _ _ _ _ (.refl H) g (.int _) q⟩
variable {u:U} {ρ:ASt} {A:AHp} {Q:AVK} {aa av:AE} {l:AA} {D:AEnds} {f m:Str} {C:Addr} {asp:ASp} {ar:AR2}
theorem q_join {z:Str} {p:Addr}:mJoin (.str z) [.ref p] A Q=∃ ts,A p=some (.lst (ts.map U.str))/\JoinOk z ts=true/\Q (.str (Txt.join z ts)) A:=rfl
theorem q_split {z y:Str}:mSplit (.str z) [.str y] A Q=((y.length == 0)=false/\z.length<=sizeLine/\(Builtin.Str.partsBetween z (Builtin.Str.occurrences z y 0 z.length (z.length + 1)) y.length).length<=sizeLine/\(Txt.split z y).length<=sizeLine/\∀ p,A p=none->Q (.ref p) (updA A p (.lst ((Txt.split z y).map U.str)))):=rfl
theorem q_isStr {z:Str}:isStrU (.str z) A=True:=rfl
theorem q_raddi {i j:Int}:xRadd (.int i) (.int j) A Q=Q (.int (i + j)) A:=propext ⟨fun hq0=>by obtain ⟨_,_,e1,e2,h⟩:=hq0;cases e1;cases e2;exact h,fun h=>⟨_,_,rfl,rfl,h⟩⟩
theorem q_no:aNo D ρ A=False:=rfl
theorem q_inDC {z:Str}:xInDC a kus (.str z) (.ref a) A Q=Q (.bl (kus.lookup z).isSome) A:=propext ⟨fun hq0=>by obtain ⟨_,e,_,h⟩:=hq0;cases e;exact h,fun h=>⟨_,rfl,rfl,h⟩⟩
theorem q_ixDC {z:Str}:xIxDC a kus (.ref a) (.str z) A Q=∃ u,kus.lookup z=some u/\Q u A:=propext ⟨fun hq0=>by obtain ⟨_,u,_,e,h⟩:=hq0;cases e;exact ⟨u,h⟩,fun ⟨u,h⟩=>⟨_,u,rfl,rfl,h⟩⟩
theorem q_fld:aFld K aa f ρ A Q=aa ρ A fun x A1=>∃ a C dx fs u,x=.ref a/\A1 a=some (.ins C dx fs)/\Cls K C/\NoAttr K C f/\fs.lookup f=some u/\Q u A1:=rfl
theorem q_sfld:asFld K aa av f D ρ A=av ρ A fun y A1=>aa ρ A1 fun x A2=>∃ a C dx fs,x=.ref a/\A2 a=some (.ins C dx fs)/\Cls K C/\NoAttr K C f/\fs.length < 1000/\D.nx ρ (updA A2 a (.ins C dx (putU f y fs))):=rfl
theorem q_saug:asAug K aa av ar f D ρ A=aa ρ A fun x A1=>∃ a C dx fs u,x=.ref a/\A1 a=some (.ins C dx fs)/\Cls K C/\NoAttr K C f/\fs.lookup f=some u /\
  av ρ A1 fun y A2=>ar u y A2 fun z A3=>∃ dx' fs',A3 a=some (.ins C dx' fs')/\fs'.length < 1000/\D.nx ρ (updA A3 a (.ins C dx' (putU f z fs'))):=rfl
theorem q_meth:aMeth C m asp aa l ρ A Q=aa ρ A fun x A1=>∃ a dx fs,x=.ref a/\A1 a=some (.ins C dx fs)/\fs.lookup m=none/\l ρ A1 fun us A2=>asp (x::us) A2 Q:=rfl
theorem q_make:aMake C asp l ρ A Q=l ρ A fun us A1=>∀ x dx,A1 x=none->asp (.ref x::us) (updA A1 x (.ins C dx [])) (fun u A2=>u=.non/\Q (.ref x) A2):=rfl
end
noncomputable def aIfH (c:AT) (t e:AS):AS:=aIfS c t e
theorem ab_ifH {K:PySem.W.Frag} {tc:TT} {t1 t2:TS} {c:AT} {a1 a2:AS} (hc:AbT K tc c) (h1:AbS K t1 a1) (h2:AbS K t2 a2):AbS K (tIfS tc t1 t2) (aIfH c a1 a2):=ab_ifs hc h1 h2
theorem if_open {c:AT} {t e:AS} {D:AEnds} {ρ:ASt} {A:AHp} (k:Bool) (h1:∀ B:Bool->AHp->Prop,B k A->c ρ A B) (h2:if k=true then t D ρ A else e D ρ A):aIfH c t e D ρ A:=h1 _ h2
theorem q_xintb {A:AHp} {Q:AVK} {k:Bool}:xInt [.bl k] A Q=Q (.int (if k then 1 else 0)) A:=rfl
theorem if_yes {c:AT} {t e:AS} {D:AEnds} {ρ:ASt} {A:AHp} (h1:∀ B:Bool->AHp->Prop,B true A->c ρ A B) (h2:t D ρ A):aIfH c t e D ρ A:=h1 _ (iteP rfl h2)
theorem if_no {c:AT} {t e:AS} {D:AEnds} {ρ:ASt} {A:AHp} (h1:∀ B:Bool->AHp->Prop,B false A->c ρ A B) (h2:e D ρ A):aIfH c t e D ρ A:=h1 _ (iteN Bool.false_ne_true h2)
end L2
namespace L2
open PySem PySem.Spec PyProof.Rows
noncomputable abbrev blk:Str:=" "
theorem blk_eq:(blk:Str)=⟨#[32]⟩:=by decide +kernel
theorem join_cons {x:Str} {r:List Str} (h:r≠[]):Txt.join blk (x::r)=x++blk++Txt.join blk r:=by
  unfold Txt.join
  rw [StrLaws.glued_eq_join,StrLaws.glued_eq_join]
  cases r with
  | nil=>exact absurd rfl h
  | cons y r=>rfl
theorem join_one {x:Str}:Txt.join blk [x]=x:=by unfold Txt.join;rw [StrLaws.glued_eq_join];rfl
theorem Str.app_assoc (x y z:Str):x++y++z=x++(y++z):=by
  apply Str.ext'
  simp only [Str.cps_append,Array.append_assoc]
theorem join_app:∀ {xs ys:List Str},xs≠[]->ys≠[]->Txt.join blk (xs++ys)=Txt.join blk xs++blk++Txt.join blk ys
  | [],_,h,_=>absurd rfl h
  | [x],ys,_,h=>by rw [join_one];exact join_cons h
  | x :: y::r,ys,_,h=>by
    rw [List.cons_append,join_cons (x:=x) (by simp),join_app (by simp) h,join_cons (x:=x) (r:=y::r) (by simp)]
    simp only [Str.app_assoc]
theorem join_join:∀ (yss:List (List Str)),(∀ ys∈yss,ys≠[])->Txt.join blk (yss.map (Txt.join blk))=Txt.join blk yss.flatten
  | [],_=>rfl
  | [ys],_=>by simp [join_one]
  | ys::zs::r,h=>by
    have ih:=join_join (zs::r) fun y hy=>h y (.tail _ hy)
    have hz:zs≠[]:=h zs (.tail _ (.head _))
    rw [List.map_cons,join_cons (x:=Txt.join blk ys) (by simp),ih,show (ys::zs::r).flatten=ys++(zs::r).flatten from rfl,join_app (h ys (.head _)) (by simp [hz])]
theorem sep_inj {c:Nat}:∀ {x y A B:List Nat},c ∉ x->c ∉ y->x++c::A=y++c::B->x=y/\A=B
  | [],[],A,B,_,_,e=>⟨rfl,by simpa using e⟩
  | [],b::y,A,B,_,h,e=>by
    rw [List.nil_append,List.cons_append] at e
    injection e with e1 _
    exact absurd (by rw [e1];exact .head _) h
  | a :: x,[],A,B,h,_,e=>by
    rw [List.nil_append,List.cons_append] at e
    injection e with e1 _
    exact absurd (by rw [<- e1];exact .head _) h
  | a :: x,b::y,A,B,h1,h2,e=>by
    rw [List.cons_append,List.cons_append] at e
    injection e with e1 e2
    obtain ⟨h3,h4⟩:=sep_inj (fun z=>h1 (.tail _ z)) (fun z=>h2 (.tail _ z)) e2
    exact ⟨by rw [e1,h3],h4⟩
theorem Str.toL_inj {x y:Str} (h:x.cps.toList=y.cps.toList):x=y:=Str.ext' (Array.toList_inj.mp h)
theorem sep_inj' {x y A B:Str} (h1:32 ∉ x.cps.toList) (h2:32 ∉ y.cps.toList) (e:x++blk++A=y++blk++B):x=y/\A=B:=by
  have:=congrArg (·.cps.toList) e
  simp only [Str.cps_append,Array.toList_append,blk_eq,List.append_assoc,List.singleton_append] at this
  obtain ⟨h3,h4⟩:=sep_inj h1 h2 this
  exact ⟨Str.toL_inj h3,Str.toL_inj h4⟩
theorem sep_no {x y A:Str} (h1:32 ∉ x.cps.toList) (e:x=y++blk++A):False:=by
  rw [e] at h1
  simp [Str.cps_append,blk_eq] at h1
theorem join_inj:∀ {xs ys:List Str},xs≠[]->ys≠[]->(∀ t∈xs,32 ∉ t.cps.toList)->(∀ t∈ys,32 ∉ t.cps.toList)->Txt.join blk xs=Txt.join blk ys->xs=ys
  | [],_,h,_,_,_,_=>absurd rfl h
  | _::_,[],_,h,_,_,_=>absurd rfl h
  | [x],[y],_,_,_,_,e=>by rw [join_one,join_one] at e;rw [e]
  | [x],y::z::r,_,_,h1,_,e=>by
    rw [join_one,join_cons (by simp)] at e
    exact (sep_no (h1 x (.head _)) e).elim
  | x :: z::r,[y],_,_,_,h2,e=>by
    rw [join_one,join_cons (by simp)] at e
    exact (sep_no (h2 y (.head _)) e.symm).elim
  | x :: x'::r,y::y'::r',_,_,h1,h2,e=>by
    rw [join_cons (x:=x) (by simp),join_cons (x:=y) (by simp)] at e
    obtain ⟨e1,e2⟩:=sep_inj' (h1 x (.head _)) (h2 y (.head _)) e
    rw [e1,join_inj (by simp) (by simp) (fun t ht=>h1 t (.tail _ ht)) (fun t ht=>h2 t (.tail _ ht)) e2]
theorem split_ne (x y:Str):Txt.split x y≠[]:=by
  unfold Txt.split
  split
  . simp
  . split
    . simp
    . rw [StrLaws.partsBetween_eq]
      obtain ⟨p,r,e⟩:=StrLaws.partsFrom_ne x y.length 0 (Builtin.Str.occurrences x y 0 x.length (x.length + 1))
      rw [e];simp
theorem split_join {ts:List Str} (h0:ts≠[]) (h:∀ t∈ts,32 ∉ t.cps.toList):Txt.split (Txt.join blk ts) blk=ts:=by
  refine join_inj (split_ne _ _) h0 ?_ h ?_
  . rw [blk_eq];exact StrLaws.split_free _ 32
  . show Builtin.Str.glued _ _=_
    rw [StrLaws.glued_eq_join,StrLaws.join_split]
theorem join_len {ts:List Str} {B:Nat} (h:∀ t∈ts,t.length<=B):(Txt.join blk ts).length<=ts.length * (B + 1):=by
  show (Builtin.Str.glued _ _).length<=_
  rw [StrLaws.glued_eq_join]
  have h1:=StrLaws.join_length_le blk ts
  have h2:=StrLaws.sumLen_le ts h
  have h3:(blk:Str).length=1:=by decide +kernel
  rw [h3] at h1
  rw [Nat.mul_add]
  lia
noncomputable def lettersL:Str:="abcdefghijklmnopqrstuvwxyz"
noncomputable def keptsL:List Str:=["nothing","bead","or","by","row","bag","choice","ring","of","left","right"]
noncomputable def wdB (x:Str):Bool:=x.cps.toList.all (fun c=>decide (c∈lettersL.cps.toList)) && (decide (1<=x.length) && decide (x.length<=8)) && !keptsL.contains x
theorem wdB_of {x:Str} (h:wdB x=true):(∀ c∈x.cps.toList,97<=c/\c<=122)/\1<=x.length/\x.length<=8/\x ∉ keptsL:=by
  unfold wdB at h
  simp only [Bool.and_eq_true,List.all_eq_true,decide_eq_true_eq,Bool.not_eq_true',List.contains_eq_mem,decide_eq_false_iff_not] at h
  refine ⟨fun c hc=>?_,h.1.2.1,h.1.2.2,h.2⟩
  have:=h.1.1 c hc
  have key:∀ c∈lettersL.cps.toList,97<=c/\c<=122:=by decide +kernel
  exact key c this
noncomputable def opn:Nat->Str
  | 0=>"["
  | 1=>"{"
  | 2=>"<"
  | _=>"(("
noncomputable def cls:Nat->Str
  | 0=>"]"
  | 1=>"}"
  | 2=>">"
  | _=>"))"
mutual
noncomputable def Wr.wd:Wr->Bool
  | .nothing=>true
  | .bead c=>wdB c
  | .side _ f=>f.wd
  | .pair f g=>f.wd && g.wd
  | .many k ps=>wdL ps
noncomputable def wdL:List Wr->Bool
  | []=>true
  | w::ws=>w.wd && wdL ws
end
mutual
noncomputable def Wr.toks:Wr->List Str
  | .nothing=>["nothing"]
  | .bead c=>[c]
  | .side b f=>sname b::f.toks
  | .pair f g=>"("::(f.toks++(g.toks++[(")":Str)]))
  | .many k ps=>opn k::(toksL ps++[cls k])
noncomputable def toksL:List Wr->List Str
  | []=>[]
  | w::ws=>w.toks++toksL ws
end
noncomputable def tokOk (t:Str):Prop:=(32 ∉ t.cps.toList)/\t.length<=8
theorem tok_word {c:Str} (h:wdB c=true):tokOk c:=⟨fun hc=>by have:=(wdB_of h).1 _ hc;lia,(wdB_of h).2.2.1⟩
end L2
namespace L2
open PySem PySem.Spec PyProof.Rows
inductive Kd where
  | whole | side (b:Bool) | pair | many (k:Nat)
noncomputable def Kd.name:Kd->Str
  | .whole=>"whole"
  | .side b=>sname b
  | .pair=>"pair"
  | .many k=>mname k
noncomputable def Kd.close:Kd->List Str
  | .whole=>[]
  | .side _=>[]
  | .pair=>[")"]
  | .many k=>[cls k]
noncomputable def Kd.made:Kd->List Wr->Wr
  | .whole,[x]=>x
  | .side b,[x]=>.side b x
  | .pair,[x,y]=>.pair x y
  | .many k,ps=>.many k ps
  | _,_=>.nothing
structure Fr where
  kd:Kd
  dn:List Wr
  td:List Wr
noncomputable def rem:List Fr->List Str
  | []=>[]
  | f::fs=>toksL f.td++(f.kd.close++rem fs)
noncomputable def plug (x:Wr):List Fr->Wr
  | []=>x
  | f::fs=>plug (f.kd.made (f.dn++x::f.td)) fs
noncomputable def fin:List Fr->Wr
  | []=>.nothing
  | f::fs=>plug (f.kd.made (f.dn++f.td)) fs
end L2
namespace L2
open PySem PySem.Spec PyProof.Rows
noncomputable def WdOk (C:Addr) (A:AHp) (a p:Addr) (ts:List Str) (n:Nat):Prop:=(∃ dx,A a=some (.ins C dx [("words",.ref p),("at",.int n)]))/\A p=some (.lst (ts.map U.str))/\n<=ts.length
end L2
namespace L2
open PySem PySem.Spec PyProof.Rows
section
variable {K:PySem.W.Frag}
noncomputable def aMethD (m:Str) (tbl:List (Addr × ASp)) (aa:AE) (l:AA):AE:=fun ρ A Q=>aa ρ A fun x A1=>∃ a dx fs C asp,x=.ref a/\A1 a=some (.ins C dx fs)/\(C,asp)∈tbl/\fs.lookup m=none/\l ρ A1 fun us A2=>asp (x::us) A2 Q
theorem q_methD {m:Str} {tbl:List (Addr × ASp)} {aa:AE} {l:AA} {ρ:ASt} {A:AHp} {Q:AVK}:aMethD m tbl aa l ρ A Q=aa ρ A fun x A1=>∃ a dx fs C asp,x=.ref a/\A1 a=some (.ins C dx fs)/\(C,asp)∈tbl/\fs.lookup m=none/\l ρ A1 fun us A2=>asp (x::us) A2 Q:=rfl
end
noncomputable def IsC (K:PySem.W.Frag) (C c:Addr) (b:Bool):Prop:=Cls K C/\PySem.W.findIn K (.ref C) "__class__"=some (some (.builtin "object.__class__"))/\PySem.W.specialIn K (.builtin "object.__class__") "__get__"=some (some (.builtin "getset_descriptor.__get__")) /\
  PySem.W.takesIn K (.builtin "object.__class__")=some true/\PySem.W.mroIn K C (.type "object")=some true/\PySem.W.kitOne K (.ref C) (.ref c)=some b
noncomputable def rIsC (K:PySem.W.Frag):List V->Hp->VK->Prop:=fun xs H Q=>∃ a C dx fs c b,xs=[.ref a,.ref c]/\H a=some (.ins C dx fs)/\IsC K C c b/\Q (.bl b) H
theorem c_isC {X:Cx}:CallR X (.builtin "isinstance") (rIsC X.K):=by
  intro pins s σ H xs us Q I r h
  obtain ⟨a,C,dx,fs,c,b,rfl,hH,⟨h1,h2,h3,h4,h5,h6⟩,q⟩:=h
  obtain ⟨u,v,rfl,ru,rv⟩:=r.two
  cases rv
  exact isinst_ok I ru (.ins hH h1 h2 h3 h4 h5) h6 fun tk=>⟨.bl b,H,I.tok tk,rfl,q⟩
section
variable {K:PySem.W.Frag}
noncomputable def xIsC (K:PySem.W.Frag):List U->AHp->AVK->Prop:=fun us A Q=>∃ a C dx fs c b,us=[.ref a,.ref c]/\A a=some (.ins C dx fs)/\IsC K C c b/\Q (.bl b) A
theorem ab_isC:AbL K (rIsC K) (xIsC K):=fun xs us A H Q' Q r g h k=>by
  obtain ⟨a,C,dx,fs,c,b,rfl,e,hi,q⟩:=h
  cases r with
  | cons r1 r=>cases r with
    | cons r2 r =>
      cases r;cases r1;cases r2
      obtain ⟨gs,h1,_⟩:=g.ins e
      exact ⟨a,C,dx,gs,c,b,rfl,h1,hi,k _ _ _ _ (.refl H) g (.bl b) q⟩
theorem q_isC {us:List U} {A:AHp} {Q:AVK}:xIsC K us A Q=∃ a C dx fs c b,us=[.ref a,.ref c]/\A a=some (.ins C dx fs)/\IsC K C c b/\Q (.bl b) A:=rfl
end
end L2
namespace L2
open PySem PySem.Spec PyProof.Rows
noncomputable abbrev TJ:=Str->St->Hp->(Str->Hp->Prop)->Prop
noncomputable def PJ (X:Cx) (es:List Expr) (t:TJ):Prop :=
  ∀ (pins:List (Addr × Obj)) (s:Shared) (σ:St) (H:Hp) (out:Str) (Q:Str->Hp->Prop),Inv X pins σ H s->t out σ H Q->wpAny (model X.prog X.w) X.A (joinParts out (evalEach es X.env)) (EP X pins σ fun v H'=>∃ z,v=.str z/\Q z H') X.xe s
noncomputable def tjNil:TJ:=fun out _ H Q=>out.length<=sizeLine/\Q out H
noncomputable def tjCons (te:TE) (t:TJ):TJ:=fun out σ H Q=>te σ H fun v H1=>∃ y,v=.str y/\(out++y).length<=sizeLine/\t (out++y) σ H1 Q
noncomputable def tFs (t:TJ):TE:=fun σ H Q=>t Str.empty σ H fun z H'=>Q (.str z) H'
section
variable {X:Cx} {e v1 v2:Expr} {es:List Expr} {te:TE} {t:TJ} {pos:Pos}
theorem pj_nil:PJ X [] tjNil:=fun pins s σ H out Q I ⟨hz,q⟩=>joinParts_nil (⟨.str out,H,I.tok _,⟨_,rfl⟩,out,rfl,q⟩) hz
theorem pj_cons (he:PE X e te) (ht:PJ X es t):PJ X (e::es) (tjCons te t):=by
  intro pins s σ H out Q I h
  refine joinParts_cons (thn (he pins s σ H _ I h) fun u s1 h_q=>?_)
  obtain ⟨v,H1,I1,rv,y,ev,hz,q⟩:=h_q
  subst ev
  obtain ⟨tk,rfl⟩:=rv
  exact ⟨hz,ht pins s1 σ H1 (out++y) Q I1 q⟩
theorem pe_fstr (h:PJ X (v1::v2::es) t):PE X (.JoinedStr (v1::v2::es) pos) (tFs t):=by
  intro pins s σ H Q I hq
  refine JoinedStr_many (thn (h pins s σ H Str.empty _ I hq) fun u s1 h_q=>?_)
  obtain ⟨v,H1,I1,rv,z,ev,q⟩:=h_q
  subst ev
  exact ⟨.str z,H1,I1,rv,q⟩
end
section
variable {K:PySem.W.Frag}
noncomputable abbrev AJ:=Str->ASt->AHp->(Str->AHp->Prop)->Prop
noncomputable def ajNil:AJ:=fun out _ A Q=>out.length<=sizeLine/\Q out A
noncomputable def ajCons (ae:AE) (t:AJ):AJ:=fun out ρ A Q=>ae ρ A fun u A1=>∃ y,u=.str y/\(out++y).length<=sizeLine/\t (out++y) ρ A1 Q
noncomputable def aFmt (ae:AE):AE:=fun ρ A Q=>ae ρ A fun u A1=>∃ y,u=.str y/\y.length<=sizeLine/\Q (.str y) A1
noncomputable def aFs (t:AJ):AE:=fun ρ A Q=>t Str.empty ρ A fun z A'=>Q (.str z) A'
variable {out:Str} {ρ:ASt} {A:AHp} {Q:AVK} {R:Str->AHp->Prop} {ae:AE} {t:AJ}
theorem q_jnil:ajNil out ρ A R=(out.length<=sizeLine/\R out A):=rfl
theorem q_jcons:ajCons ae t out ρ A R=ae ρ A fun u A1=>∃ y,u=.str y/\(out++y).length<=sizeLine/\t (out++y) ρ A1 R:=rfl
theorem q_fmt:aFmt ae ρ A Q=ae ρ A fun u A1=>∃ y,u=.str y/\y.length<=sizeLine/\Q (.str y) A1:=rfl
theorem q_fs:aFs t ρ A Q=t Str.empty ρ A fun z A'=>Q (.str z) A':=rfl
end
end L2
namespace L2
open PySem PySem.Spec PyProof.Rows
structure Mk0 (K:PySem.W.Frag) (C:Addr):Prop where
  makes:PySem.W.makesIn K C=true
  init:PySem.W.findIn K (.ref C) "__init__"=some (some (.builtin "object.__init__"))
  kp:PySem.W.keepIn K (.ref C)=true
noncomputable def tMake0 (C:Addr):TE:=fun _ H Q=>∀ x dx,H x=none->H dx=none->dx≠x->Q (.ref x) (upd (upd H dx (.own x)) x (.ins C dx []))
section
variable {X:Cx} {C:Addr} {x:Str} {p pos:Pos}
theorem run_make0 {pins:List (Addr × Obj)} {σ:St} {H:Hp} {s:Shared} {Q:VK} (M:Mk0 X.K C) (I:Inv X pins σ H s) (h:∀ x dx,H x=none->H dx=none->dx≠x->Q (.ref x) (upd (upd H dx (.own x)) x (.ins C dx []))) :
    wpAny (model X.prog X.w) X.A (call (.ref C) []) (EP X pins σ Q) X.xe s:=by
  have hq:=h (s.heap.objs.size + 1) s.heap.objs.size (I.hok.fresh (Nat.le_succ _)) (I.hok.fresh (Nat.le_refl _)) (Nat.ne_of_lt (Nat.lt_succ_self _))
  have I2:=Inv.made (C:=C) I
  have Y:=PySem.W.makes_of (M:=model X.prog X.w) I.kIn M.makes
  have e2:((s.heap.push PySem.W.emptyDict).push (PySem.W.instObj C s.heap.objs.size)).get? (s.heap.objs.size + 1)=some (PySem.W.instObj C s.heap.objs.size):=by
    have:=Heap.get?_push_size (s.heap.push PySem.W.emptyDict) (o:=PySem.W.instObj C s.heap.objs.size) rfl
    rwa [Heap.size_push] at this
  refine wpAny_call (make_map0 I.kIn M.makes M.init (fun self=>PySem.W.Looks.of_pure (PySem.W.oi_bind self)) ?_)
  have t1:PySem.W.Looks (model X.prog X.w) ((s.heap.push PySem.W.emptyDict).push (PySem.W.instObj C s.heap.objs.size)) (typeOf (.ref (s.heap.objs.size + 1))) (.ref C):=(PySem.W.Looks.ld e2).andThen .now
  have t2:PySem.W.Looks (model X.prog X.w) ((s.heap.push PySem.W.emptyDict).push (PySem.W.instObj C s.heap.objs.size)) (isInstance (.ref (s.heap.objs.size + 1)) (.type "object")) true:=t1.andThen (Y.top.keeps fun b o e=>Heap.get?_push_of_some _ (Heap.get?_push_of_some _ e))
  refine codeAny_call_builtin PySem.W.oi_plain PySem.W.entry_oi (@PySem.W.check_slot (model X.prog X.w) _ _ _ "object.__init__" "object" "__init__" (.ref (s.heap.objs.size + 1)) [] [] _ PySem.W.oi_kind PySem.W.oi_split t2 (PySem.W.oi_args (.ref (s.heap.objs.size + 1))) ?_)
  rw [PySem.W.oi_run]
  exact wpAny_pure (And.intro rfl ⟨.ref (s.heap.objs.size + 1),_,I2,rfl,hq⟩)
theorem pe_mk0 (M:Mk0 X.K C) (hg:Gl X x) (hm:X.mg x=some (.ref C)) (hdb:(x == ("__debug__":Str))=false:=by decide):PE X (.Call (.Name x p) [] [] pos) (tMake0 C):=by
  intro pins s σ H Q I h
  refine wpAny_Call_Name_kw (ld_glob I hg hm ?_ hdb)
  exact PySem.W.callWith_K0 I.kIn M.kp (run_make0 M I h)
end
section
variable {K:PySem.W.Frag} {C:Addr}
noncomputable def aMake0 (C:Addr):AE:=fun _ A Q=>∀ x dx,A x=none->Q (.ref x) (updA A x (.ins C dx []))
theorem ab_mk0:AbE K (tMake0 C) (aMake0 C):=fun ρ A σ H Q' Q hs g q k x dx hx hdx hne=>by
  have s1:Same H (upd H dx (.own x)):=Same.upd_new hdx
  have hx':upd H dx (.own x) x=none:=by rw [upd_ne (Ne.symm hne)];exact hx
  have s2:Same (upd H dx (.own x)) (upd (upd H dx (.own x)) x (.ins C dx [])):=Same.upd_new hx'
  have g2:HR K (upd (upd H dx (.own x)) x (.ins C dx [])) (updA A x (.ins C dx [])):=(g.grow s1).putO s2.kp ⟨[],upd_same,rfl,.nil⟩
  exact k _ _ _ _ (s1.kp.trans s2.kp) g2 (.ref x) (q x dx (g.none hx))
theorem q_mk0 {ρ:ASt} {A:AHp} {Q:AVK}:aMake0 C ρ A Q=∀ x dx,A x=none->Q (.ref x) (updA A x (.ins C dx [])):=rfl
end
end L2
namespace L2
open PySem PySem.Spec PyProof.Rows
noncomputable def IsCs (K:PySem.W.Frag) (C:Addr) (cs:List Addr) (b:Bool):Prop:=Cls K C/\PySem.W.findIn K (.ref C) "__class__"=some (some (.builtin "object.__class__"))/\PySem.W.specialIn K (.builtin "object.__class__") "__get__"=some (some (.builtin "getset_descriptor.__get__")) /\
  PySem.W.takesIn K (.builtin "object.__class__")=some true/\PySem.W.mroIn K C (.type "object")=some true/\PySem.W.kitAny K (.ref C) (cs.map Value.ref)=some b
theorem vals_refs:∀ {cs:List Addr} {us:List Value},Vals (cs.map V.ref) us->us=cs.map Value.ref
  | [],_,.nil=>rfl
  | c :: cs,_,.cons r h=>by
    cases (show _=Value.ref c from r)
    rw [vals_refs h];rfl
section
variable {K:PySem.W.Frag}
theorem RUs.refs {H:Hp}:∀ {cs:List Addr} {vs:List V},RUs K H (cs.map U.ref) vs->vs=cs.map V.ref
  | [],_,.nil=>rfl
  | c::cs,_,.cons h r=>by cases h;rw [List.map_cons,RUs.refs r]
noncomputable def xIsCs (K:PySem.W.Frag):List U->AHp->AVK->Prop:=fun us A Q=>∃ a C dx fs cs b,us=[.ref a,.tup (cs.map U.ref)]/\A a=some (.ins C dx fs)/\IsCs K C cs b/\Q (.bl b) A
theorem q_isCs {us:List U} {A:AHp} {Q:AVK}:xIsCs K us A Q=∃ a C dx fs cs b,us=[.ref a,.tup (cs.map U.ref)]/\A a=some (.ins C dx fs)/\IsCs K C cs b/\Q (.bl b) A:=rfl
end
end L2
namespace L2
open PySem PySem.Spec PyProof.Rows
inductive Rl where
  | nothing | bead (c:Str) | named (c:Str) | or (x y:Rl) | by_ (x y:Rl) | hold (k:Nat) (x:Rl)
noncomputable def Rl.toU:Rl->U
  | .nothing=>.tup [.str "nothing"]
  | .bead c=>.tup [.str "bead",.str c]
  | .named c=>.tup [.str "name",.str c]
  | .or x y=>.tup [.str "or",x.toU,y.toU]
  | .by_ x y=>.tup [.str "by",x.toU,y.toU]
  | .hold k x=>.tup [.str (mname k),x.toU]
noncomputable def Rl.lvl:Rl->Nat
  | .or _ _=>0
  | .by_ _ _=>1
  | _=>2
noncomputable def shut (n l:Nat) (ts:List Str):List Str:=if l < n then ("(":Str)::(ts++[(")":Str)]) else ts
noncomputable def Rl.tk:Rl->List Str
  | .nothing=>["nothing"]
  | .bead c=>["bead",c]
  | .named c=>[c]
  | .or x y=>shut 0 x.lvl x.tk++(("or":Str)::shut 1 y.lvl y.tk)
  | .by_ x y=>shut 1 x.lvl x.tk++(("by":Str)::shut 2 y.lvl y.tk)
  | .hold k x=>mname k::"of"::shut 2 x.lvl x.tk
inductive Wd:Nat->Nat->Rl->List Str->Prop
  | nothing {d n:Nat}:Wd d n .nothing ["nothing"]
  | bead {d n:Nat} {c:Str}:Wd d n (.bead c) ["bead",c]
  | named {d n:Nat} {c:Str}:Wd d n (.named c) [c]
  | or {d:Nat} {x y:Rl} {a b:List Str}:Wd d 0 x a->Wd d 1 y b->Wd d 0 (.or x y) (a++(("or":Str)::b))
  | by_ {d n:Nat} {x y:Rl} {a b:List Str}:n<=1->Wd d 1 x a->Wd d 2 y b->Wd d n (.by_ x y) (a++(("by":Str)::b))
  | hold {d n k:Nat} {x:Rl} {a:List Str}:Wd d 2 x a->Wd d n (.hold k x) (mname k::"of"::a)
  | par {d n:Nat} {x:Rl} {a:List Str}:Wd d 0 x a->Wd (d + 1) n x (("(":Str)::(a++[(")":Str)]))
theorem Wd.up {d n:Nat} {x:Rl} {a:List Str} (h:Wd d n x a):∀ {e:Nat},d<=e->Wd e n x a:=by
  induction h with
  | nothing=>intro e _;exact .nothing
  | bead=>intro e _;exact .bead
  | named=>intro e _;exact .named
  | or _ _ h1 h2=>intro e l;exact .or (h1 l) (h2 l)
  | by_ hn _ _ h1 h2=>intro e l;exact .by_ hn (h1 l) (h2 l)
  | hold _ h1=>intro e l;exact .hold (h1 l)
  | par _ h1 =>
    intro e l
    cases e with
    | zero=>lia
    | succ e=>exact .par (h1 (by lia))
noncomputable def Rl.dep:Rl->Nat
  | .nothing=>1
  | .bead _=>1
  | .named _=>1
  | .or x y=>1 + max x.dep y.dep
  | .by_ x y=>1 + max x.dep y.dep
  | .hold _ x=>1 + x.dep
theorem Wd.shut {d:Nat} {x:Rl} {a:List Str} (n:Nat) (h:∀ m,m<=x.lvl->Wd d m x a):Wd (d + 1) n x (L2.shut n x.lvl a):=by
  unfold L2.shut
  split
  . exact .par (h 0 (Nat.zero_le _))
  . exact (h n (by lia)).up (Nat.le_succ d)
theorem Rl.wd_tk:∀ (r:Rl) (n:Nat),n<=r.lvl->Wd r.dep n r r.tk
  | .nothing,n,_=>.nothing
  | .bead c,n,_=>.bead
  | .named c,n,_=>.named
  | .or x y,n,h=>by
    have:n=0:=Nat.le_zero.mp h
    subst this
    refine .or ((Wd.shut 0 (x.wd_tk)).up ?_) ((Wd.shut 1 (y.wd_tk)).up ?_) <;> simp only [Rl.dep] <;> lia
  | .by_ x y,n,h=>by
    refine .by_ h ((Wd.shut 1 (x.wd_tk)).up ?_) ((Wd.shut 2 (y.wd_tk)).up ?_) <;> simp only [Rl.dep] <;> lia
  | .hold k x,n,_=>.hold ((Wd.shut 2 (x.wd_tk)).up (by simp only [Rl.dep];lia))
end L2
namespace L2
open PySem PySem.Spec PyProof.Rows
theorem shut_ne {n l:Nat} {ts:List Str} (h:ts≠[]):shut n l ts≠[]:=by
  unfold shut;split
  . simp
  . exact h
theorem Rl.tk_ne (r:Rl):r.tk≠[]:=by cases r <;> simp [Rl.tk]
noncomputable def Rl.txt (r:Rl):Str:=Txt.join blk r.tk
noncomputable def Rl.sh (n:Nat) (r:Rl):Str:=if r.lvl < n then Str.ofString "( "++r.txt++Str.ofString " )" else r.txt
theorem Rl.sh_eq (n:Nat) (r:Rl):Txt.join blk (shut n r.lvl r.tk)=r.sh n:=by
  unfold shut Rl.sh Rl.txt
  split
  . rw [join_cons (by simp),join_app r.tk_ne (by simp),join_one,show Str.ofString "( "=Str.ofString "("++blk from by decide +kernel,show Str.ofString " )"=blk++Str.ofString ")" from by decide +kernel]
    simp only [L2.Str.app_assoc]
  . rfl
theorem txt_mid {a b:List Str} {z:Str} (ha:a≠[]) (hb:b≠[]):Txt.join blk (a++(z::b))=Txt.join blk a++(blk++z++blk)++Txt.join blk b:=by
  rw [join_app ha (by simp),join_cons hb]
  simp only [L2.Str.app_assoc]
theorem Rl.txt_or (x y:Rl):(Rl.or x y).txt=x.sh 0++Str.ofString " or "++y.sh 1:=by
  rw [<- Rl.sh_eq,<- Rl.sh_eq,show Str.ofString " or "=blk++Str.ofString "or"++blk from by decide +kernel]
  exact txt_mid (shut_ne x.tk_ne) (shut_ne y.tk_ne)
theorem Rl.txt_by (x y:Rl):(Rl.by_ x y).txt=x.sh 1++Str.ofString " by "++y.sh 2:=by
  rw [<- Rl.sh_eq,<- Rl.sh_eq,show Str.ofString " by "=blk++Str.ofString "by"++blk from by decide +kernel]
  exact txt_mid (shut_ne x.tk_ne) (shut_ne y.tk_ne)
theorem Rl.txt_hold (k:Nat) (x:Rl):(Rl.hold k x).txt=mname k++Str.ofString " of "++x.sh 2:=by
  rw [<- Rl.sh_eq,show Str.ofString " of "=blk++Str.ofString "of"++blk from by decide +kernel]
  exact (txt_mid (a:=[mname k]) (by simp) (shut_ne x.tk_ne)).trans (by rw [join_one])
theorem Rl.txt_bead (c:Str):(Rl.bead c).txt=Str.ofString "bead "++c:=by
  unfold Rl.txt
  rw [Rl.tk,join_cons (by simp),join_one,show Str.ofString "bead "=Str.ofString "bead"++blk from by decide +kernel]
theorem Rl.txt_named (c:Str):(Rl.named c).txt=c:=join_one
noncomputable def Rl.wd:Rl->Bool
  | .nothing=>true
  | .bead c=>wdB c
  | .named c=>wdB c
  | .or x y=>x.wd && y.wd
  | .by_ x y=>x.wd && y.wd
  | .hold _ x=>x.wd
noncomputable def Rl.size:Rl->Nat
  | .nothing=>1
  | .bead _=>1
  | .named _=>1
  | .or x y=>x.size + y.size + 1
  | .by_ x y=>x.size + y.size + 1
  | .hold _ x=>x.size + 1
theorem tok_const2:∀ t∈(["nothing","bead","or","by","of","(",")"]:List Str),tokOk t:=by unfold tokOk;decide +kernel
theorem tok_mname (k:Nat):tokOk (mname k):=by
  have key:∀ t∈(["row","bag","choice","ring"]:List Str),tokOk t:=by unfold tokOk;decide +kernel
  match k with
  | 0=>exact key _ (by decide +kernel)
  | 1=>exact key _ (by decide +kernel)
  | 2=>exact key _ (by decide +kernel)
  | k + 3=>exact key (mname 3) (by decide +kernel)
theorem Wd.toks {d n:Nat} {x:Rl} {a:List Str} (h:Wd d n x a):x.wd=true->∀ t∈a,tokOk t:=by
  induction h with
  | nothing=>intro _ t ht;rw [List.mem_singleton.mp ht];exact tok_const2 _ (by decide +kernel)
  | bead =>
    intro hw t ht
    rcases List.mem_cons.mp ht with rfl | ht
    . exact tok_const2 _ (by decide +kernel)
    . rw [List.mem_singleton.mp ht];exact tok_word hw
  | named=>intro hw t ht;rw [List.mem_singleton.mp ht];exact tok_word hw
  | or _ _ h1 h2 =>
    intro hw t ht
    rw [Rl.wd,Bool.and_eq_true] at hw
    rcases List.mem_append.mp ht with ht | ht
    . exact h1 hw.1 t ht
    . rcases List.mem_cons.mp ht with rfl | ht
      . exact tok_const2 _ (by decide +kernel)
      . exact h2 hw.2 t ht
  | by_ _ _ _ h1 h2 =>
    intro hw t ht
    rw [Rl.wd,Bool.and_eq_true] at hw
    rcases List.mem_append.mp ht with ht | ht
    . exact h1 hw.1 t ht
    . rcases List.mem_cons.mp ht with rfl | ht
      . exact tok_const2 _ (by decide +kernel)
      . exact h2 hw.2 t ht
  | hold _ h1 =>
    intro hw t ht
    rcases List.mem_cons.mp ht with rfl | ht
    . exact tok_mname _
    . rcases List.mem_cons.mp ht with rfl | ht
      . exact tok_const2 _ (by decide +kernel)
      . exact h1 (by simpa [Rl.wd] using hw) t ht
  | par _ h1 =>
    intro hw t ht
    rcases List.mem_cons.mp ht with rfl | ht
    . exact tok_const2 _ (by decide +kernel)
    . rcases List.mem_append.mp ht with ht | ht
      . exact h1 hw t ht
      . rw [List.mem_singleton.mp ht];exact tok_const2 _ (by decide +kernel)
theorem Wd.ne {d n:Nat} {x:Rl} {a:List Str} (h:Wd d n x a):a≠[]:=by cases h <;> simp
theorem Wd.split {d n:Nat} {x:Rl} {a:List Str} (h:Wd d n x a) (hw:x.wd=true):Txt.split (Txt.join blk a) blk=a:=split_join h.ne fun t ht=>(h.toks hw t ht).1
end L2
namespace L2
open PySem PySem.Spec PySem.W PyProof.Rows
end L2
namespace L2
open PySem PySem.Spec PySem.W PyProof.Rows
end L2
namespace L2
open PySem PySem.Spec PySem.W PyProof.Rows
end L2
namespace L2
open PySem PySem.Spec PySem.W PyProof.Rows
end L2
namespace L2
open PySem
end L2
namespace L2
open PySem PySem.W
end L2
namespace L2
open PySem
end L2
namespace L2
open PySem PySem.Spec PyProof.Rows
theorem len0 {α:Type} {P:List α->Prop} (h:P []):∀ us:List α,us.length=0->P us:=fun us e=>by
  cases us with
  | nil=>exact h
  | cons a us=>simp at e
theorem len1 {α:Type} {P:List α->Prop} (h:∀ a,P [a]):∀ us:List α,us.length=1->P us:=fun us e=>by
  cases us with
  | nil=>simp at e
  | cons a us=>exact len0 (P:=fun us=>P (a::us)) (h a) us (by simpa using e)
theorem len2 {α:Type} {P:List α->Prop} (h:∀ a b,P [a,b]):∀ us:List α,us.length=2->P us:=fun us e=>by
  cases us with
  | nil=>simp at e
  | cons a us=>exact len1 (P:=fun us=>P (a::us)) (h a) us (by simpa using e)
theorem len3 {α:Type} {P:List α->Prop} (h:∀ a b c,P [a,b,c]):∀ us:List α,us.length=3->P us:=fun us e=>by
  cases us with
  | nil=>simp at e
  | cons a us=>exact len2 (P:=fun us=>P (a::us)) (h a) us (by simpa using e)
end L2
namespace L2
open PySem PySem.Spec PyProof.Rows
noncomputable def csL (l:List Addr) (i:Nat):Addr:=l.getD i 0
structure IsTab (K:PySem.W.Frag) (l:List Addr) (rt:Addr):Prop where
  sp:PySem.W.specialIn K (.builtin "object.__class__") "__get__"=some (some (.builtin "getset_descriptor.__get__"))
  tk:PySem.W.takesIn K (.builtin "object.__class__")=some true
  fi:l.map (fun c=>PySem.W.findIn K (.ref c) "__class__")=l.map fun _=>some (some (.builtin "object.__class__"))
  mr:l.map (fun c=>PySem.W.mroIn K c (.type "object"))=l.map fun _=>some true
  ki:l.map (fun c=>l.map fun d=>PySem.W.kitOne K (.ref c) (.ref d))=(List.range l.length).map fun i=>(List.range l.length).map fun j=>some (i == j)
  kr:l.map (fun c=>PySem.W.kitOne K (.ref c) (.ref rt))=l.map fun _=>some true
theorem map_at {α β:Type} {f g:α->β} {l:List α} (h:l.map f=l.map g) {x:α} (hx:x∈l):f x=g x:=List.map_inj_left.mp h x hx
theorem csL_mem {l:List Addr} {i:Nat} (h:i < l.length):csL l i∈l:=by
  unfold csL
  rw [List.getD_eq_getElem?_getD,List.getElem?_eq_getElem h]
  exact List.getElem_mem h
variable {K:PySem.W.Frag} {l:List Addr} {rt:Addr}
theorem IsTab.isR (h:IsTab K l rt) (hL:∀ c∈l,Cls K c) {i:Nat} (hi:i < 9) (hn:l.length=9:=by rfl):IsC K (csL l i) rt true:=by
  rw [<- hn] at hi
  exact ⟨hL _ (csL_mem hi),map_at h.fi (csL_mem hi),h.sp,h.tk,map_at h.mr (csL_mem hi),map_at h.kr (csL_mem hi)⟩
end L2
namespace L2
open PySem PySem.Spec PyProof.Rows
theorem shut_len (n l:Nat) (ts:List Str):(shut n l ts).length<=ts.length + 2:=by
  unfold shut;split <;> simp
theorem Rl.tk_len:∀ r:Rl,r.tk.length + 2<=4 * r.size
  | .nothing=>by decide
  | .bead _=>by simp [Rl.tk,Rl.size]
  | .named _=>by simp [Rl.tk,Rl.size]
  | .or x y=>by
    have h1:=x.tk_len;have h2:=y.tk_len;have h3:=shut_len 0 x.lvl x.tk;have h4:=shut_len 1 y.lvl y.tk
    simp only [Rl.tk,Rl.size,List.length_append,List.length_cons];lia
  | .by_ x y=>by
    have h1:=x.tk_len;have h2:=y.tk_len;have h3:=shut_len 1 x.lvl x.tk;have h4:=shut_len 2 y.lvl y.tk
    simp only [Rl.tk,Rl.size,List.length_append,List.length_cons];lia
  | .hold _ x=>by
    have h1:=x.tk_len;have h3:=shut_len 2 x.lvl x.tk
    simp only [Rl.tk,Rl.size,List.length_cons];lia
theorem Wd.len {d n:Nat} {x:Rl} {a:List Str} (h:Wd d n x a) (hw:x.wd=true):(Txt.join blk a).length<=a.length * 9:=join_len fun t ht=>(h.toks hw t ht).2
theorem Rl.txt_len (r:Rl) (hw:r.wd=true):r.txt.length + 18<=36 * r.size:=by
  have h1:=(r.wd_tk 0 (Nat.zero_le _)).len hw
  have h2:=r.tk_len
  unfold Rl.txt;lia
theorem par_len (x:Str):(Str.ofString "( "++x++Str.ofString " )").length=x.length + 4:=by
  rw [Str.length_append,Str.length_append,show (Str.ofString "( ").length=2 from by decide +kernel,show (Str.ofString " )").length=2 from by decide +kernel];lia
theorem Rl.sh_len (r:Rl) (n:Nat) (hw:r.wd=true):(r.sh n).length<=36 * r.size:=by
  have h1:=r.txt_len hw
  unfold Rl.sh
  split
  . rw [par_len];lia
  . lia
theorem Rl.sh_yes {r:Rl} {n:Nat} (h:r.lvl < n):Str.ofString "( "++r.txt++Str.ofString " )"=r.sh n:=by unfold Rl.sh;rw [if_pos h]
theorem Rl.sh_no {r:Rl} {n:Nat} (h:¬ r.lvl < n):r.txt=r.sh n:=by unfold Rl.sh;rw [if_neg h]
theorem Rl.dep_pos (r:Rl):1<=r.dep:=by cases r <;> simp only [Rl.dep] <;> lia
end L2
namespace L2
open PySem PySem.Spec PyProof.Rows
noncomputable def Wst (C dx p wa:Addr) (B:AHp) (n:Nat):AHp:=updA B wa (.ins C dx [("words",.ref p),("at",.int n)])
structure Wok (B:AHp) (wa p:Addr) (ts:List Str):Prop where
  no:B wa=none
  ws:B p=some (.lst (ts.map U.str))
  ln:ts.length<=1000
theorem Wok.ext {B B':AHp} {wa p:Addr} {ts:List Str} (h:Wok B wa p ts) (e:Ext B B') (hn:B' wa=none):Wok B' wa p ts:=⟨hn,e _ _ h.ws,h.ln⟩
variable {C dx p wa:Addr} {B:AHp} {ts:List Str} {n:Nat}
theorem Wok.ok (h:Wok B wa p ts) (hn:n<=ts.length):WdOk C (Wst C dx p wa B n) wa p ts n:=⟨⟨dx,updA_same⟩,by unfold Wst;rw [updA_ne (neA h.ws h.no)];exact h.ws,hn⟩
theorem Wst.put {m:Nat}:updA (Wst C dx p wa B n) wa (.ins C dx [("words",.ref p),("at",.int m)])=Wst C dx p wa B m:=updA_updA
theorem Wst.at_:Wst C dx p wa B n wa=some (.ins C dx [("words",.ref p),("at",.int n)]):=updA_same
theorem Wst.new {x:Addr} (h:Wst C dx p wa B n x=none):x≠wa/\B x=none/\∀ o,updA (Wst C dx p wa B n) x o=Wst C dx p wa (updA B x o) n:=by
  have e:x≠wa:=fun e=>by rw [e,Wst.at_] at h;cases h
  refine ⟨e,?_,fun o=>updA_swap (Ne.symm e)⟩
  unfold Wst at h
  rwa [updA_ne e] at h
theorem Wst.mv {x:Addr} {o:AO} (h:x≠wa):updA (Wst C dx p wa B n) x o=Wst C dx p wa (updA B x o) n:=updA_swap (Ne.symm h)
theorem Wst.get {x:Addr} (h:x≠wa):Wst C dx p wa B n x=B x:=updA_ne h
theorem Wst.ext (h:B wa=none):Ext B (Wst C dx p wa B n):=Ext.new h
noncomputable def posA (A:AHp) (wa:Addr):Nat:=match A wa with
  | some (.ins _ _ [_,(_,.int m)])=>m.toNat
  | _=>0
theorem posA_st:posA (Wst C dx p wa B n) wa=n:=by unfold posA;rw [Wst.at_];rfl
noncomputable def asp_passB (C:Addr):ASp:=fun us A Q=>∃ (wa dx p:Addr) (B:AHp) (ts:List Str) (n:Nat) (z:Str),us=[.ref wa,.str z]/\A=Wst C dx p wa B n/\Wok B wa p ts/\n<=ts.length/\(ts[n]?≠some z->Q (.bl false) A)/\(ts[n]? = some z->Q (.bl true) (Wst C dx p wa B (n + 1)))
noncomputable def asp_aheadB (C:Addr) (o:Option Str->U):ASp:=fun us A Q=>∃ (wa dx p:Addr) (B:AHp) (ts:List Str) (n:Nat),us=[.ref wa]/\A=Wst C dx p wa B n/\Wok B wa p ts/\n<=ts.length/\Q (o ts[n]?) A
noncomputable def asp_held (cs:Nat->Addr):ASp:=fun us A Q=>∃ (k:Nat) (a:Addr),us=[.str (mname k),.ref a]/\∀ b dx,A b=none->Q (.ref b) (updA A b (.ins (cs (5 + min k 3)) dx [("part",.ref a)]))
theorem spOf_imp {K:PySem.W.Frag} {asp asp':ASp} (h:∀ us A Q,asp' us A Q->asp us A Q):∀ vs H Q E,spOf K asp' vs H Q E->spOf K asp vs H Q E:=fun vs H Q E ⟨us,A,Q',r,g,a,k⟩=>⟨us,A,Q',r,g,h _ _ _ a,k⟩
theorem wd_not {c z:Str} (h:wdB c=true) (hz:z∈(["nothing","bead","or","by","row","bag","choice","ring","of","left","right","(",")"]:List Str)):c≠z:=by
  rintro rfl
  have key:∀ t∈(["nothing","bead","or","by","row","bag","choice","ring","of","left","right","(",")"]:List Str),wdB t=false:=by decide +kernel
  rw [key _ hz] at h
  cases h
theorem inU_mn (k:Nat):inU (.str (mname k)) [.str "row",.str "bag",.str "choice",.str "ring"]=true:=by
  match k with
  | 0=>decide +kernel
  | 1=>decide +kernel
  | 2=>decide +kernel
  | k + 3=>exact (by decide +kernel:inU (.str (mname 3)) [.str "row",.str "bag",.str "choice",.str "ring"]=true)
theorem nm_w {m:Str} (h:m ∉ (["words","at"]:List Str)) {u v:U}:List.lookup m [(("words":Str),u),(("at":Str),v)]=none:=by
  simp only [List.mem_cons,List.not_mem_nil,or_false,not_or] at h
  simp [List.lookup,beq_eq_false_iff_ne.mpr h.1,beq_eq_false_iff_ne.mpr h.2]
section
variable {z:Str} {Q:AVK}
theorem pass_n (hW:Wok B wa p ts) (hn:n<=ts.length) (hne:ts[n]?≠some z) (h:Q (.bl false) (Wst C dx p wa B n)):∃ a dx' fs,U.ref wa=.ref a/\Wst C dx p wa B n a=some (.ins C dx' fs)/\fs.lookup (Str.ofString "passed")=none/\asp_passB C [.ref wa,.str z] (Wst C dx p wa B n) Q :=
  ⟨wa,dx,_,rfl,Wst.at_,nm_w (by decide +kernel),wa,dx,p,B,ts,n,z,rfl,rfl,hW,hn,fun _=>h,fun h=>absurd h hne⟩
theorem pass_y (hW:Wok B wa p ts) (he:ts[n]? = some z) (h:Q (.bl true) (Wst C dx p wa B (n + 1))):∃ a dx' fs,U.ref wa=.ref a/\Wst C dx p wa B n a=some (.ins C dx' fs)/\fs.lookup (Str.ofString "passed")=none/\asp_passB C [.ref wa,.str z] (Wst C dx p wa B n) Q :=
  ⟨wa,dx,_,rfl,Wst.at_,nm_w (by decide +kernel),wa,dx,p,B,ts,n,z,rfl,rfl,hW,Nat.le_of_lt (List.getElem?_eq_some_iff.mp he).1,fun h=>absurd he h,fun _=>h⟩
theorem ahead_y {o:Option Str->U} {x:Option Str} (hW:Wok B wa p ts) (hn:n<=ts.length) (he:ts[n]? = x) (h:Q (o x) (Wst C dx p wa B n)):∃ a dx' fs,U.ref wa=.ref a/\Wst C dx p wa B n a=some (.ins C dx' fs)/\fs.lookup (Str.ofString "ahead")=none/\asp_aheadB C o [.ref wa] (Wst C dx p wa B n) Q :=
  ⟨wa,dx,_,rfl,Wst.at_,nm_w (by decide +kernel),wa,dx,p,B,ts,n,rfl,rfl,hW,hn,he ▸ h⟩
end
end L2
namespace L2
open PySem PySem.Spec PyProof.Rows
theorem mn_ne (k:Nat) {z:Str} (hz:z∈(["nothing","bead","name","or","by"]:List Str)):mname k≠z:=by
  have key:∀ t∈(["row","bag","choice","ring"]:List Str),∀ z∈(["nothing","bead","name","or","by"]:List Str),t≠z:=by decide +kernel
  refine key _ ?_ _ hz
  match k with
  | 0=>decide +kernel
  | 1=>decide +kernel
  | 2=>decide +kernel
  | k + 3=>exact (by decide +kernel:mname 3∈(["row","bag","choice","ring"]:List Str))
theorem xint_sub0 {b:Bool} {A:AHp} {Q:AVK} (hb:b=false) (h:Q (.int 2) A):xInt [.bl b] A fun y A2=>xI (fun i j=>U.int (i - j)) (.int 2) y A2 Q:=by subst hb;exact h
theorem xint_sub1 {b:Bool} {A:AHp} {Q:AVK} (hb:b=true) (h:Q (.int 1) A):xInt [.bl b] A fun y A2=>xI (fun i j=>U.int (i - j)) (.int 2) y A2 Q:=by subst hb;exact h
noncomputable def asp_binds:ASp:=fun us A Q=>∃ r:Rl,us=[r.toU]/\Q (.int r.lvl) A
noncomputable def asp_lshut (n:Nat):ASp:=fun us A Q=>∃ (r:Rl) (l:Nat),us=[r.toU,.int l]/\r.dep<=n/\r.wd=true/\r.size<=100/\Q (.str (r.sh l)) A
noncomputable def asp_ltext (n:Nat):ASp:=fun us A Q=>∃ r:Rl,us=[r.toU]/\r.dep<=n/\r.wd=true/\r.size<=100/\Q (.str r.txt) A
theorem ltext0:∀ us A Q,¬ asp_ltext 0 us A Q:=fun us A Q hq0=>by obtain ⟨r,_,h,_⟩:=hq0;have:=r.dep_pos;lia
end L2
namespace L2
open PySem PySem.Spec PyProof.Rows
section
variable {K:PySem.W.Frag}
noncomputable def mIdxB:U->List U->AHp->AVK->Prop:=fun u us A Q=>∃ (a:Addr) (bs:List Bool) (z:Bool) (j:Nat),u=.ref a/\A a=some (.lst (bs.map U.bl))/\us=[.bl z]/\bs[j]? = some z/\(∀ m,m < j->bs[m]?≠some z)/\Q (.int j) A
theorem q_idxB {A:AHp} {Q:AVK} {p:Addr} {z:Bool}:mIdxB (.ref p) [.bl z] A Q=(∃ (bs:List Bool) (j:Nat),A p=some (.lst (bs.map U.bl))/\bs[j]? = some z/\(∀ m,m < j->bs[m]?≠some z)/\Q (.int j) A):=propext ⟨fun hq0=>by obtain ⟨_,bs,_,j,e1,h1,e2,h⟩:=hq0;cases e1;cases e2;exact ⟨bs,j,h1,h⟩,fun ⟨bs,j,h1,h⟩=>⟨p,bs,z,j,rfl,h1,rfl,h⟩⟩
end
end L2
namespace L2
open PySem PySem.Spec PyProof.Rows
theorem mn_at {j:Nat} (hj:j<=3):atI [U.str "row",U.str "bag",U.str "choice",U.str "ring"] (j:Int)=some (.str (mname j)):=by
  rcases j with _ | _ | _ | _ | j <;> first | rfl | lia
end L2
namespace L2
open PySem PySem.Spec PyProof.Rows
noncomputable def stU (r:Rl):U:=.tup [r.toU,.int r.size,.int r.dep]
theorem stU_or {x y:Rl}:U.tup [.tup [.str "or",x.toU,y.toU],.int ((x.size:Int) + (y.size:Int) + 1),.int (1 + max (x.dep:Int) (y.dep:Int))]=stU (.or x y):=by
  have h1:((Rl.or x y).size:Int)=(x.size:Int) + (y.size:Int) + 1:=by simp only [Rl.size];lia
  have h2:((Rl.or x y).dep:Int)=1 + max (x.dep:Int) (y.dep:Int):=by simp only [Rl.dep];lia
  unfold stU
  rw [h1,h2]
  rfl
theorem stU_by {x y:Rl}:U.tup [.tup [.str "by",x.toU,y.toU],.int ((x.size:Int) + (y.size:Int) + 1),.int (1 + max (x.dep:Int) (y.dep:Int))]=stU (.by_ x y):=by
  have h1:((Rl.by_ x y).size:Int)=(x.size:Int) + (y.size:Int) + 1:=by simp only [Rl.size];lia
  have h2:((Rl.by_ x y).dep:Int)=1 + max (x.dep:Int) (y.dep:Int):=by simp only [Rl.dep];lia
  unfold stU
  rw [h1,h2]
  rfl
theorem stU_hold {k:Nat} {x:Rl}:U.tup [.tup [.str (mname k),x.toU],.int ((x.size:Int) + 1),.int ((x.dep:Int) + 1)]=stU (.hold k x):=by
  have h1:((Rl.hold k x).size:Int)=(x.size:Int) + 1:=by simp only [Rl.size];lia
  have h2:((Rl.hold k x).dep:Int)=(x.dep:Int) + 1:=by simp only [Rl.dep];lia
  unfold stU
  rw [h1,h2]
  rfl
theorem q_st0 {r:Rl} {A:AHp} {Q:AVK}:xIx (stU r) (.int 0) A Q=Q r.toU A:=propext ⟨fun hq0=>by obtain ⟨_,e,h⟩:=hq0;cases e;exact h,fun h=>⟨_,rfl,h⟩⟩
theorem q_st1 {r:Rl} {A:AHp} {Q:AVK}:xIx (stU r) (.int 1) A Q=Q (.int r.size) A:=propext ⟨fun hq0=>by obtain ⟨_,e,h⟩:=hq0;cases e;exact h,fun h=>⟨_,rfl,h⟩⟩
theorem q_st2 {r:Rl} {A:AHp} {Q:AVK}:xIx (stU r) (.int 2) A Q=Q (.int r.dep) A:=propext ⟨fun hq0=>by obtain ⟨_,e,h⟩:=hq0;cases e;exact h,fun h=>⟨_,rfl,h⟩⟩
theorem last2 {α:Type} {ws:List α} (h:1 < ws.length):∃ ws0 x y,ws=ws0++[x]++[y]:=by
  rcases List.eq_nil_or_concat ws with rfl | ⟨a,b,rfl⟩
  . exact absurd h (by simp)
  . rcases List.eq_nil_or_concat a with rfl | ⟨c,d,rfl⟩
    . exact absurd h (by simp)
    . exact ⟨c,d,b,by simp⟩
theorem last1 {α:Type} {ws:List α} (h:0 < ws.length):∃ ws0 x,ws=ws0++[x]:=by
  rcases List.eq_nil_or_concat ws with rfl | ⟨a,b,rfl⟩
  . exact absurd h (by simp)
  . exact ⟨a,b,by simp⟩
theorem op_at {k:Int} (h:k=6\/k=7) {x y:Rl}:∃ (z:Str) (r:Rl),atI [U.str "or",U.str "by"] (k - 6)=some (.str z)/\U.tup [.tup [.str z,x.toU,y.toU],.int ((x.size:Int) + (y.size:Int) + 1),.int (1 + max (x.dep:Int) (y.dep:Int))]=stU r/\r.wd=(x.wd && y.wd):=by
  rcases h with rfl | rfl
  . exact ⟨_,_,rfl,stU_or,rfl⟩
  . exact ⟨_,_,rfl,stU_by,rfl⟩
theorem mn_atI {k:Int} (h0:0<=k) (h3:k < 4):∃ j:Nat,atI [U.str "row",U.str "bag",U.str "choice",U.str "ring"] k=some (.str (mname j)):=by
  obtain ⟨j,rfl⟩:∃ j:Nat,k=j:=⟨k.toNat,by lia⟩
  exact ⟨j,mn_at (by lia)⟩
theorem upd_ov {A:AHp} {x p:Addr} {o u v:AO} (h:updA A x o p=none):A p=none/\updA (updA (updA A x o) p u) x v=updA (updA A p u) x v/\updA (updA A x o) p u x=some o:=by
  have hne:p≠x:=fun e=>by rw [e,updA_same] at h;cases h
  refine ⟨by rwa [updA_ne hne] at h,?_,by rw [updA_ne (Ne.symm hne),updA_same]⟩
  funext b
  unfold updA
  by_cases e:b=x
  . rw [if_pos e,if_pos e]
  . rw [if_neg e,if_neg e,if_neg e]
noncomputable def wdR (ws:List Rl):Prop:=∀ r∈ws,r.wd=true
noncomputable def totR (ws:List Rl):Nat:=(ws.map Rl.size).sum + ws.length
theorem totR_app (a b:List Rl):totR (a++b)=totR a + totR b:=by unfold totR;simp only [List.map_append,List.sum_append,List.length_append];lia
theorem totR_one (r:Rl):totR [r]=r.size + 1:=by simp [totR]
theorem len_tot (ws:List Rl):ws.length<=totR ws:=by unfold totR;lia
theorem sum_cast (ws:List Rl):(ws.map fun r=>(r.size:Int)).sum=((ws.map Rl.size).sum:Nat):=by
  induction ws with
  | nil=>rfl
  | cons r ws ih=>simp only [List.map_cons,List.sum_cons,ih];lia
noncomputable def asp_total:ASp:=fun us A Q=>∃ (a:Addr) (ws:List Rl),us=[.ref a]/\A a=some (.lst (ws.map stU))/\ws.length<=100/\Q (.int ((totR ws:Int) - 1)) A
noncomputable def asp_op:ASp:=fun us A Q=>∃ (a:Addr) (z:Int) (ws:List Rl),us=[.ref a,.int z]/\A a=some (.lst (ws.map stU))/\wdR ws/\ws.length<=90/\∀ (ws0:List Rl) (r:Rl),ws0 <+: ws->r.wd=true->(ws=[]->r.size=1/\r.dep=1)->Q .non (updA A a (.lst ((ws0++[r]).map stU)))
noncomputable def asp_tree:ASp:=fun us A Q=>∃ (a:Addr) (ns:List Int),us=[.ref a]/\A a=some (.lst (ns.map U.int))/\1<=ns.length/\ns.length<=60/\∀ r:Rl,r.wd=true->r.dep<=30->r.size<=60->Q r.toU A
end L2
namespace L2
open PySem PySem.Spec PyProof.Rows
noncomputable def makesX (K:PySem.W.Frag) (C:Addr):Bool:=match K.lookup C with
  | some ⟨_,_,.cls cd,sl⟩=>!cd.hasDel && (sl.toList[4]?).join == some (.builtin "ValueError.__new__") && !cd.mro.isEmpty && cd.mro.contains (.ref C) && cd.mro.contains (.type "ValueError") && !cd.mro.contains (.type "AttributeError") && !cd.mro.contains (.type "NameError") &&
      PySem.W.specialIn K (.ref C) "__call__" == some (some (.builtin "type.__call__")) && PySem.W.instIn K (.ref C) (.type "type") == some true
  | _=>false
structure MkX (M:Model) (h:Heap) (C:Addr):Prop where
  obj:∃ oc od cd sl,h.get? C=some ⟨oc,od,.cls cd,sl⟩/\cd.hasDel=false/\cd.mro.isEmpty=false
  made:PySem.W.Looks M h (Bind.madeBy (.ref C)) (some "ValueError.__new__")
  base:PySem.W.Looks M h (Bind.staticBase (.ref C)) (.ref C)
  self:PySem.W.Looks M h (isSubtype (.ref C) (.ref C)) true
  up:PySem.W.Looks M h (isSubtype (.ref C) (.type "ValueError")) true
  na:PySem.W.Looks M h (isSubtype (.ref C) (.type "AttributeError")) false
  nn:PySem.W.Looks M h (isSubtype (.ref C) (.type "NameError")) false
  call:PySem.W.Looks M h (specialOf (.ref C) "__call__") (some (.builtin "type.__call__"))
  typ:PySem.W.Looks M h (isInstance (.ref C) (.type "type")) true
theorem mkX_of {K:PySem.W.Frag} {M:Model} {h:Heap} (X:K.In h) {C:Addr} (e:makesX K C=true):MkX M h C:=by
  unfold makesX at e
  split at e
  . rename_i oc od cd sl ho
    simp only [Bool.and_eq_true,Bool.not_eq_true',beq_iff_eq] at e
    obtain ⟨⟨⟨⟨⟨⟨⟨⟨e2,e3⟩,e4⟩,e5⟩,e6⟩,e7⟩,e8⟩,e9⟩,e10⟩:=e
    have hc:PySem.W.clsIn K C=some cd:=by unfold PySem.W.clsIn;rw [ho]
    have hm:PySem.W.Looks M h (mroOf (.ref C)) cd.mro:=(PySem.W.looks_clsIn X hc).andThen .now
    obtain ⟨c,l,hl⟩:∃ c l,cd.mro=c::l:=by
      cases q:cd.mro with
      | nil=>rw [q] at e4;cases e4
      | cons c l=>exact ⟨c,l,rfl⟩
    have made:PySem.W.Looks M h (Bind.madeBy (.ref C)) (some "ValueError.__new__"):=by
      intro A Q E s k q
      unfold Bind.madeBy
      refine wpAny_bind (hm A _ E s k ?_)
      rw [hl,List.forIn_cons]
      refine wpAny_bind (wpAny_bind (wpAny_bind (wpAny_bind (wpAny_loadPart (k _ _ (X _ _ ho)) (wpAny_pure ?_)))))
      dsimp only
      rw [<- Array.getElem?_toList,e3]
      exact wpAny_pure (wpAny_pure (wpAny_pure q))
    have mr:∀ {v:Value} {b:Bool},cd.mro.contains v=b->PySem.W.Looks M h (isSubtype (.ref C) v) b:=fun {v b} eb=>PySem.W.looks_mroIn X (by unfold PySem.W.mroIn;rw [hc,Option.bind_some,if_neg (by rw [e4];decide),eb])
    refine ⟨⟨oc,od,cd,sl,X _ _ ho,e2,e4⟩,made,?_,mr e5,mr e6,mr e7,mr e8,PySem.W.looks_specialIn X e9,PySem.W.looks_instIn X e10⟩
    intro A Q E s k q
    unfold Bind.staticBase
    refine wpAny_bind (hm A _ E s k ?_)
    rw [hl,List.forIn_cons]
    exact wpAny_bind (wpAny_bind (wpAny_bind (made A _ E s k (wpAny_pure (wpAny_pure (wpAny_pure q))))))
  . cases e
theorem x_kind:builtinKind "ValueError.__new__"=some .builtinFn:=by kernel_rfl
theorem x_split:splitId "ValueError.__new__"=some ("ValueError","__new__"):=by kernel_rfl
noncomputable abbrev excO (C t:Addr):Obj:={ cls:=.ref C,data:=.fields #[.ref t,.none,.none,.none,.bool false,.none] }
noncomputable abbrev tupO (vs:List Value):Obj:={ cls:=.type "tuple",data:=.seq vs.toArray }
section
variable {P:Program} {w:World} {A:Around} {C:Addr} {R:Result->Shared->Prop} {h:Heap} {g:Array GenState} {d:Drawn} {t:Nat} {os:OsState}
theorem newX {r:List Value} (Y:MkX (model P w) h C) (hr:r.length<=1000) (hq:R (.ok (.ret (.ref (h.objs.size + 1)))) ⟨(h.push (tupO r)).push (excO C h.objs.size),g,d,t,os⟩) :
    codeAny (model P w) A (.call (.builtin "ValueError.__new__") ⟨.ref C::r,[]⟩) R ⟨h,g,d,t,os⟩:=by
  obtain ⟨⟨oc,od,cd,sl,hC,e2,e4⟩,made,base,self,up,na,nn,call,typ⟩:=Y
  have X:=excClass_ValueError
  refine codeAny_call_builtin_code (Code.quiet_builtin _ (by decide +kernel)) ?_
  simp only [checkBuiltinCall,x_kind,x_split]
  have here:PySem.W.Looks (model P w) h (Bind.madeHere "BaseException.__new__" (.ref C)) ():=base.andThen (made.andThen (PySem.W.Looks.of_pure (by kernel_rfl)))
  repeat (first | simp only [bne_self_eq_false,beq_self_eq_true,if_true,Bool.not_true,Bool.false_eq_true,if_false] | lk)
  refine codeAny_builtin_at X.newEntry ?_
  unfold Builtin.«BaseException.__new__»
  refine PyProof.Rows.wpAt_bind (PyProof.Rows.wpAt_owner rfl X.newEnds (PyProof.Rows.wpAt_of_any ?_))
  dsimp only
  rw [show ("ValueError.__new__".dropRight 8)="ValueError" from by decide +kernel]
  repeat (first | simp only [Bool.not_true,Bool.false_eq_true,if_false] | lk)
  rw [if_neg (by rw [List.size_toArray];exact Nat.not_lt.mpr (Nat.le_trans hr (by decide)))]
  refine wpAny_newObjAsIs_type (wpAny_bind ?_)
  unfold newObj
  dsimp only
  rw [if_neg (by show ¬ (6 > sizeLine + 2);decide)]
  unfold newObjAsIs classHasDel
  have hC2:((h.push (tupO r)).push (excO C h.objs.size)).get? C=some ⟨oc,od,.cls cd,sl⟩:=Heap.get?_push_of_some _ (Heap.get?_push_of_some _ hC)
  refine wpAny_bind (wpAny_alloc (wpAny_bind (wpAny_bind (wpAny_load hC2 (wpAny_pure ?_)))))
  rw [e2]
  refine wpAny_pure (wpAny_pure ?_)
  have hz:(h.push (tupO r)).objs.size=h.objs.size + 1:=Heap.size_push ..
  rw [<- hz] at hq
  exact hq
theorem make_exc {r:List Value} {K:PySem.W.Frag} {f:Addr} (X:K.In h) (hm:makesX K C=true) (hi:PySem.W.findIn K (.ref C) "__init__"=some (some (.ref f))) (hf:PySem.W.typeIn K (.ref f)=some (.type "function")) (hr:r.length<=1000)
    (hq:codeAny (model P w) (A.under (.builtin "type.__call__" ⟨.ref C::r,[]⟩)) (.call (.ref f) ⟨.ref (h.objs.size + 1)::r,[]⟩) (PySem.W.InitBack (h.objs.size + 1) R) ⟨(h.push (tupO r)).push (excO C h.objs.size),g,d,t,os⟩) :
    codeAny (model P w) A (.call (.ref C) ⟨r,[]⟩) R ⟨h,g,d,t,os⟩:=by
  have Y:MkX (model P w) h C:=mkX_of X hm
  have hi':=PySem.W.looks_findIn (M:=model P w) X hi
  have hb:=fun self=>PySem.W.bind_fn (M:=model P w) X self hf
  have Y':=Y
  obtain ⟨⟨oc,od,cd,sl,hC,e2,e4⟩,made,base,self,up,na,nn,call,typ⟩:=Y
  refine codeAny_of_tree ?_
  show wpAny _ _ (callAny (.ref C) _) _ _ _
  refine PySem.W.nd_load hC ?_
  show wpAny _ _ (callAny.viaDunder (.ref C) _) _ _ _
  unfold callAny.viaDunder
  refine wpAny_bind (call.at ?_)
  dsimp only
  rw [PySem.tc_bind]
  refine wpAny_bind (wpAny_pure (wpAny_bind (wpAny_pure ?_)))
  refine wpAny_pure (a:=Fin.again (.call (.builtin "type.__call__") ⟨.ref C::r,[]⟩)) (And.intro rfl ?_)
  refine codeAny_call_builtin_at (Code.quiet_builtin _ (by decide +kernel)) PySem.entry_typeCall (PySem.W.check_slot PySem.tc_kind PySem.tc_split typ (PySem.W.tc_args _ _ _) ?_)
  unfold Builtin.«type.__call__»
  have hmr:PySem.W.Looks (model P w) h (mroOf (.ref C)) cd.mro:=((PySem.W.Looks.ld (part:=none) hC).andThen .now).andThen .now
  repeat (first | simp only [e4,Bool.false_eq_true,if_false] | with_reducible refine wpAny_call ?_ | lk)
  refine newX Y' hr ?_
  have kp:∀ b o,h.get? b=some o->((h.push (tupO r)).push (excO C h.objs.size)).get? b=some o:=fun b o e=>Heap.get?_push_of_some _ (Heap.get?_push_of_some _ e)
  have hx:((h.push (tupO r)).push (excO C h.objs.size)).get? (h.objs.size + 1)=some (excO C h.objs.size):=by
    have:=Heap.get?_push_size (h.push (tupO r)) (o:=excO C h.objs.size) rfl
    rwa [Heap.size_push] at this
  have t1:PySem.W.Looks (model P w) ((h.push (tupO r)).push (excO C h.objs.size)) (typeOf (.ref (h.objs.size + 1))) (.ref C):=(PySem.W.Looks.ld hx).andThen .now
  have s1:=self.keeps kp
  have i1:=hi'.keeps kp
  have b1:=(hb (.ref (h.objs.size + 1))).keeps kp
  unfold isInstance callSpecial? specialOf
  repeat (first | with_reducible refine wpAny_call ?_ | lk)
  refine codeAny_mono hq fun r s' z=>?_
  rcases r with e | (v | _ | _ | _) <;> first | exact z | exact z.elim | skip
  obtain ⟨rfl,z⟩:=z
  exact wpAny_pure (wpAny_pure z)
end
end L2
set_option maxHeartbeats 4000000
namespace L2
open PySem PySem.Spec PyProof.Rows
section
variable {P:Program} {w:World} {A:Around} {E:Value->Shared->Prop} {s:Shared} {C e t0:Addr} {ob:Obj} {vs:Array Value} {Q:Value->Shared->Prop}
theorem init_own {v:Value} {oc:Value} {od:Option Addr} {cd:ClassData} {sl:Array (Option Value)} (hC:s.heap.get? C=some ⟨oc,od,.cls cd,sl⟩) (up:PySem.W.Looks (model P w) s.heap (isSubtype (.ref C) (.type "ValueError")) true) (he:s.heap.get? e=some ob) (hc:ob.cls=.ref C) (hd:ob.data=.fields vs) (h0:vs[0]? = some (.ref t0))
    (k:Q .none { s with heap:=(s.heap.push (tupO [v])).update e (Obj.mapFields (·.setIfInBounds 0 (.ref s.heap.objs.size))) }):wpAny (model P w) A (call (.builtin "ValueError.__init__") [.ref e,v]) Q E s:=by
  have X:=excClass_ValueError
  have t1:PySem.W.Looks (model P w) s.heap (typeOf (.ref e)) (.ref C):=by
    have:=(PySem.W.Looks.ld (M:=model P w) (part:=none) he)
    exact this.andThen (by rw [hc];exact .now)
  have t2:PySem.W.Looks (model P w) s.heap (isInstance (.ref e) (.type "ValueError")) true:=t1.andThen up
  refine wpAny_call (codeAny_call_builtin X.init.plain X.initEntry ?_)
  simp only [checkBuiltinCall,X.initKind,X.initSplit,X.initSig]
  refine wpAny_bind (t2.here ?_)
  simp only [Bool.not_true,Bool.false_eq_true,if_false]
  unfold Bind.checkArgs
  dsimp only
  unfold Bind.printed Bind.receiverType
  rw [if_neg (by decide)]
  have tn:PySem.W.Looks (model P w) s.heap (typeNameWhole (.ref C)) cd.name.toString:=((PySem.W.Looks.ld (part:=none) hC).andThen .now).andThen .now
  refine wpAny_bind ?_
  show wpAny _ _ (typeOf (.ref e) >>= fun x=>typeNameWhole x >>= fun tp=>pure tp) _ _ _
  refine wpAny_bind (t1.here (wpAny_bind (tn.here (wpAny_pure ?_))))
  rw [if_pos (by decide)]
  refine wpAny_bind (wpAny_pure ?_)
  show wpAny _ _ (Sem.onRaise (Bind.check _ _ _ _ []) _) _ _ _
  rw [check_varPos]
  refine wpAny_pure ?_
  unfold Builtin.«BaseException.__init__»
  dsimp only
  rw [if_neg (by simp)]
  unfold newTuple Builtin.BaseException.bexcPut
  have hz:0 < vs.size:=(Array.getElem?_eq_some_iff.mp h0).1
  have he1:=Heap.get?_push_of_some (h:=s.heap) (tupO [v]) he
  refine wpAny_bind (wpAny_newObj_type (wpAny_bind (wpAny_bind (wpAny_field he1 hd h0 (wpAny_bind (wpAny_setField he1 hd hz ?_))))) (by show 1<=sizeLine;decide))
  exact wpAny_letGo (wpAny_pure k)
end
end L2
namespace L2
open PySem PySem.Spec PyProof.Rows
noncomputable def tFmtI (te:TE):TE:=fun σ H Q=>te σ H fun v H1=>∃ n:Int,v=.int n/\n.natAbs.log2 < 1920/\∀ z:Str,z.length<=4000->Q (.str z) H1
theorem pe_fmtI {X:Cx} {e:Expr} {te:TE} {pos:Pos} (he:PE X e te):PE X (.FormattedValue e (-1) none pos) (tFmtI te):=by
  intro pins s σ H Q I h
  refine FormattedValue_plain (thn (he pins s σ H _ I h) fun u s1 h_q=>?_)
  obtain ⟨v,H1,I1,rv,n,ev,hn,q⟩:=h_q
  subst ev
  obtain ⟨tk,rfl⟩:=rv
  refine wpAny_formatField_int hn ⟨.str (toString n),H1,I1.tok _,⟨_,rfl⟩,q _ ?_⟩
  have e:=int_text_length_le (k:=1920) (by decide) hn
  rw [PySem.ofString_length];lia
end L2
namespace L2
open PySem PySem.Spec PyProof.Rows
section
variable {M:Model} {A:Around} {E:Value->Shared->Prop} {s:Shared} {env:Env}
noncomputable def RsOwn (M:Model) (E:Value->Shared->Prop) (v:Value) (s1:Shared):Prop :=
  ∃ (a C:Addr) (ob:Obj) (vs:Array Value),v=.ref a/\s1.heap.get? a=some ob/\ob.cls=.ref C/\ob.data=.fields vs/\vs[1]? = some .none/\PySem.W.Looks M s1.heap (isSubtype (.ref C) (.type "BaseException")) true/\PySem.W.Looks M s1.heap (typeOf (.ref C)) (.type "type")/\E (.ref a) s1
theorem raise_own {e : Expr} {pos:Pos} {Q:Flow->Shared->Prop} (hh:A.handled=none) (h:wpAny M A (eval e env) (RsOwn M E) E s):wpAny M A (exec (.Raise (some e) none pos) env) Q E s:=by
  show wpAny M A (do standAt pos
                     raiseStmt env (some (do let v <- eval e env;standAt pos;pure v)) none) Q E s
  refine wpAny_bind (wpAny_standAt ?_)
  unfold raiseStmt
  dsimp only
  refine wpAny_bind (wpAny_bind (wpAny_mono h (fun v s1 q=>wpAny_bind (wpAny_standAt (wpAny_pure ?_))) fun _ _ z=>z))
  obtain ⟨a,C,ob,vs,rfl,ha,hc,hd,h1,up,ty,hE⟩:=q
  have t1:PySem.W.Looks M s1.heap (typeOf (.ref a)) (.ref C):=by
    have:=PySem.W.Looks.ld (M:=M) (part:=none) ha
    exact this.andThen (by rw [hc];exact .now)
  have t2:PySem.W.Looks M s1.heap (isInstance (.ref a) (.type "BaseException")) true:=t1.andThen up
  have nt:∀ {Q':Bool->Shared->Prop},Q' false s1->wpAny M A (isType (.ref a)) Q' E s1:=fun {Q'} z=>by
    simp only [isType,loadHead]
    refine wpAny_bind (wpAny_loadPart ha ?_)
    rw [hd]
    exact wpAny_pure z
  refine wpAny_bind (wpAny_pure ?_)
  dsimp only
  refine wpAny_bind (wpAny_holding ?_)
  unfold excFromValue isExcClass
  refine wpAny_bind (wpAny_bind (nt ?_))
  simp only [Bool.false_eq_true,if_false]
  refine wpAny_pure ?_
  simp only [Bool.false_eq_true,if_false]
  refine wpAny_bind (t2.here ?_)
  simp only [if_true]
  refine wpAny_pure (wpAny_bind (nt ?_))
  simp only [Bool.false_eq_true,if_false]
  unfold raisedInstance
  refine wpAny_bind (wpAny_bind (t1.here (wpAny_bind (ty.here ?_))))
  rw [if_pos (by decide)]
  refine wpAny_pure ?_
  unfold setFlight raiseNew
  refine wpAny_bind (wpAny_bind (wpAny_field ha hd h1 ?_))
  rw [if_neg (by decide)]
  refine wpAny_pure (wpAny_bind (wpAny_handled ?_))
  rw [hh]
  first
    | exact wpAny_throw hE
    | exact wpAny_bind (wpAny_pure (wpAny_throw hE))
end
end L2
namespace L2
open PySem PySem.Spec PyProof.Rows
theorem dict_mapF {f:Array Value->Array Value} {o:Obj}:(Obj.mapFields f o).dict=o.dict:=by
  obtain ⟨c,d,dt,sl⟩:=o
  cases dt <;> rfl
structure Lft (fs:List Addr) (h h':Heap) (e:Addr) (oe:Obj) (vs:Array Value) (T:Addr) (r:Value):Prop where
  oth:∀ b o,b≠e->b ∉ fs->(∀ T0,vs[1]? = some (.ref T0)->b≠T0)->h.get? b=some o->h'.get? b=some o
  frm:∀ b o,b≠e->(∀ T0,vs[1]? = some (.ref T0)->b≠T0)->h.get? b=some o->∃ sl,h'.get? b=some { o with slots:=sl }
  exc:∃ oe' vs',h'.get? e=some oe'/\oe'.cls=oe.cls/\oe'.dict=oe.dict/\oe'.data=.fields vs'/\vs'[1]? = some (.ref T)
  tb:T≠e/\(h.objs.size<=T\/vs[1]? = some (.ref T))/\∃ oT ts,h'.get? T=some oT/\oT.data=.fields ts/\ts[3]? = some r
  old:∀ T0,vs[1]? = some (.ref T0)->T0≠e->(∃ o,h.get? T0=some o)->∃ o,h'.get? T0=some o
section
variable {M:Model} {A:Around} {E:Value->Shared->Prop} {s:Shared} {B:Heap} {env:Env} {outer:List Env} {L e:Addr} {oe:Obj} {vs:Array Value}
theorem entry_own {head:Value} {had:Bool} {Q:Unit->Shared->Prop} (hfr:A.frames=some (env::outer)) (hl:s.heap.FunFrames B (env::outer)) (hf:env.frame=some L) (he:s.heap.get? e=some oe) (hd:oe.data=.fields vs) (hz:1 < vs.size)
    (k:∀ h' T,Lft ((env::outer).filterMap (·.frame)) s.heap h' e oe vs T (rawInt L)->Q () { s with heap:=h' }) :
    wpAny M A (do let a <- frameOf env
                  let pl <- entryPlaceOf L had
                  let b <- EntryCells.newEntry head a .none (rawInt L) .none pl
                  setField (.ref e) 1 b) Q E s:=by
  have hne:e ∉ (env::outer).filterMap (·.frame):=fun hm=>by
    obtain ⟨_,o,ho,hnf⟩:=hl.mem hm
    rw [he] at ho
    cases ho
    exact hnf vs hd
  refine wpAny_bind (wpAny_frameOf_fun hfr hl hf fun h1 hs1=>?_)
  refine wpAny_bind (wpAny_entryPlaceOf fun pl hpl=>?_)
  unfold EntryCells.newEntry newFields
  refine wpAny_bind (wpAny_newObj_type ?_ (hpl.sizeOk5 _ _ _ _ _))
  have he1:h1.get? e=some oe:=(hs1.2.1 e hne).trans he
  generalize hO:({ cls:=.type "traceback",dict:=none,data:=.fields ([head,.ref L,.none,rawInt L,.none]++(if pl.isEmpty then List.replicate 6 Value.none else pl)).toArray }:Obj)=oT
  have hOd:oT.data=.fields ([head,.ref L,.none,rawInt L,.none]++(if pl.isEmpty then List.replicate 6 Value.none else pl)).toArray:=by rw [<- hO]
  have he2:=Heap.get?_push_of_some (h:=h1) oT he1
  refine wpAny_setField he2 hd hz (k _ h1.objs.size ?_)
  have hTe:h1.objs.size≠e:=Nat.ne_of_gt (Heap.lt_size he1)
  have d3:=Obj.data_mapFields hd (·.setIfInBounds 1 (Value.ref h1.objs.size))
  have g3:=Heap.get?_update_self (Obj.mapFields (·.setIfInBounds 1 (Value.ref h1.objs.size))) he2 (Obj.isFreed_of_fields d3)
  have hfr0:oT.isFreed=false:=by rw [<- hO];rfl
  have t3:=(Heap.get?_update_other (h1.push oT) (Obj.mapFields (·.setIfInBounds 1 (Value.ref h1.objs.size))) (Ne.symm hTe)).trans (Heap.get?_push_size h1 hfr0)
  have keep:∀ b o,b≠e->h1.get? b=some o->((h1.push oT).update e (Obj.mapFields (·.setIfInBounds 1 (Value.ref h1.objs.size)))).get? b=some o:=fun b o hbe hb=>by
    rw [Heap.get?_update_other _ _ (Ne.symm hbe)]
    exact Heap.get?_push_of_some _ hb
  refine ⟨fun b o hbe hbf _ hb=>keep b o hbe ((hs1.2.1 b hbf).trans hb),fun b o hbe _ hb=>?_,⟨_,_,g3,Obj.cls_mapFields _ _,dict_mapF,d3,by simp [hz]⟩,⟨hTe,.inl (Nat.le_of_eq (by first | exact hs1.1.symm | exact hs1.1)),⟨_,_,t3,hOd,by simp⟩⟩,fun T0 _ hne0 ⟨o,ho⟩=>?_⟩
  . obtain ⟨sl,hs⟩:=hs1.2.2 b o hb
    exact ⟨sl,keep b _ hbe hs⟩
  . obtain ⟨sl,hs⟩:=hs1.2.2 T0 o ho
    exact ⟨_,keep T0 _ hne0 hs⟩
theorem note_any {Q:Unit->Shared->Prop} (hfr:A.frames=some (env::outer)) (hl:s.heap.FunFrames B (env::outer)) (hf:env.frame=some L) (he:s.heap.get? e=some oe) (hd:oe.data=.fields vs)
    (h1:vs[1]? = some .none\/∃ T oT ts v,vs[1]? = some (.ref T)/\T≠e/\s.heap.get? T=some oT/\oT.data=.fields ts/\ts[3]? = some v/\(v=.none\/v=rawInt L))
    (k:∀ h' T,Lft ((env::outer).filterMap (·.frame)) s.heap h' e oe vs T (rawInt L)->Q () { s with heap:=h' }):wpAny M A (noteFrame (.ref e) env) Q E s:=by
  unfold noteFrame
  simp only [hf]
  rcases h1 with h1 | ⟨T,oT,ts,v,h1,hTe,hT,hdT,h3,hv⟩
  . refine wpAny_bind (wpAny_field he hd h1 ?_)
    rw [if_neg (by decide)]
    exact entry_own hfr hl hf he hd (Array.getElem?_eq_some_iff.mp h1).1 k
  . refine wpAny_bind (wpAny_field he hd h1 ?_)
    rw [if_pos (show (Value.ref T != Value.none)=true from by simp)]
    refine wpAny_bind (wpAny_field hT hdT h3 ?_)
    rcases hv with rfl | rfl
    . rw [if_neg (show ¬ ((Value.none == rawInt L)=true) from by simp [rawInt])]
      refine wpAny_bind (wpAny_setField hT hdT (Array.getElem?_eq_some_iff.mp h3).1 ?_)
      have oth:∀ b,b≠T->(s.heap.update T (Obj.mapFields (·.setIfInBounds 3 Value.none))).get? b=s.heap.get? b:=fun b hb=>Heap.get?_update_other _ _ (Ne.symm hb)
      have nr:∀ b o,s.heap.get? b=some o->(∀ us,o.data≠.fields us)->b≠T:=fun b o hb hnf q=>by
        rw [q,hT] at hb
        cases hb
        exact hnf ts hdT
      refine entry_own (s:={ s with heap:=s.heap.update T (Obj.mapFields (·.setIfInBounds 3 Value.none)) }) hfr (hl.of_keeps fun b o hb hnf=>⟨o,(oth b (nr b o hb hnf)).trans hb,rfl⟩) hf ((oth e (Ne.symm hTe)).trans he) hd (Array.getElem?_eq_some_iff.mp h1).1 fun h' T' q=>k h' T' ?_
      refine ⟨fun b o x1 x2 x3 x4=>q.oth b o x1 x2 x3 ((oth b (x3 T h1)).trans x4),fun b o x1 x3 x4=>q.frm b o x1 x3 ((oth b (x3 T h1)).trans x4),q.exc,⟨q.tb.1,?_,q.tb.2.2⟩,fun T0 g0 g1 _=>q.old T0 g0 g1 ?_⟩
      . have:=q.tb.2.1
        rwa [Heap.size_update] at this
      . rw [h1] at g0
        cases g0
        exact ⟨_,Heap.get?_update_self _ hT (Obj.isFreed_of_fields (Obj.data_mapFields hdT _))⟩
    . rw [if_pos (show (rawInt L == rawInt L)=true from by simp)]
      exact wpAny_pure (k s.heap T ⟨fun _ _ _ _ _ z=>z,fun b o _ _ z=>⟨o.slots,z⟩,⟨oe,vs,he,rfl,rfl,hd,h1⟩,⟨hTe,.inr h1,oT,ts,hT,hdT,h3⟩,fun _ _ _ z=>z⟩)
theorem flight_any {Q:Unit->Shared->Prop} {fr:Option Addr} {T:Addr} {oT:Obj} {ts:Array Value} {fs:List Addr} {v:Value} (he:s.heap.get? e=some oe) (hd:oe.data=.fields vs) (h1:vs[1]? = some (.ref T)) (hTe:T≠e) (hT:s.heap.get? T=some oT) (hdT:oT.data=.fields ts) (h3:ts[3]? = some v)
    (k:∀ h',Lft fs s.heap h' e oe vs T (fr.elim .none fun f=>rawInt f)->Q () { s with heap:=h' }):wpAny M A (setFlight (.ref e) fr) Q E s:=by
  unfold setFlight
  refine wpAny_bind (wpAny_field he hd h1 ?_)
  rw [if_pos (show (Value.ref T != Value.none)=true from by simp)]
  have hz:=(Array.getElem?_eq_some_iff.mp h3).1
  refine wpAny_setField hT hdT hz (k _ ?_)
  have d3:=Obj.data_mapFields hdT (·.setIfInBounds 3 (fr.elim Value.none fun f=>rawInt f))
  have g3:=Heap.get?_update_self (Obj.mapFields (·.setIfInBounds 3 (fr.elim Value.none fun f=>rawInt f))) hT (Obj.isFreed_of_fields d3)
  have oth:∀ b o,(∀ T0,vs[1]? = some (.ref T0)->b≠T0)->s.heap.get? b=some o->(s.heap.update T (Obj.mapFields (·.setIfInBounds 3 (fr.elim Value.none fun f=>rawInt f)))).get? b=some o:=fun b o hb hbo=>(Heap.get?_update_other _ _ (Ne.symm (hb T h1))).trans hbo
  refine ⟨fun b o _ _ x z=>oth b o x z,fun b o _ x z=>⟨o.slots,oth b o x z⟩,⟨oe,vs,(Heap.get?_update_other _ _ hTe).trans he,rfl,rfl,hd,h1⟩,⟨hTe,.inr h1,_,_,g3,d3,by simp [hz]⟩,fun T0 g0 _ _=>?_⟩
  rw [h1] at g0
  cases g0
  exact ⟨_,g3⟩
end
end L2
namespace L2
open PySem PySem.Spec PyProof.Rows
structure Catch (M:Model) (h:Heap) (C D:Addr) (b:Bool):Prop where
  nt:PySem.W.Looks M h (isInstance (.ref D) (.type "tuple")) false
  ty:PySem.W.Looks M h (isType (.ref D)) true
  ex:PySem.W.Looks M h (isSubtype (.ref D) (.type "BaseException")) true
  sb:PySem.W.Looks M h (isSubtype (.ref C) (.ref D)) b
section
variable {M:Model} {A:Around} {E:Value->Shared->Prop} {s:Shared} {env:Env} {e C D:Addr} {ob:Obj} {b:Bool}
theorem match_own {Q:Bool->Shared->Prop} (he:s.heap.get? e=some ob) (hc:ob.cls=.ref C) (c:Catch M s.heap C D b) (k:Q b s):wpAny M A (excMatches (.ref e) (.ref D)) Q E s:=by
  have t1:PySem.W.Looks M s.heap (typeOf (.ref e)) (.ref C):=by
    have:=PySem.W.Looks.ld (M:=M) (part:=none) he
    exact this.andThen (by rw [hc];exact .now)
  unfold excMatches
  refine wpAny_bind (c.nt.here ?_)
  simp only [Bool.false_eq_true,if_false]
  refine wpAny_bind (wpAny_pure ?_)
  have hx:PySem.W.Looks M s.heap (isExcClass (.ref D)) true:=by
    unfold isExcClass
    exact c.ty.andThen c.ex
  refine wpAny_bind ?_
  rw [List.forIn_cons]
  refine wpAny_bind (wpAny_bind (hx.here ?_))
  rw [if_neg (by decide)]
  refine wpAny_pure ?_
  dsimp only
  rw [List.forIn_nil]
  refine wpAny_pure (wpAny_bind (t1.here (wpAny_bind ?_)))
  rw [List.forIn_cons]
  refine wpAny_bind (wpAny_bind (c.sb.here ?_))
  cases b with
  | true =>
    rw [if_pos rfl]
    exact wpAny_pure (wpAny_pure (wpAny_pure k))
  | false =>
    rw [if_neg (by decide)]
    refine wpAny_pure ?_
    dsimp only
    rw [List.forIn_nil]
    exact wpAny_pure (wpAny_pure k)
end
section
variable {P:Program} {w:World} {A:Around} {E:Value->Shared->Prop} {s:Shared} {env:Env} {e C D:Addr} {ob:Obj} {b:Bool} {t:Expr} {b0:Stmt} {su:List Stmt} {pos:Pos} {rest:List ExceptHandler} {Q:Flow->Shared->Prop}
theorem handle_as {n:Str} (h:wpAny (model P w) (A.mark (some (.ref e))) (eval t env) (fun c s1=>c=.ref D/\(∃ ob,s1.heap.get? e=some ob/\ob.cls=.ref C)/\Catch (model P w) s1.heap C D true /\
      wpAny (model P w) (A.mark (some (.ref e))) (setFlight (.ref e) none) (fun _ s2=>wpAny (model P w) (A.mark (some (.ref e))) (storeName env n (.ref e)) (fun _ s3=>wpAny (model P w) (A.mark (some (.ref e))) (execs (b0::su) env)
        (fun f s4=>wpAny (model P w) A (do bindName env n .none;unbindBehindTheSuite env n pos) (fun _ s5=>Q f s5) E s4) (fun _ _=>False) s3) (fun _ _=>False) s2) (fun _ _=>False) s1) (fun _ _=>False) s) :
    wpAny (model P w) A (handleBy (.ref e) env (.ExceptHandler (some t) (some n) (b0::su) pos::rest)) Q E s:=by
  refine wpAny_handleBy_cons (codeAny_handlers_test (wpAny_mono h (fun c s1 q=>?_) fun _ _ x=>x.elim)) (by intro q;cases q)
  obtain ⟨rfl,⟨ob,he,hc⟩,hx,hk⟩:=q
  refine match_own he hc hx ?_
  exact codeAny_handlers_suite_as (wpAny_mono hk (fun _ s2 h2=>wpAny_mono h2 (fun _ s3 h3=>wpAny_mono h3 (fun f s4 h4=>h4) fun _ _ z=>z.elim) fun _ _ z=>z.elim) fun _ _ z=>z.elim)
end
end L2
namespace L2
open PySem PySem.Spec PyProof.Rows
noncomputable def rmH (H:Hp) (a:Addr):Hp:=fun b=>if b=a then none else H b
theorem rmH_same {H:Hp} {a:Addr}:rmH H a a=none:=if_pos rfl
theorem rmH_ne {H:Hp} {a b:Addr} (h:b≠a):rmH H a b=H b:=if_neg h
theorem rmH_no {H:Hp} {a b:Addr} (h:H b=none):rmH H a b=none:=by
  by_cases e:b=a
  . rw [e];exact rmH_same
  . rw [rmH_ne e];exact h
section
variable {X:Cx} {pins:List (Addr × Obj)} {σ:St} {H:Hp} {s:Shared} {a:Addr} {φ:Heap->Prop}
theorem Inv.forget (I:Inv X pins σ H s) (h:H a=some (.ext φ)):Inv X pins σ (rmH H a) s:=by
  have kp:∀ b o,H b=some o->(∀ ψ,o≠.ext ψ)->rmH H a b=some o:=fun b o hb hn=>by
    rw [rmH_ne fun e=>by rw [e,h] at hb;cases hb;exact hn φ rfl]
    exact hb
  have u:=I.base
  refine ⟨I.ok,I.os,I.bare,⟨u.keep,u.slot,fun b o x y z=>rmH_no (u.free b o x y z),u.there,fun b xs z=>kp b _ (u.tups b xs z) (fun _ e=>nomatch e),fun b o v z=>kp b _ (u.frzs b o v z) (fun _ e=>nomatch e),fun b ps z=>?_⟩,I.loc,I.cell,rmH_no I.free,fun x c z=>rmH_no (I.freeC x c z),fun p hp=>?_,fun c v hc=>?_,I.len⟩
  . obtain ⟨m,y⟩:=u.tbls b ps z
    exact ⟨m,kp b _ y (fun _ e=>nomatch e)⟩
  . obtain ⟨p1,p2,p3⟩:=I.pin p hp
    exact ⟨p1,rmH_no p2,p3⟩
  . have hca:c≠a:=fun e=>by rw [e,rmH_same] at hc;cases hc
    rw [rmH_ne hca] at hc
    exact (I.hok c v hc).stay (fun _ _ _ z=>z) (fun b z=>kp b _ z (fun _ e=>nomatch e)) fun b xs z=>kp b _ z (fun _ e=>nomatch e)
end
end L2
namespace L2
open PySem PySem.Spec PyProof.Rows Builtin Builtin.ObjectAttr
noncomputable def xbm:List Value:=[.type "ValueError",.type "Exception",.type "BaseException",.type "object"]
noncomputable def isRf:Value->Bool
  | .ref _=>true
  | _=>false
noncomputable def overX (K:PySem.W.Frag) (C:Addr):Bool:=(PySem.W.clsIn K C).any fun cd=>cd.mro.contains (.type "object") && cd.mro.dropWhile isRf == xbm
theorem refuseX (self:Value) (l:List Value) (h:l.dropWhile isRf=xbm):refuseLoop self "__setattr__" l=pure ():=by
  induction l with
  | nil=>cases h
  | cons a l ih =>
    cases a with
    | ref C =>
      rw [refuseLoop_ref]
      exact ih h
    | _ =>
      rw [show _::l=xbm from h]
      exact PySem.F.store_ValueError.passes self
section
variable {prog:Program} {w:World} {K:PySem.W.Frag} {A:Around} {E:Value->Shared->Prop} {s:Shared} {x C:Addr} {ox:Obj} {vs:Array Value} {name:Str} {v:Value} {R:Result->Shared->Prop}
theorem osaX_open {tk:Tok} {od:Option Obj} (X:K.In s.heap) (I:PySem.W.InstAt s.heap x ox C od) (hp:overX K C=true) (ht:PySem.W.takerIn K C name=some none)
    (h : ∀ b,wpAny (model prog w) A.in1 (storeInOwnDict (.ref x) (.ref C) (.str name tk) name v b)
      (fun fin s'=>match fin with | .done f=>R (.ok f) s' | .again c'=>c'.quiet=true/\codeAny (model prog w) A c' R s') (fun e s'=>R (.error e) s') s) :
    codeAny (model prog w) A (.call (.builtin "object.__setattr__") ⟨[.ref x,.str name tk,v],[]⟩) R s:=by
  have SF:=PySem.F.store_ValueError
  obtain ⟨cd,hc,ho⟩:=PySem.W.any_some hp
  rw [Bool.and_eq_true] at ho
  have ho2:cd.mro.dropWhile isRf=xbm:=by simpa using ho.2
  have ne:cd.mro.isEmpty=false:=by cases q:cd.mro with | nil=>rw [q] at ho2;cases ho2 | cons _ _=>rfl
  have sub:PySem.W.Looks (model prog w) s.heap (isInstance (.ref x) (.type "object")) true:=I.type.andThen (PySem.W.looks_mroIn X (by unfold PySem.W.mroIn;rw [hc,Option.bind_some,if_neg (by rw [ne];decide),ho.1]))
  refine codeAny_call_builtin SF.slot.plain SF.entry (@PySem.W.check_slot (model prog w) _ _ s "object.__setattr__" "object" "__setattr__" (.ref x) [.str name tk,v] [] _ SF.kind SF.split sub (SF.args (.ref x) (.str name tk) v) ?_)
  obtain ⟨attr,ha,hr⟩:=Option.bind_eq_some_iff.mp ht
  have hm:PySem.W.Looks (model prog w) s.heap (mroOf (.ref C)) cd.mro:=(PySem.W.looks_clsIn X hc).andThen .now
  have L3:PySem.W.Looks (model prog w) s.heap (storeTaker? attr) none:=by
    cases attr with
    | none=>exact .now
    | some a =>
      obtain ⟨b,hb,hb2⟩:=Option.map_eq_some_iff.mp hr
      refine (PySem.W.looks_takesIn X hb).andThen ?_
      cases b
      . exact .now
      . cases hb2
  rw [PySem.W.osa_eq,refuse_eq]
  refine wpAny_bind (wpAny_bind (I.type.here (wpAny_bind (hm.here ?_))))
  rw [refuseX _ _ ho2]
  refine wpAny_pure (wpAny_bind (I.type.here (wpAny_bind ((PySem.W.looks_findIn X ha).here (wpAny_bind (L3.here ?_))))))
  exact h _
theorem setX_none {Q:Unit->Shared->Prop} (X:K.In s.heap) (hx:s.heap.get? x=some ox) (hcl:ox.cls=.ref C) (hdn:ox.dict=none) (hd:ox.data=.fields vs)
    (hs:PySem.W.findIn K (.ref C) "__setattr__"=some (some (.builtin "object.__setattr__"))) (hp:overX K C=true) (ht:PySem.W.takerIn K C name=some none) (hh:PySem.W.hasDictIn K C=true)
    (h:∀ h',h'.get? x=some { ox with dict:=some s.heap.objs.size }->h'.Ns1 s.heap.objs.size (fun y=>if y=name then some v else none)->(∀ b o,b≠x->s.heap.get? b=some o->h'.get? b=some o)->Q () { s with heap:=h',toks:=s.toks + 2 }) :
    wpAny (model prog w) A (setAttr (.ref x) name v) Q E s:=by
  obtain ⟨oc,odi,oda,osl⟩:=ox
  dsimp only at hcl hdn hd
  subst hcl hdn hd
  have J:PySem.W.InstAt s.heap x ⟨.ref C,none,.fields vs,osl⟩ C none:=⟨hx,rfl,rfl,trivial⟩
  refine PySem.W.set_plain X J hs (osaX_open (s:={ s with toks:=s.toks + 1 }) X J hp ht fun b=>?_)
  obtain ⟨cd,hc,hd'⟩:=PySem.W.any_some hh
  refine wpAny_bind (wpAny_pure (wpAny_bind (wpAny_bind (wpAny_loadPart hx (wpAny_bind (PySem.W.Looks.here (s:={ s with toks:=s.toks + 1 }) (PySem.W.looks_clsIn X hc) ?_))))))
  rw [hd']
  have hx1:(s.heap.push { cls:=.type "dict",data:=.dict #[] }).get? x=some ⟨.ref C,none,.fields vs,osl⟩:=Heap.get?_push_of_some _ hx
  have hxs:x≠s.heap.objs.size:=Nat.ne_of_lt (Heap.lt_size hx)
  have hgd:((s.heap.push { cls:=.type "dict",data:=.dict #[] }).update x fun o=>{ cls:=o.cls,dict:=some s.heap.objs.size,data:=o.data,slots:=o.slots }).get? s.heap.objs.size=some { cls:=.type "dict",data:=.dict #[] } :=
    (Heap.get?_update_ne _ _ _ _ hxs.symm).trans (Heap.get?_push_at rfl rfl)
  have hnd:((s.heap.push { cls:=.type "dict",data:=.dict #[] }).update x fun o=>{ cls:=o.cls,dict:=some s.heap.objs.size,data:=o.data,slots:=o.slots }).Ns s.heap.objs.size (fun _=>none) :=
    ⟨_,#[],_,hgd,rfl,fun e he=>absurd he (by simp),fun _=>rfl⟩
  refine wpAny_bind (wpAny_alloc' (wpAny_bind (wpAny_update' hx1 (wpAny_pure ?_))))
  show wpAny _ _ (storeInDict s.heap.objs.size (.str name _) name v) _ _ _
  unfold storeInDict newKeyGuard
  refine wpAny_bind (wpAny_pure (wpAny_bind (wpAny_nsSet1 (Heap.Ns1.of_empty hnd) fun h' hn' hs'=>?_)))
  obtain ⟨oD,esD,epD,hoD,hdD,hcD⟩:=hn'.count (Within.cons name v Within.nil)
  refine wpAny_bind (wpAny_lookBehind hoD (by rw [hdD];exact pastItsLine_dict (Nat.le_trans hcD (by rw [List.length_cons,List.length_nil,sizeLine_eq];lia))) ?_)
  refine wpAny_pure (h h' ?_ hn' fun b o hb hbo=>?_)
  . exact (hs'.2 x hxs).trans (Heap.get?_update_self _ hx1 rfl)
  . exact (hs'.2 b (Nat.ne_of_lt (Heap.lt_size hbo))).trans ((Heap.get?_update_ne _ _ _ _ hb).trans (Heap.get?_push_of_some _ hbo))
end
end L2
namespace L2
open PySem PySem.Spec PyProof.Rows
structure XCl (K:PySem.W.Frag) (C f:Addr):Prop where
  makes:makesX K C=true
  init:PySem.W.findIn K (.ref C) "__init__"=some (some (.ref f))
  fn:PySem.W.isFn K (.ref f)=true
  kp:PySem.W.keepIn K (.ref C)=true
  sa:PySem.W.findIn K (.ref C) "__setattr__"=some (some (.builtin "object.__setattr__"))
  over:overX K C=true
  hd:PySem.W.hasDictIn K C=true
  up:PySem.W.mroIn K C (.type "BaseException")=some true
  upv:PySem.W.mroIn K C (.type "ValueError")=some true
  ty:PySem.W.typeIn K (.ref C)=some (.type "type")
structure XBase (K:PySem.W.Frag) (F:Addr):Prop where
  ga:PySem.W.specialIn K (.ref F) "__getattribute__"=some (some (.builtin "type.__getattribute__"))
  rd:PySem.W.readsIn K F (.type "type")=true
  fc:PySem.W.findCls K (.ref F) (.type "type") "__init__"=some (.val (.builtin "ValueError.__init__"))
structure CatchIn (K:PySem.W.Frag) (C D:Addr) (b:Bool):Prop where
  nt:PySem.W.instIn K (.ref D) (.type "tuple")=some false
  ty:PySem.W.isClsIn K D=true
  ex:PySem.W.mroIn K D (.type "BaseException")=some true
  sb:PySem.W.mroIn K C (.ref D)=some b
  kp:PySem.W.keepIn K (.ref D)=true
end L2
namespace L2
open PySem PySem.Spec PyProof.Rows
noncomputable def XO (a C:Addr) (dx:Option Addr):HO:=.ext fun h=>∃ ob vs t0,h.get? a=some ob/\ob.cls=.ref C/\ob.dict=dx/\ob.data=.fields vs/\vs[0]? = some (.ref t0)/\vs[1]? = some .none
section
variable {P:Program} {w:World} {H:Hp} {h:Heap} {a C:Addr} {dx:Option Addr}
theorem XO.ok {ob:Obj} {vs:Array Value} {t0:Addr} (h1:h.get? a=some ob) (h2:ob.cls=.ref C) (h3:ob.dict=dx) (h4:ob.data=.fields vs) (h5:vs[0]? = some (.ref t0)) (h6:vs[1]? = some .none):ObjOk P w H h a (XO a C dx) :=
  ⟨⟨ob,vs,t0,h1,h2,h3,h4,h5,h6⟩,⟨ob,h1⟩,fun h1 h2 ⟨ob,vs,t0,q1,q⟩ k=>⟨ob,vs,t0,k _ q1,q⟩⟩
theorem XO.get (hk:HOk P w H h) (e:H a=some (XO a C dx)):∃ ob vs t0,h.get? a=some ob/\ob.cls=.ref C/\ob.dict=dx/\ob.data=.fields vs/\vs[0]? = some (.ref t0)/\vs[1]? = some .none:=(hk a _ e).1
end
theorem upd_self {H:Hp} {a:Addr} {o:HO} (h:H a=some o):upd H a o=H:=by
  funext b
  by_cases e:b=a
  . rw [e,upd_same,h]
  . rw [upd_ne e]
noncomputable def tSup (K:PySem.W.Frag) (t:TA):TE:=fun σ H Q=>t σ H fun vs H1=>∃ x C g v,vs=[.ref x,v]/\H1 x=some (XO x C none)/\XCl K C g/\Q .non H1
noncomputable def sXset (K:PySem.W.Frag) (ta tv:TE) (f:Str):TS:=fun D σ H=>tv σ H fun y H1=>ta σ H1 fun x H2=>∃ a C g,x=.ref a/\H2 a=some (XO a C none)/\XCl K C g/\NoAttr K C f/\∀ dx,H2 dx=none->dx≠a->D.nx σ (upd (upd H2 dx (.xd [(f,y)])) a (XO a C (some dx)))
section
variable {X:Cx} {x f:Str} {p apos pos pos':Pos} {e o value:Expr} {es:List Expr} {t:TA} {ta tv:TE} {F:Addr}
theorem pe_sup {pl:Sem Bool} (b:XBase X.K F) (hg:Gl X x) (hm:X.mg x=some (.ref F)) (ha:PA X (e::es) t) (hdb:(x == ("__debug__":Str))=false:=by decide)
    (hst:starEach (e::es) X.env=(false,eval e X.env)::starEach es X.env:=by rfl) (hpl:(backTo pos (starEach es X.env)).any (·.1)=false:=by rfl)
    (ht : eval (.Call (.Attribute (.Name x p) "__init__" apos) (e::es) [] pos) X.env=(do
      let ov <- eval (.Name x p) X.env
      standAt apos.atName
      let (f,first) <- holding [ov] (getMethod ov "__init__" pl)
      callWith pos f first (backTo pos (starEach (e::es) X.env)) (backToKw pos (keywordEach [] X.env))):=by rfl) :
    PE X (.Call (.Attribute (.Name x p) "__init__" apos) (e::es) [] pos) (tSup X.K t):=by
  intro pins s σ H Q I h
  refine PySem.W.methodCall_KW (pl:=pl) (ld_glob I hg hm ?_ hdb) ht
  refine PySem.W.method_cls I.kIn b.ga (PySem.W.cls_value I.kIn b.rd b.fc (by decide +kernel) ?_)
  have I0:=I.tok (s.toks + 1)
  refine callWith_builtin1 (thn (ha pos pins _ σ H _ I0 h) fun us s1 ⟨vs,H1,I1,r1,q1⟩=>?_) hst hpl
  obtain ⟨a,C,g,v,rfl,hx,c,q⟩:=q1
  cases r1 with
  | cons ra r1 =>
  cases r1 with
  | @cons _ u2 _ _ rv r1 =>
  cases r1
  cases ra
  obtain ⟨ob,fs,t0,ho,hc,hd,hf,h0,h1⟩:=XO.get I1.hok hx
  obtain ⟨cd,hcd,_⟩:=PySem.W.any_some c.hd
  obtain ⟨oc,od,sl,hC⟩:∃ oc od sl,s1.heap.get? C=some ⟨oc,od,.cls cd,sl⟩:=by
    unfold PySem.W.clsIn at hcd
    split at hcd
    . rename_i oc od cd' sl hl
      cases hcd
      exact ⟨oc,od,sl,I1.kIn _ _ hl⟩
    . cases hcd
  have hup:=PySem.W.looks_mroIn (M:=model X.prog X.w) I1.kIn c.upv
  refine init_own hC hup ho hc hf h0 ⟨.non,H1,?_,rfl,q⟩
  have hz:0 < fs.size:=(Array.getElem?_eq_some_iff.mp h0).1
  have hob:=Heap.get?_push_of_some (h:=s1.heap) (tupO [u2]) ho
  have g3:=Heap.get?_update_self (Obj.mapFields (·.setIfInBounds 0 (Value.ref s1.heap.objs.size))) hob (Obj.isFreed_of_fields (Obj.data_mapFields hf _))
  have:=I1.write (t':=s1.toks) (x:=a) (e:=a) (o:=XO a C none) (h':=(s1.heap.push (tupO [u2])).update a (Obj.mapFields (·.setIfInBounds 0 (.ref s1.heap.objs.size)))) (by rw [hx];exact True.intro) (.inl rfl)
    (fun b u hb q=>(Heap.get?_update_other _ _ (Ne.symm hb)).trans (Heap.get?_push_of_some _ q)) ⟨_,g3⟩
    (XO.ok g3 ((Obj.cls_mapFields _ _).trans hc) (dict_mapF.trans hd) (Obj.data_mapFields hf _) (t0:=s1.heap.objs.size) (by simp [hz]) (by rw [<- h1];simp))
  rwa [upd_self hx] at this
theorem ps_xset (ha:PE X o ta) (hv:PE X value tv) (hs:swapsWith value (some (.Attribute o f pos')) pos.line X.env=pure false:=by rfl):PS X (.Assign [.Attribute o f pos'] value pos) (sXset X.K ta tv f):=by
  intro pins s σ H D I h
  refine plainObj_wpAny_Assign_Attribute (thn (hv pins s σ H _ I h) fun u s1 ⟨y,H1,I1,ry,q⟩=>thn (ha pins s1 σ H1 _ I1 q) fun ov s2 ⟨x,H2,I2,rx,a,C,g,ex,ea,c,n,q2⟩=>?_) hs
  subst ex
  obtain rfl:ov=Value.ref a:=rx
  obtain ⟨ob,fs,t0,ho,hc,hd,hf,h0,h1⟩:=XO.get I2.hok ea
  refine setX_none I2.kIn ho hc hd hf c.sa c.over n.taker c.hd fun h' g1 g2 g3=>?_
  have hlt:=Heap.lt_size ho
  have hne:s2.heap.objs.size≠a:=Nat.ne_of_gt hlt
  refine ⟨σ,_,?_,q2 s2.heap.objs.size (I2.hok.fresh (Nat.le_refl _)) hne⟩
  obtain ⟨oD,es',ep,hD,hrest⟩:=id g2
  have hfr:oD.isFreed=false:=(Heap.get?_some_iff.mp hD).2
  have hp:=Heap.get?_push_size s2.heap (o:=oD) hfr
  have J:=I2.laid (a:=s2.heap.objs.size) (o:=.xd [(f,y)]) (h':=s2.heap.push oD) (t':=s2.toks + 2) (fun b u q=>Heap.get?_push_of_some _ q) (Nat.le_refl _) ?_
  . refine J.write (t':=s2.toks + 2) (x:=a) (e:=a) (h':=h') (by rw [upd_ne hne.symm,ea];exact True.intro) (.inl rfl) (fun b u hb q=>?_) ⟨_,g1⟩ (XO.ok g1 hc rfl hf h0 h1)
    by_cases e:b=s2.heap.objs.size
    . subst e
      rw [hp] at q
      cases q
      exact hD
    . refine g3 b u hb ?_
      rw [<- q]
      exact (Heap.get?_push_ne _ _ _ e).symm
  . refine ⟨_,Heap.Ns1.at (h:=h') g2 fun o q=>?_,fun g=>?_⟩
    . rw [hD] at q
      cases q
      exact hp
    . show RelO (List.lookup g [(f,y)]) (if g=f then some u else none)
      by_cases e:g=f
      . rw [if_pos e,List.lookup_cons,beq_iff_eq.mpr e];exact ry
      . rw [if_neg e,List.lookup_cons,beq_eq_false_iff_ne.mpr e];exact True.intro
end
end L2
namespace L2
open PySem PySem.Spec PyProof.Rows
noncomputable def StT (h:Heap) (H:Hp) (n:Addr->Prop) (z:Prop) (r:Value->Prop) (a:Addr) (vs:Array Value):Prop :=
  (z/\vs[1]? = some .none)\/∃ T oT ts v,vs[1]? = some (.ref T)/\T≠a/\n T/\h.get? T=some oT/\oT.data=.fields ts/\ts[3]? = some v/\H T=none/\r v
noncomputable def Flo (h:Heap) (H:Hp) (n:Addr->Prop) (E:XK) (z:Prop) (r:Value->Prop) (a:Addr):Prop :=
  ∃ C dx ob vs,n a/\H a=none/\h.get? a=some ob/\ob.cls=.ref C/\ob.dict=some dx/\ob.data=.fields vs/\StT h H n z r a vs/\E (.ref C) (some dx) H
noncomputable def CXX (P:Program) (w:World):CXT:=fun outer H s E e s'=>∃ a H',e=.ref a/\s'.os=s.os/\AllBare s'.gens/\Un (frs outer) [] H H' s.heap s'.heap/\HOk P w H' s'.heap/\Flo s'.heap H' (s.heap.objs.size<=·) E False (·=.none) a
noncomputable def New (X:Cx) (pins:List (Addr × Obj)) (b:Addr):Prop:=X.s₀.heap.objs.size<=b/\∀ p∈X.pn++pins,p.1≠b
noncomputable def FlyT (X:Cx) (pins:List (Addr × Obj)) (σ:St) (E:XK) (z:Prop) (r:Value->Prop) (a:Addr) (s:Shared):Prop:=∃ H,Inv X pins σ H s/\Flo s.heap H (New X pins) E z r a
noncomputable def rAny (X:Cx):Value->Prop:=fun v=>v=.none\/v=rawInt X.env.locals
noncomputable def XF (X:Cx) (E:XK):Value->Shared->Prop:=fun e s=>∃ a σ,e=.ref a/\FlyT X [] σ E True (rAny X) a s
structure Bod (X:Cx):Prop where
  st:X.stack=X.env::X.outer
  fr:X.env.frame=some X.env.locals
section
variable {X:Cx} {pins:List (Addr × Obj)} {σ:St} {H:Hp} {s:Shared} {E:XK} {z:Prop} {r:Value->Prop} {a:Addr}
theorem Flo.weak {h:Heap} {n m:Addr->Prop} {z':Prop} {r':Value->Prop} (f:Flo h H n E z r a) (hm:∀ b,n b->m b) (hz:z->z') (hr:∀ v,r v->r' v):Flo h H m E z' r' a:=by
  obtain ⟨C,dx,ob,vs,f1,f2,f3,f4,f5,f6,st,q⟩:=f
  refine ⟨C,dx,ob,vs,hm _ f1,f2,f3,f4,f5,f6,?_,q⟩
  rcases st with ⟨x,y⟩ | ⟨T,oT,ts,v,t1,t2,t3,t4,t5,t6,t7,t8⟩
  . exact .inl ⟨hz x,y⟩
  . exact .inr ⟨T,oT,ts,v,t1,t2,hm _ t3,t4,t5,t6,t7,hr v t8⟩
theorem FlyT.xf {b:Prop} (f:FlyT X [] σ E z r a s) (hr:∀ v,r v->rAny X v):XF X E (.ref a) s:=by
  obtain ⟨H,I,f⟩:=f
  exact ⟨a,σ,rfl,H,I,f.weak (fun _ z=>z) (fun _=>trivial) hr⟩
theorem Inv.unpin (I:Inv X pins σ H s):Inv X [] σ H s:=I.pins_of fun p hp=>absurd hp (by simp)
theorem Inv.newA (I:Inv X pins σ H s) {b:Addr} (h:s.heap.objs.size<=b):New X pins b:=⟨Nat.le_trans I.sz h,fun p hp e=>absurd (Heap.lt_size (I.pin p hp).1) (by rw [e];exact Nat.not_lt.mpr h)⟩
theorem fly_step (B:Bod X) (I:Inv X pins σ H s) {C dx T:Addr} {ob:Obj} {vs:Array Value} {h':Heap} {v':Value} (f1:New X pins a) (f2:H a=none) (f3:s.heap.get? a=some ob) (f4:ob.cls=.ref C) (f5:ob.dict=some dx) (f6:ob.data=.fields vs)
    (st:StT s.heap H (New X pins) z r a vs) (q:E (.ref C) (some dx) H) (l:Lft (frs X.stack) s.heap h' a ob vs T v'):FlyT X pins σ E False (·=v') a { s with heap:=h' }:=by
  have hT0:∀ T0,vs[1]? = some (.ref T0)->T0≠a/\New X pins T0/\H T0=none/\∃ o ts,s.heap.get? T0=some o/\o.data=.fields ts:=fun T0 h0=>by
    rcases st with ⟨_,y⟩ | ⟨T,oT,ts,v,t1,t2,t3,t4,t5,t6,t7,t8⟩
    . rw [y] at h0;cases h0
    . rw [t1] at h0;cases h0;exact ⟨t2,t3,t7,oT,ts,t4,t5⟩
  obtain ⟨ch,hch⟩:∃ ch:List Addr,∀ b,b∈ch ↔ (b=a\/vs[1]? = some (.ref b)):=by
    rcases st with ⟨_,y⟩ | ⟨T,oT,ts,v,t1,t2,t3,t4,t5,t6,t7,t8⟩
    . exact ⟨[a],fun b=>by rw [y];simp⟩
    . exact ⟨[a,T],fun b=>by rw [t1];simp [eq_comm]⟩
  have nfld:∀ b o ts,s.heap.get? b=some o->o.data=.fields ts->b≠X.env.locals/\∀ x c,X.env.cells.lookup x=some c->c≠b:=fun b o ts hb hd=>by
    refine ⟨fun e=>?_,fun x c hc e=>?_⟩
    . obtain ⟨m,⟨o',es,ep,ho,rr⟩,_⟩:=I.loc
      rw [<- e,hb] at ho
      cases ho
      rw [rr.1] at hd
      cases hd
    . obtain ⟨v,o',ho,hv⟩:=I.cell x c hc
      rw [e,hb] at ho
      cases ho
      rw [hv] at hd
      cases hd
  have hok:HOk X.prog X.w H h':=fun c v hcv=>by
    have tr:∀ b v,H b=some v->∀ o,s.heap.get? b=some o->h'.get? b=some o:=fun b v hbv o ho=>by
      refine l.oth b o (fun e=>by rw [e,f2] at hbv;cases hbv) (fun m=>?_) (fun T0 h0 e=>by rw [e,(hT0 T0 h0).2.2.1] at hbv;cases hbv) ho
      rw [I.stkFree b m] at hbv
      cases hbv
    exact (I.hok c v hcv).stay (fun b u hb ho=>hb.elim (fun e=>tr b v (e ▸ hcv) u ho) fun e=>tr b _ e u ho) (fun _ z=>z) fun _ _ z=>z
  have nch:∀ b,b ∉ ch->b≠a/\∀ T0,vs[1]? = some (.ref T0)->b≠T0:=fun b hb=>⟨fun e=>hb ((hch b).mpr (.inl e)),fun T0 h0 e=>hb ((hch b).mpr (.inr (e ▸ h0)))⟩
  have u:Un (frs X.stack) ch H H s.heap h':=⟨fun b o hb _ hf hc=>l.oth b o (nch b hc).1 hf (nch b hc).2 hb,fun b o hb _ _ hc=>l.frm b o (nch b hc).1 (nch b hc).2 hb,fun _ _ _ n _=>n,fun b o hb hc=>?_,fun _ _ e=>e,fun _ _ _ e=>e,fun b ps e=>⟨#[],by rw [e];simp⟩⟩
  . have J:Inv X pins σ H { s with heap:=h' }:=I.call (g':=s.gens) (d':=s.drawn) (t':=s.toks) u hok I.bare fun b hb=>?_
    . obtain ⟨oe',vs',g1,g2,g3,g4,g5⟩:=l.exc
      obtain ⟨t1,t2,oT,ts,t3,t4,t5⟩:=l.tb
      refine ⟨H,J,C,dx,oe',vs',f1,f2,g1,g2.trans f4,g3.trans f5,g4,.inr ⟨T,oT,ts,v',g5,t1,?_,t3,t4,t5,?_,rfl⟩,q⟩
      . exact t2.elim (fun x=>I.newA x) fun x=>(hT0 T x).2.1
      . exact t2.elim (fun x=>I.hok.fresh x) fun x=>(hT0 T x).2.2.1
    . rcases (hch b).mp hb with e | e
      . have:=nfld a ob vs f3 f6
        subst e
        exact ⟨.inr f1.1,this.1,this.2,f1.2⟩
      . obtain ⟨y1,y2,y3,o,ts,y4,y5⟩:=hT0 b e
        have:=nfld b o ts y4 y5
        exact ⟨.inr y2.1,this.1,this.2,y2.2⟩
  . obtain ⟨sl,x⟩:=l.frm b o (nch b hc).1 (nch b hc).2 hb
    exact ⟨_,x⟩
theorem fly_note {R:Value->Shared->Prop} {Q:Unit->Shared->Prop} (B:Bod X) (f:FlyT X pins σ E z (rAny X) a s) (k:∀ s',FlyT X pins σ E False (·=rawInt X.env.locals) a s'->Q () s'):wpAny (model X.prog X.w) X.A (noteFrame (.ref a) X.env) Q R s:=by
  obtain ⟨H,I,C,dx,ob,vs,f1,f2,f3,f4,f5,f6,st,q⟩:=f
  have hF:=I.stack
  rw [B.st] at hF
  refine note_any (B:=X.base) (I.ok.frames.trans (by rw [B.st])) hF B.fr f3 f6 ?_ fun h' T l=>k _ (fly_step B I f1 f2 f3 f4 f5 f6 st q (by rw [B.st];exact l))
  rcases st with ⟨_,y⟩ | ⟨T,oT,ts,v,t1,t2,t3,t4,t5,t6,t7,t8⟩
  . exact .inl y
  . exact .inr ⟨T,oT,ts,v,t1,t2,t4,t5,t6,t8⟩
theorem fly_set {R:Value->Shared->Prop} {Q:Unit->Shared->Prop} {fr:Option Addr} {A:Around} (B:Bod X) (f:FlyT X pins σ E False r a s) (k:∀ s',FlyT X pins σ E False (·=fr.elim .none fun f=>rawInt f) a s'->Q () s'):wpAny (model X.prog X.w) A (setFlight (.ref a) fr) Q R s:=by
  obtain ⟨H,I,C,dx,ob,vs,f1,f2,f3,f4,f5,f6,st,q⟩:=f
  have st':=st
  rcases st with ⟨y,_⟩ | ⟨T,oT,ts,v,t1,t2,t3,t4,t5,t6,t7,t8⟩
  . exact y.elim
  . exact flight_any f3 f6 t1 t2 t4 t5 t6 fun h' l=>k _ (fly_step B I f1 f2 f3 f4 f5 f6 st' q l)
theorem own_pass (B:Bod X):PassesOwn (model X.prog X.w) X.A X.env (XF X E):=by
  rintro e s ⟨a,σ,rfl,f⟩
  refine fly_note B f fun s1 f1=>?_
  have f1':=f1
  obtain ⟨H,I,C,dx,ob,vs,_,_,f3,_,_,f6,st,_⟩:=f1
  rcases st with ⟨y,_⟩ | ⟨T,oT,ts,v,t1,t2,t3,t4,t5,t6,t7,t8⟩
  . exact y.elim
  . refine wpAny_bind (wpAny_field f3 f6 t1 ?_)
    rw [if_neg (by simp)]
    refine fly_set B f1' fun s2 f2=>f2.xf (b:=True) fun v hv=>.inr ?_
    rw [hv,B.fr]
    rfl
theorem pass_xf (B:Bod X):Passes (CXX X.prog X.w) (X.wish (XF X E)) E:=by
  rintro pins σ H s e s' I ⟨a,H',rfl,hos,hg,u,hok,f⟩
  exact ⟨a,σ,rfl,H',I.unwish.unpin.call' (ch:=[]) hos u hok hg fun b hb=>absurd hb (by simp),f.weak (fun b h=>I.unwish.unpin.newA h) (fun z=>z.elim) fun v hv=>.inl hv⟩
end
section
variable {P:Program} {w:World} {K:PySem.W.Frag} {mg:Str->Option Value} {base:Heap} {N:List Str} {qual:Str} {scope:Scope} {f:Addr} {cd:Value} {A:Around} {outer:List Env} {s0 s:Shared} {H0:Hp} {E:XK}
theorem bod_of {CX:CXT}:Bod (cxOf CX P w K mg base N qual scope f cd A outer s0 H0 E):=⟨rfl,rfl⟩
theorem fly_end {e:Value} (h:XF (cxOf (CXX P w) P w K mg base N qual scope f cd A outer s0 H0 E) E e s):(cxOf (CXX P w) P w K mg base N qual scope f cd A outer s0 H0 E).xe e s:=by
  obtain ⟨a,σ,rfl,h⟩:=h
  refine wpAny_bind (fly_note bod_of h fun s1 h1=>fly_set (A:=A.deeper (envOfC qual scope s0.heap.objs.size f cd)) bod_of h1 fun s2 h2=>?_)
  obtain ⟨H,I,q⟩:=h2
  exact ⟨a,H,rfl,I.os,I.bare,I.base,I.hok,q.weak (fun b h=>h.1) (fun z=>z) fun _ z=>z⟩
theorem pss_fly {st:List Stmt} {t:TS} (h:PSs ((cxOf (CXX P w) P w K mg base N qual scope f cd A outer s0 H0 E).wish (XF (cxOf (CXX P w) P w K mg base N qual scope f cd A outer s0 H0 E) E)) st t):PSs (cxOf (CXX P w) P w K mg base N qual scope f cd A outer s0 H0 E) st t:=fun pins s σ H D I hw =>
  wpAny_mono (h pins s σ H D (I.wish _) hw) (fun _ _ q=>q.unwish) fun _ _ q=>fly_end q
end
end L2
namespace L2
open PySem PySem.Spec PyProof.Rows
theorem Un.kp {K:PySem.W.Frag} {fs ex:List Addr} {H H':Hp} {h h':Heap} (u:Un fs ex H H' h h'):Kp K H H':=⟨fun a xs q=>by
  rcases q with (q | ⟨o,q⟩) | q
  . exact .inl (.inl (u.tups _ _ q))
  . exact .inl (.inr ⟨o,u.frzs _ _ _ q⟩)
  . exact .inr q,fun a xs q=>by
  rcases q with ⟨o,q⟩ | q
  . exact .inl ⟨o,u.frzs _ _ _ q⟩
  . exact .inr q,fun a o v q=>u.frzs _ _ _ q⟩
noncomputable def tRaise (K:PySem.W.Frag) (H0:Hp) (C:Addr) (sp:Sp) (E:XK) (t:TA):TS:=fun _ σ H=>t σ H fun vs H1=>Kp K H0 H1->∀ x,H1 x=none ->
  sp (.ref x::vs) (upd H1 x (XO x C none)) (fun v H2=>v=.non/\∃ dx,H2 x=some (XO x C (some dx))/\E (.ref C) (some dx) (rmH H2 x)) E0
noncomputable def tCallX (K:PySem.W.Frag) (H0:Hp) (sp:Sp) (E:XK) (t:TA):TE:=fun σ H Q=>t σ H fun vs H1=>Kp K H0 H1->sp vs H1 Q E
section
variable {X:Cx} {k:Nat} {f C:Addr} {fd:FuncData} {ps:List Str} {sp:Sp} {E:XK} {x:Str} {p pos pos':Pos} {e:Expr} {es:List Expr} {t:TA}
theorem Inv.madeX {pins:List (Addr × Obj)} {σ:St} {H:Hp} {s:Shared} {us:List Value} (I:Inv X pins σ H s):Inv X pins σ (upd H (s.heap.objs.size + 1) (XO (s.heap.objs.size + 1) C none)) { s with heap:=(s.heap.push (tupO us)).push (excO C s.heap.objs.size) }:=by
  have e2:((s.heap.push (tupO us)).push (excO C s.heap.objs.size)).get? (s.heap.objs.size + 1)=some (excO C s.heap.objs.size):=by
    have:=Heap.get?_push_size (s.heap.push (tupO us)) (o:=excO C s.heap.objs.size) rfl
    rwa [Heap.size_push] at this
  refine I.laid (a:=s.heap.objs.size + 1) (o:=XO (s.heap.objs.size + 1) C none) (t':=s.toks) (fun b u q=>Heap.get?_push_of_some _ (Heap.get?_push_of_some _ q)) (Nat.le_succ _) ?_
  exact XO.ok e2 rfl rfl rfl (t0:=s.heap.objs.size) rfl rfl
theorem ps_raiseX (hc:X.calm=true) (M:XCl X.K C f) (F:FnOk X.prog X.w X.K X.mg X.base CX0 k f fd ps sp) (hr:Room (k + 1) X.A) (hg:Gl X x) (hm:X.mg x=some (.ref C)) (hb:Binds X.K fd ps []) (ha:PA (X.wish (XF X E)) (e::es) t)
    (hp:ps.length<=1000:=by decide) (hdb:(x == ("__debug__":Str))=false:=by decide) (he:starEach (e::es) X.env=(false,eval e X.env)::starEach es X.env:=by rfl) (hpl:(backTo pos (starEach es X.env)).any (·.1)=false:=by rfl) :
    PS (X.wish (XF X E)) (.Raise (some (.Call (.Name x p) (e::es) [] pos)) none pos') (tRaise X.K X.H₀ C sp E t):=by
  intro pins s σ H D I h
  refine raise_own (I.ok.hd hc) (wpAny_Call_Name_kw (ld_glob I hg hm ?_ hdb))
  refine PySem.W.callWith_K (h₀:=X.base) I.ok.mod.kin M.kp (thn (ha pos pins s σ H _ I h) fun us s1 ⟨vs,H1,I1,r,q⟩=>⟨I1.kIn,?_⟩) he hpl
  have hq:=q I1.base.kp (s1.heap.objs.size + 1) (I1.hok.fresh (Nat.le_succ _))
  have I2:=Inv.madeX (C:=C) (us:=us) I1
  have r2:Vals (V.ref (s1.heap.objs.size + 1)::vs) (Value.ref (s1.heap.objs.size + 1)::us):=.cons rfl r
  have hl:(Value.ref (s1.heap.objs.size + 1)::us).length=ps.length:=by
    have e:=r2.length
    rw [F.len _ _ _ _ hq] at e
    exact e.symm
  have hl':us.length<=1000:=by
    rw [List.length_cons] at hl
    lia
  refine wpAny_call (make_exc (f:=f) I1.kIn M.makes M.init (beq_iff_eq.mp M.fn) hl' (codeAny_mono (F.run _ X.stack _ _ ⟨Value.ref (s1.heap.objs.size + 1)::us,[]⟩ (Value.ref (s1.heap.objs.size + 1)::us) _ _ E0 (hr.make C us [])
    (I2.env0.make C us []) (by have:=hb _ (Value.ref (s1.heap.objs.size + 1)::us) I2.kIn (by rw [List.append_nil];exact hl);rwa [List.append_nil] at this) r2 hq) fun r s' hq'=>?_))
  cases r with
  | error e=>exact hq'.elim
  | ok fl =>
    cases fl with
    | ret u =>
      obtain ⟨v,H',I3,rv,ev,dx,hx,hE⟩:=I2.after hq'
      subst ev
      refine ⟨rv,?_⟩
      obtain ⟨ob,fs,t0,ho,hcl,hd,hf,h0,h1⟩:=XO.get I3.hok hx
      refine ⟨_,C,ob,fs,rfl,ho,hcl,hf,h1,PySem.W.looks_mroIn I3.kIn M.up,PySem.W.looks_typeIn I3.kIn M.ty,?_⟩
      exact ⟨_,σ,rfl,_,I3.unwish.unpin.forget hx,C,dx,ob,fs,I1.unwish.unpin.newA (Nat.le_succ _),rmH_same,ho,hcl,hd,hf,.inl ⟨trivial,h1⟩,hE⟩
    | next=>exact False.elim hq'
    | brk=>exact False.elim hq'
    | cont=>exact False.elim hq'
theorem pe_callX (B:Bod X) (F:FnOk X.prog X.w X.K X.mg X.base (CXX X.prog X.w) k f fd ps sp) (hr:Room k X.A) (hg:Gl X x) (hm:X.mg x=some (.ref f)) (hk:PySem.W.keepIn X.K (.ref f)=true) (hb:Binds X.K fd ps []) (ha:PA (X.wish (XF X E)) (e::es) t)
    (hdb:(x == ("__debug__":Str))=false:=by decide) (he:starEach (e::es) X.env=(false,eval e X.env)::starEach es X.env:=by rfl) (hpl:(backTo pos (starEach es X.env)).any (·.1)=false:=by rfl) :
    PE (X.wish (XF X E)) (.Call (.Name x p) (e::es) [] pos) (tCallX X.K X.H₀ sp E t):=by
  intro pins s σ H Q I h
  refine wpAny_Call_Name_kw (ld_glob I hg hm ?_ hdb)
  refine PySem.W.callWith_K (h₀:=X.base) I.ok.mod.kin hk (thn (ha pos pins s σ H _ I h) fun us s1 ⟨vs,H1,I1,r,q⟩=>⟨I1.kIn,?_⟩) he hpl
  exact run_fn (X:=X.wish (XF X E)) (dvs:=[]) F hr hb .nil (pass_xf B) I1 r (by rw [List.append_nil];exact q I1.base.kp)
end
noncomputable abbrev AXK:=Addr->List (Str × U)->AHp->Prop
noncomputable abbrev ASpX:=List U->AHp->AVK->AXK->Prop
noncomputable def AftX (K:PySem.W.Frag) (H:Hp) (X':AXK) (E:XK):Prop:=∀ C dx fs gs A' H',Kp K H H'->HR K H' A'->A' dx=none->H' dx=some (.xd gs)->RFs K H' fs gs->X' C fs A'->E (.ref C) (some dx) H'
theorem AftX.same {K:PySem.W.Frag} {H H1:Hp} {X':AXK} {E:XK} (h:AftX K H X' E) (k:Kp K H H1):AftX K H1 X' E:=fun C dx fs gs A' H' k1=>h C dx fs gs A' H' (k.trans k1)
noncomputable def spOfX (K:PySem.W.Frag) (asp:ASpX):Sp:=fun vs H Q E=>∃ us A Q' X',RUs K H us vs/\HR K H A/\asp us A Q' X'/\Aft K H Q' Q/\AftX K H X' E
noncomputable def spInit (C:Addr) (f:Str) (ok:V->Prop):Sp:=fun vs H Q _=>∃ x v,vs=[.ref x,v]/\ok v/\H x=some (XO x C none)/\∀ dx,H dx=none->dx≠x->Q .non (upd (upd H dx (.xd [(f,v)])) x (XO x C (some dx)))
noncomputable def aRaise (C:Addr) (f:Str) (ok:U->Prop) (X':AXK) (l:AA):AS:=fun _ ρ A=>l ρ A fun us A1=>∃ u,us=[u]/\ok u/\X' C [(f,u)] A1
section
variable {K:PySem.W.Frag}
theorem ab_raise {H0:Hp} {C:Addr} {f:Str} {okV:V->Prop} {ok:U->Prop} {E:XK} {X':AXK} {t:TA} {l:AA} (hE:AftX K H0 X' E) (ho:∀ u v H,RU K H u v->ok u->okV v) (hl:AbA K t l):AbS K (tRaise K H0 C (spInit C f okV) E t) (aRaise C f ok X' l):=fun ρ A σ H D' D hs g h k=>by
  refine hl ρ A σ H _ _ hs g h fun us A1 vs H1 k1 g1 r1 ⟨u,e,hu,hx⟩ k0 x hn=>?_
  subst e
  cases r1 with
  | @cons _ v _ _ rv r1 =>
  cases r1
  refine ⟨x,v,rfl,ho _ _ _ rv hu,upd_same,fun dx hd hne=>⟨rfl,dx,upd_same,?_⟩⟩
  rw [upd_ne hne] at hd
  have e:rmH (upd (upd (upd H1 x (XO x C none)) dx (.xd [(f,v)])) x (XO x C (some dx))) x=upd H1 dx (.xd [(f,v)]):=by
    funext b
    by_cases h1:b=x
    . rw [h1,rmH_same,upd_ne hne.symm,hn]
    . rw [rmH_ne h1,upd_ne h1]
      by_cases h2:b=dx
      . rw [h2,upd_same,upd_same]
      . rw [upd_ne h2,upd_ne h1,upd_ne h2]
  rw [e]
  have sm:=Same.upd_new (o:=.xd [(f,v)]) hd
  exact hE C dx [(f,u)] [(f,v)] A1 _ (k0.trans sm.kp) (g1.grow sm) (g1.none hd) upd_same ⟨rfl,.one (rv.same sm.kp)⟩ hx
noncomputable def aCallX (asp:ASpX) (X':AXK) (l:AA):AE:=fun ρ A Q=>l ρ A fun us A1=>asp us A1 Q X'
theorem ab_callX {asp:ASpX} {H0:Hp} {X':AXK} {E:XK} {tl:TA} {l:AA} (hE:AftX K H0 X' E) (hl:AbA K tl l):AbE K (tCallX K H0 (spOfX K asp) E tl) (aCallX asp X' l):=fun ρ A σ H Q' Q hs hh h k =>
  hl ρ A σ H _ _ hs hh h fun us A1 vs H1 k1 g1 r1 q1 k0=>⟨us,A1,Q',X',r1,g1,q1,fun z A3 v3 H3 k3 h3 r3 q3=>k _ _ _ _ (k1.trans k3) h3 r3 q3,hE.same k0⟩
end
section
variable {P:Program} {w:World} {K:PySem.W.Frag} {mg:Str->Option Value} {base:Heap}
theorem Fun.okX {x qual:Str} {st:Stmt} {f:Addr} {fd:FuncData} {N ps:List Str} {k:Nat} {asp:ASpX} {sc:Scope} {body:List Stmt} {as:AXK->AS} (F:Fun K x qual st f fd) (hs:defScope st=sc) (hb:defBody st=body) (S:FnScope N ps (defScope st))
    (hbody:FnScope N ps sc->∀ (cdv:Value) (A:Around) (outer:List Env) (s:Shared) (H:Hp) (E:XK) (X':AXK),Room k (A.deeper (envOfC qual sc s.heap.objs.size f cdv))->AftX K H X' E ->
      ∃ t,PSs ((cxOf (CXX P w) P w K mg base N qual sc f cdv A outer s H E).wish (XF (cxOf (CXX P w) P w K mg base N qual sc f cdv A outer s H E) E)) body t/\AbS K t (as X'))
    (hsp:∀ us A Q X',asp us A Q X'->us.length=ps.length/\as X' { nx:=fun _ A'=>Fg Q .non A',rt:=Fg Q } (aStart N us) A):FnOk P w K mg base (CXX P w) (k + 1) f fd ps (spOfX K asp):=by
  subst hs hb
  obtain ⟨oc,od,kV,doc,pm,an,cdv,ct,osl,rfl,lk,hcd⟩:=F.ex
  refine fn_of lk hcd S (fun vs H Q E ⟨us,A,Q',X',r,g,h,_⟩=>?_) fun A outer s H vs Q E hr ⟨us,A',Q',X',r,g,h,k,kx⟩=>?_
  . rw [<- r.length];exact (hsp us A Q' X' h).1
  . obtain ⟨t,ht,ha⟩:=hbody S cdv A outer s H E X' hr kx
    exact ⟨t,pss_fly ht,ha _ _ _ _ _ _ (RSt.start N r) g (hsp us A' Q' X' h).2 ⟨fun ρ A σ H' k' g' s' ⟨A3,e,q'⟩=>k _ _ _ _ k' (g'.ext e) .non q',fun u A v H' k' g' r' ⟨A3,e,q'⟩=>k _ _ _ _ k' (g'.ext e) r' q',fun _ _ _ _ _ _ _ q=>q.elim,fun _ _ _ _ _ _ _ q=>q.elim⟩⟩
end
end L2
namespace L2
open PySem PySem.Spec PyProof.Rows
theorem CatchIn.at {K:PySem.W.Frag} {M:Model} {h:Heap} {C D:Addr} {b:Bool} (c:CatchIn K C D b) (x:K.In h):Catch M h C D b:=by
  refine ⟨PySem.W.looks_instIn x c.nt,?_,PySem.W.looks_mroIn x c.ex,PySem.W.looks_mroIn x c.sb⟩
  intro A Q E s k q
  have t:=c.ty
  unfold PySem.W.isClsIn PySem.W.clsIn at t
  split at t
  . rename_i oc od cd sl hl
    simp only [isType,loadHead]
    refine wpAny_bind (wpAny_loadPart (k _ _ (x _ _ hl)) ?_)
    exact wpAny_pure q
  . cases t
noncomputable abbrev Cx.mkd (X:Cx) (a:Addr):Cx:={ X with A:=X.A.mark (some (.ref a)),calm:=false,xe:=fun _ _=>False }
noncomputable def XE (X:Cx) (pins:List (Addr × Obj)) (σ:St) (E:XK):Value->Shared->Prop:=fun ev s'=>∃ H1 s1,Inv X pins σ H1 s1/\CXX X.prog X.w X.stack H1 s1 E ev s'
noncomputable abbrev TX:=St->Hp->VK->XK->Prop
noncomputable def PEX (X:Cx) (e:Expr) (tx:TX):Prop :=
  ∀ (pins:List (Addr × Obj)) (s:Shared) (σ:St) (H:Hp) (Q:VK) (E:XK),Inv X pins σ H s->tx σ H Q E->wpAny (model X.prog X.w) X.A (eval e X.env) (EP X pins σ Q) (XE X pins σ E) s
noncomputable def txCall (sp:Sp) (t:TA):TX:=fun σ H Q E=>t σ H fun vs H1=>sp vs H1 Q E
section
variable {X:Cx} {pins:List (Addr × Obj)} {σ:St} {H:Hp} {s:Shared} {a D f:Addr} {i k:Nat} {x y:Str} {e e1:Expr} {es:List Expr} {p px p1 pos1 hp pos:Pos} {b0:Stmt} {su:List Stmt} {tx:TX} {th:TS} {t:TA} {fd:FuncData} {ps:List Str} {sp:Sp}
theorem Inv.mkd (I:Inv X pins σ H s):Inv (X.mkd a) pins σ H s:=⟨{ I.ok with hd:=fun z=>nomatch z },I.os,I.bare,I.base,I.loc,I.cell,I.free,I.freeC,I.pin,I.hok,I.len⟩
theorem Inv.unmkd (I:Inv (X.mkd a) pins σ H s) (ok:X.Ok):Inv X pins σ H s:=⟨ok,I.os,I.bare,I.base,I.loc,I.cell,I.free,I.freeC,I.pin,I.hok,I.len⟩
theorem SP.unmkd {Dn:Ends} {fl:Flow} {s':Shared} (ok:X.Ok) (h:SP (X.mkd a) pins Dn fl s'):SP X pins Dn fl s':=by
  cases fl with
  | next=>obtain ⟨σ',H',I,q⟩:=h;exact ⟨σ',H',I.unmkd ok,q⟩
  | brk=>obtain ⟨σ',H',I,q⟩:=h;exact ⟨σ',H',I.unmkd ok,q⟩
  | cont=>obtain ⟨σ',H',I,q⟩:=h;exact ⟨σ',H',I.unmkd ok,q⟩
  | ret u=>obtain ⟨v,σ',H',I,r,q⟩:=h;exact ⟨v,σ',H',I.unmkd ok,r,q⟩
theorem pex_call (F:FnOk X.prog X.w X.K X.mg X.base (CXX X.prog X.w) k f fd ps sp) (hr:Room k X.A) (hg:Gl X x) (hm:X.mg x=some (.ref f)) (hk:PySem.W.keepIn X.K (.ref f)=true) (hb:Binds X.K fd ps []) (ha:PA X.nox (e1::es) t)
    (hdb:(x == ("__debug__":Str))=false:=by decide) (he:starEach (e1::es) X.env=(false,eval e1 X.env)::starEach es X.env:=by rfl) (hpl:(backTo pos (starEach es X.env)).any (·.1)=false:=by rfl) :
    PEX X (.Call (.Name x p) (e1::es) [] pos) (txCall sp t):=by
  intro pins s σ H Q E I h
  refine wpAny_Call_Name_kw (ld_glob I hg hm ?_ hdb)
  refine PySem.W.callWith_K (h₀:=X.base) I.ok.mod.kin hk (wpAny_mono (ha pos pins s σ H _ (I.wish _) h) (fun us s1 ⟨vs,H1,I1,r,q⟩=>⟨I1.kIn,?_⟩) fun _ _ z=>False.elim z) he hpl
  have I1:=I1.unwish
  have hl:us.length=ps.length:=by rw [<- r.length];exact F.len _ _ _ _ q
  refine wpAny_call (codeAny_mono (F.run X.A X.stack s1 H1 ⟨us,[]⟩ us vs Q E hr I1.env0 (by have:=hb s1 us I1.kIn (by rw [List.append_nil];exact hl);rwa [List.append_nil] at this) r q) fun r s' hq=>?_)
  cases r with
  | error e=>exact ⟨H1,s1,I1,hq⟩
  | ok fl =>
    cases fl with
    | ret u=>exact I1.after hq
    | next=>exact False.elim hq
    | brk=>exact False.elim hq
    | cont=>exact False.elim hq
end
noncomputable abbrev AX:=ASt->AHp->AVK->AXK->Prop
noncomputable def AbX (K:PySem.W.Frag) (tx:TX) (ax:AX):Prop:=∀ ρ A σ H Q' X' Q E,RSt K H ρ σ->HR K H A->ax ρ A Q' X'->Aft K H Q' Q->AftX K H X' E->tx σ H Q E
noncomputable def axCall (asp:ASpX) (l:AA):AX:=fun ρ A Q X'=>l ρ A fun us A1=>asp us A1 Q X'
noncomputable def aTry0 (K:PySem.W.Frag) (D:Addr) (i:Nat) (ax:AX) (ah:AS):AS:=fun Dn ρ A=>ax ρ A (fun u A'=>Dn.nx (ρ.set i (some u)) A') fun C _ A'=>CatchIn K C D true/\ah Dn ρ A'
section
variable {K:PySem.W.Frag}
theorem abx_call {asp:ASpX} {tl:TA} {l:AA} (hl:AbA K tl l):AbX K (txCall (spOfX K asp) tl) (axCall asp l):=fun ρ A σ H Q' X' Q E hs g w k kx =>
  hl ρ A σ H _ _ hs g w fun us A1 vs H1 k1 g1 r1 q1=>⟨us,A1,Q',X',r1,g1,q1,fun z A3 v3 H3 k3 h3 r3 q3=>k _ _ _ _ (k1.trans k3) h3 r3 q3,kx.same k1⟩
end
end L2
namespace L2
open PySem PySem.Spec PyProof.Rows
noncomputable def okI:V->Prop:=fun v=>∃ n:Int,v=.int n/\n.natAbs.log2 < 1920
noncomputable def okIU:U->Prop:=fun u=>∃ n:Int,u=.int n/\n.natAbs.log2 < 1920
section
variable {K:PySem.W.Frag}
theorem xok (u:U) (v:V) (H:Hp) (r:RU K H u v) (h:okIU u):okI v:=by
  obtain ⟨n,rfl,h⟩:=h
  cases r
  exact ⟨n,rfl,h⟩
theorem q_raise {C:Addr} {f:Str} {ok:U->Prop} {X':AXK} {l:AA} {D:AEnds} {ρ:ASt} {A:AHp}:aRaise C f ok X' l D ρ A=l ρ A fun us A1=>∃ u,us=[u]/\ok u/\X' C [(f,u)] A1:=rfl
theorem q_try0 {D:Addr} {i:Nat} {ax:AX} {ah:AS} {Dn:AEnds} {ρ:ASt} {A:AHp}:aTry0 K D i ax ah Dn ρ A=ax ρ A (fun u A'=>Dn.nx (ρ.set i (some u)) A') fun C _ A'=>CatchIn K C D true/\ah Dn ρ A':=rfl
theorem q_callX {asp:ASpX} {X':AXK} {l:AA} {ρ:ASt} {A:AHp} {Q:AVK}:aCallX asp X' l ρ A Q=l ρ A fun us A1=>asp us A1 Q X':=rfl
theorem q_axCall {asp:ASpX} {l:AA} {ρ:ASt} {A:AHp} {Q:AVK} {X':AXK}:axCall asp l ρ A Q X'=l ρ A fun us A1=>asp us A1 Q X':=rfl
end
section
variable {P:Program} {w:World} {K:PySem.W.Frag} {mg:Str->Option Value} {base:Heap}
theorem init_ok {x qual:Str} {st:Stmt} {f C g:Addr} {fd:FuncData} {N ps:List Str} {fl:Str} {sc:Scope} {t1 t2:Str} (X:XCl K C g) (n:NoAttr K C fl) (hp:ps.length=2) (hN:N=ps) (h1:t1.length<=4000) (h2:t2.length<=4000)
    (h : ∀ cdv A outer s H E,Room 0 (A.deeper (envOfC qual sc s.heap.objs.size f cdv))->PSs (cxOf CX0 P w K mg base N qual sc f cdv A outer s H E).nox (defBody st)
      (tSeq (tDrop (tSup K (tCons (tVar 0) (tCons (tFs (tjCons (tC (.str t1)) (tjCons (tFmtI (tVar 1)) (tjCons (tC (.str t2)) tjNil)))) tNil)))) (sXset K (tVar 0) (tVar 1) fl))) (Fn:Fun K x qual st f fd) (hs:defScope st=sc) (S:FnScope N ps (defScope st)) :
    FnOk P w K mg base CX0 1 f fd ps (spInit C fl okI):=by
  have hσ:∀ a b:V,L2.start N [a,b]=[some a,some b]:=fun a b=>by
    unfold L2.start
    rw [hN,hp]
    rfl
  refine Fn.ok2 hs rfl S (fun vs H Q E hq0=>by obtain ⟨x,v,e,_⟩:=hq0;rw [e,hp];rfl) fun _ cdv A outer s H vs Q E hr ⟨y,v,e,⟨m,ev,hm⟩,hx,q⟩=>⟨_,h cdv A outer s H E hr,?_⟩
  subst e ev
  rw [hσ]
  refine ⟨_,rfl,?_⟩
  have L:∀ {z:Str},z.length<=13000->z.length<=sizeLine:=fun h=>Nat.le_trans h (by rw [sizeLine_eq];decide)
  have e0:Str.empty.length=0:=rfl
  refine ⟨_,rfl,L (by rw [Str.length_append];lia),?_⟩
  refine ⟨_,rfl,m,rfl,hm,fun z hz=>⟨_,rfl,L (by rw [Str.length_append,Str.length_append];lia),?_⟩⟩
  refine ⟨_,rfl,L (by rw [Str.length_append,Str.length_append,Str.length_append];lia),L (by rw [Str.length_append,Str.length_append,Str.length_append];lia),?_⟩
  refine ⟨y,C,g,_,rfl,hx,X,?_⟩
  exact ⟨_,rfl,_,rfl,y,C,g,rfl,hx,X,n,fun dx hd hne=>q dx hd hne⟩
end
end L2
namespace L2
open PySem PySem.Spec PyProof.Rows
end L2
namespace L2
open PySem PySem.Spec PyProof.Rows
theorem gx_kind:builtinKind "BaseException.__getattribute__"=some .slot:=by kernel_rfl
theorem gx_split:splitId "BaseException.__getattribute__"=some ("BaseException","__getattribute__"):=by kernel_rfl
theorem slot1 (x y:Value):slotArgs "__getattribute__" 1 ⟨[x,y],[]⟩=pure (x,[y]):=by
  unfold slotArgs
  simp
section
variable {prog:Program} {w:World} {K:PySem.W.Frag} {A:Around} {E:Value->Shared->Prop} {s:Shared} {x C:Addr} {ox:Obj} {od:Option Obj} {name:Str} {tk:Tok} {v g a:Value} {R:Result->Shared->Prop}
theorem gaX_open (X:K.In s.heap) (I:PySem.W.InstAt s.heap x ox C od) (hup:PySem.W.mroIn K C (.type "BaseException")=some true)
    (h:wpAny (model prog w) A.in1 (Builtin.«object.__getattribute__» ⟨[.ref x,.str name tk],[]⟩) (fun fin s'=>match fin with | .done f=>R (.ok f) s' | .again c'=>c'.quiet=true/\codeAny (model prog w) A c' R s') (fun e s'=>R (.error e) s') s) :
    codeAny (model prog w) A (.call (.builtin "BaseException.__getattribute__") ⟨[.ref x,.str name tk],[]⟩) R s:=by
  have sub:PySem.W.Looks (model prog w) s.heap (isInstance (.ref x) (.type "BaseException")) true:=I.type.andThen (PySem.W.looks_mroIn X hup)
  exact codeAny_call_builtin F.excAttr_ValueError.ga.plain F.entry_bexc_ga (@PySem.W.check_slot (model prog w) _ _ s "BaseException.__getattribute__" "BaseException" "__getattribute__" (.ref x) [.str name tk] [] _ gx_kind gx_split sub (F.args_bexc_ga (.ref x) (.str name tk)) h)
theorem gaX_value (X:K.In s.heap) (I:PySem.W.InstAt s.heap x ox C od) (hup:PySem.W.mroIn K C (.type "BaseException")=some true) (hf:PySem.W.findObj K C od name=some (.value v)) (h:R (.ok (.ret v)) s) :
    codeAny (model prog w) A (.call (.builtin "BaseException.__getattribute__") ⟨[.ref x,.str name tk],[]⟩) R s:=by
  refine gaX_open X I hup ?_
  obtain ⟨hh,gg,d,t,os⟩:=s
  have L0:=I.type (M:=model prog w)
  have L1:=PySem.W.looks_find (M:=model prog w) X I hf
  unfold Builtin.«object.__getattribute__»
  rw [slot1]
  refine wpAny_bind (wpAny_pure ?_)
  dsimp only
  refine wpAny_bind (wpAny_pure (wpAny_bind (L0.at (wpAny_bind (L1.at ?_)))))
  exact wpAny_pure h
theorem gaX_get {expr fill:Bool} {Q:Value->Shared->Prop} (X:K.In s.heap) (I:PySem.W.InstAt s.heap x ox C od) (hga:PySem.W.findIn K (.ref C) "__getattribute__"=some (some (.builtin "BaseException.__getattribute__"))) (hk:PySem.W.findIn K (.ref C) "__getattr__"=some none)
    (h:codeAny (model prog w) A (.call (.builtin "BaseException.__getattribute__") ⟨[.ref x,.str name tk],[]⟩) (fun r s'=>match r with | .ok (.ret v)=>wpAny (model prog w) A (handedOut v) Q E s' | _=>False) s) :
    wpAny (model prog w) A (getAttrBy (.ref x) (.str name tk) fill expr) Q E s:=by
  obtain ⟨hh,gg,d,t,os⟩:=s
  have L0:=I.type (M:=model prog w)
  have L1:=PySem.W.looks_findIn (M:=model prog w) X hga
  have L2:=PySem.W.looks_findIn (M:=model prog w) X hk
  have f3:=F.excAttr_ValueError.ga.bind (.ref x)
  have hx0:(expr && onTheHeap (Value.builtin "BaseException.__getattribute__"))=false:=by cases expr <;> rfl
  have hx2:(Value.builtin "BaseException.__getattribute__" == Value.builtin "object.__getattribute__")=false:=by decide +kernel
  have hx1:(onTheHeap (Value.ref C) && Value.builtin "BaseException.__getattribute__" == Value.builtin "object.__getattribute__")=false:=by rw [hx2];rfl
  unfold getAttrBy
  refine wpAny_holding (wpAny_bind (L0.at (wpAny_bind (L1.at ?_))))
  dsimp only
  rw [hx1]
  simp only [Bool.false_eq_true,if_false]
  unfold getAttrByItsOwn hookBefore
  rw [show onTheHeap (Value.ref C)=true from rfl,if_pos rfl]
  refine wpAny_bind (L2.at (wpAny_bind ?_))
  unfold callGetattribute
  rw [hx0]
  simp only [Bool.false_eq_true,if_false]
  unfold boundAndCalled
  rw [f3]
  refine wpAny_attempt (wpAny_holding (wpAny_bind (wpAny_pure ?_)))
  show wpAny _ _ (call (.builtin "BaseException.__getattribute__") [.ref x,.str name tk]) _ _ _
  refine wpAny_call (codeAny_mono h fun r s' z=>?_)
  rcases r with e | (v | _ | _ | _) <;> first | exact z | exact z.elim
theorem getX_value {expr:Bool} {Q:Value->Shared->Prop} (X:K.In s.heap) (I:PySem.W.InstAt s.heap x ox C od) (hga:PySem.W.findIn K (.ref C) "__getattribute__"=some (some (.builtin "BaseException.__getattribute__"))) (hk:PySem.W.findIn K (.ref C) "__getattr__"=some none)
    (hup:PySem.W.mroIn K C (.type "BaseException")=some true) (hf:PySem.W.findObj K C od name=some (.value v)) (hh:PySem.W.handedIn v=true) (h:Q v { s with toks:=s.toks + 1 }):wpAny (model prog w) A (getAttr (.ref x) name expr) Q E s:=by
  unfold getAttr
  refine wpAny_bind (wpAny_mkText (gaX_get (s:={ s with toks:=s.toks + 1 }) X I hga hk (gaX_value (s:={ s with toks:=s.toks + 1 }) X I hup hf ?_)))
  show wpAny _ _ (handedOut v) _ _ _
  rw [PySem.W.handedOut_of hh]
  exact wpAny_pure h
theorem getX_class {Q:Option Value->Shared->Prop} {od:Obj} (X:K.In s.heap) (I:PySem.W.InstAt s.heap x ox C (some od)) (hga:PySem.W.findIn K (.ref C) "__getattribute__"=some (some (.builtin "BaseException.__getattribute__"))) (hk:PySem.W.findIn K (.ref C) "__getattr__"=some none)
    (hup:PySem.W.mroIn K C (.type "BaseException")=some true) (hdct:PySem.W.hasDictIn K C=true) (ha:PySem.W.findIn K (.ref C) "__class__"=some (some (.builtin "object.__class__")))
    (hn:PySem.W.specialIn K (.builtin "object.__class__") "__get__"=some (some (.builtin "getset_descriptor.__get__"))) (htk:PySem.W.takesIn K (.builtin "object.__class__")=some true) (hm:PySem.W.mroIn K C (.type "object")=some true)
    (h:Q (some (.ref C)) { s with toks:=s.toks + 1 }):wpAny (model prog w) A (getAttr? (.ref x) "__class__") Q E s:=by
  have hf:PySem.W.findObj K C (some od) "__class__"=some (.bind (.builtin "getset_descriptor.__get__") (.builtin "object.__class__")):=PySem.W.findObj_data (by obtain ⟨cd,hc,_⟩:=PySem.W.any_some hdct;rw [hc];rfl) ha hn htk
  unfold getAttr? getAttrBy?
  refine wpAny_bind (wpAny_mkText (wpAny_bind (wpAny_attempt (gaX_get (s:={ s with toks:=s.toks + 1 }) X I hga hk ?_))))
  refine gaX_open (s:={ s with toks:=s.toks + 1 }) X I hup ?_
  obtain ⟨hh,gg,d,t,os⟩:=s
  have L0:=I.type (M:=model prog w)
  have L1:=PySem.W.looks_find (M:=model prog w) X I hf
  unfold Builtin.«object.__getattribute__»
  rw [slot1]
  refine wpAny_bind (wpAny_pure ?_)
  dsimp only
  refine wpAny_bind (wpAny_pure (wpAny_bind (L0.at (wpAny_bind (L1.at ?_)))))
  show wpAny _ _ (holding [_] (call (.builtin "getset_descriptor.__get__") [.builtin "object.__class__",.ref x,.ref C]) >>= ret) _ _ _
  refine wpAny_bind (wpAny_holding (wpAny_call (PySem.W.class_get (s:=⟨hh,gg,d,t + 1,os⟩) (ox:=ox) (od:=some od) X I hm ?_)))
  refine wpAny_pure ?_
  show wpAny _ _ (handedOut (.ref C)) _ _ _
  rw [PySem.W.handedOut_of rfl]
  exact wpAny_pure (wpAny_pure h)
end
end L2
namespace L2
open PySem PySem.Spec PyProof.Rows
structure XGet (K:PySem.W.Frag) (C:Addr):Prop where
  ga:PySem.W.findIn K (.ref C) "__getattribute__"=some (some (.builtin "BaseException.__getattribute__"))
  gk:PySem.W.findIn K (.ref C) "__getattr__"=some none
  up:PySem.W.mroIn K C (.type "BaseException")=some true
  hd:PySem.W.hasDictIn K C=true
  cl:PySem.W.findIn K (.ref C) "__class__"=some (some (.builtin "object.__class__"))
  cg:PySem.W.specialIn K (.builtin "object.__class__") "__get__"=some (some (.builtin "getset_descriptor.__get__"))
  ct:PySem.W.takesIn K (.builtin "object.__class__")=some true
  ob:PySem.W.mroIn K C (.type "object")=some true
theorem kitx_exc {K:PySem.W.Frag} {x C:Addr} {ox od:Obj} (g:XGet K C):PySem.W.KitX K (.ref x) (.ref C) (fun h=>PySem.W.InstAt h x ox C (some od)) where
  ty:=fun _ _ _ I=>I.type
  it := fun _ _ X _=>by
    obtain ⟨cdD,hcD,_⟩:=PySem.W.any_some g.hd
    unfold PySem.W.clsIn at hcD
    split at hcD
    . rename_i c' d' cd' sl' ho
      intro A' Q' E' s' k q
      unfold isType loadHead
      exact wpAny_bind (wpAny_loadPart (k _ _ (X _ _ ho)) (wpAny_pure q))
    . cases hcD
  ne := fun h tp dd its n sl X htp=>by
    obtain ⟨cdD,hcD,_⟩:=PySem.W.any_some g.hd
    refine Bool.eq_false_iff.mpr fun q=>?_
    have e:C=tp:=Value.ref.inj (beq_iff_eq.mp q)
    subst e
    unfold PySem.W.clsIn at hcD
    split at hcD
    . rename_i c' d' cd' sl' ho
      have z:=(X _ _ ho).symm.trans htp
      cases z
    . cases hcD
  ca:=fun X I k=>getX_class X I g.ga g.gk g.up g.hd g.cl g.cg g.ct g.ob k
noncomputable def XT (a C dx:Addr):HO:=.ext fun h=>∃ ob vs,h.get? a=some ob/\ob.cls=.ref C/\ob.dict=some dx/\ob.data=.fields vs
section
variable {P:Program} {w:World} {H:Hp} {h:Heap} {a C dx:Addr}
theorem XT.ok {ob:Obj} {vs:Array Value} (h1:h.get? a=some ob) (h2:ob.cls=.ref C) (h3:ob.dict=some dx) (h4:ob.data=.fields vs):ObjOk P w H h a (XT a C dx) :=
  ⟨⟨ob,vs,h1,h2,h3,h4⟩,⟨ob,h1⟩,fun h1 h2 ⟨ob,vs,q1,q⟩ k=>⟨ob,vs,k _ q1,q⟩⟩
theorem XT.get (hk:HOk P w H h) (e:H a=some (XT a C dx)):∃ ob vs,h.get? a=some ob/\ob.cls=.ref C/\ob.dict=some dx/\ob.data=.fields vs:=(hk a _ e).1
theorem XT.inst {fs:List (Str × V)} (hk:HOk P w H h) (e:H a=some (XT a C dx)) (d:H dx=some (.xd fs)):∃ (ob od:Obj) (mA:Str->Option Value),PySem.W.InstAt h a ob C (some od)/\(∀ name,PySem.W.lookIn name od=some (mA name))/\∀ f,RelO (fs.lookup f) (mA f):=by
  obtain ⟨ob,vs,h1,h2,h3,h4⟩:=XT.get hk e
  obtain ⟨mA,n,r⟩:=hk dx _ d
  obtain ⟨od,ho,hl⟩:=lookIn_ns n
  refine ⟨ob,od,mA,⟨h1,h2,?_,?_⟩,hl,r⟩
  . unfold PySem.W.notCls;rw [h4]
  . rw [h3];exact ho
end
noncomputable def tXfld (K:PySem.W.Frag) (ta:TE) (f:Str):TE:=fun σ H Q=>ta σ H fun x H1=>∃ a C dx fs v,x=.ref a/\H1 a=some (XT a C dx)/\H1 dx=some (.xd fs)/\XGet K C/\NoAttr K C f/\fs.lookup f=some v/\Q v H1
noncomputable def rIsX (K:PySem.W.Frag):List V->Hp->VK->Prop:=fun xs H Q=>∃ a C dx fs c b,xs=[.ref a,c]/\H a=some (XT a C dx)/\H dx=some (.xd fs)/\XGet K C /\
  ((∃ D,c=.ref D/\PySem.W.kitOne K (.ref C) (.ref D)=some b)\/(∃ T,c=.ty T/\PySem.W.kitOne K (.ref C) (.type T)=some b)\/∃ (p:Addr) (cs:List Addr),c=.ref p/\SqT K H p (cs.map V.ref)/\PySem.W.kitAny K (.ref C) (cs.map Value.ref)=some b)/\Q (.bl b) H
section
variable {X:Cx} {e:Expr} {ta:TE} {f:Str} {pos:Pos}
theorem pe_xfld (he:PE X e ta) (hb:attributeBase e f X.env (eval e X.env)=eval e X.env):PE X (.Attribute e f pos) (tXfld X.K ta f):=by
  intro pins s σ H Q I h
  refine attr_of hb (thn (he pins s σ H _ I h) fun u s1 h_q=>?_)
  obtain ⟨x,H1,I1,rx,a,C,dx,fs,v,ex,ea,ed,g,n,l,q⟩:=h_q
  subst ex
  obtain rfl:u=Value.ref a:=rx
  obtain ⟨ob,od,mA,J,hl,r⟩:=XT.inst I1.hok ea ed
  obtain ⟨u,hu,ru⟩:=RelO.some_of (v:=v) (o:=mA f) (by rw [<- l];exact r f)
  exact getX_value I1.kIn J g.ga g.gk g.up (PySem.W.findObj_own g.hd n rfl (by rw [hl,hu])) (handed_of ru) ⟨v,H1,I1.tok _,ru,q⟩
theorem c_isX:CallR X (.builtin "isinstance") (rIsX X.K):=by
  intro pins s σ H xs us Q I r h
  obtain ⟨a,C,dx,fs,c,b,rfl,ea,ed,g,hc,q⟩:=h
  obtain ⟨u,v,rfl,ru,rv⟩:=r.two
  cases ru
  obtain ⟨ob,od,mA,J,hl,_⟩:=XT.inst I.hok ea ed
  rcases hc with ⟨D,rfl,hc⟩ | ⟨T,rfl,hc⟩ | ⟨p,cs,rfl,ht,hc⟩
  . cases rv
    exact PySem.W.kia_one (kitx_exc g) I.kIn J hc (fun z=>nomatch z) fun tk=>⟨.bl b,H,I.tok tk,rfl,q⟩
  . cases rv
    exact PySem.W.kia_one (kitx_exc g) I.kIn J hc (fun z=>nomatch z) fun tk=>⟨.bl b,H,I.tok tk,rfl,q⟩
  . cases rv
    obtain ⟨its,r',pl,_⟩:=I.tuple ht
    have e:=vals_refs r'
    subst e
    have hp:∃ dd n sl,s.heap.get? p=some ⟨.type "tuple",dd,.seq (cs.map Value.ref).toArray n,sl⟩:=by
      obtain ⟨⟨oc,od',da,sl⟩,ho,hc,n,hd⟩:=(show IsTup s.heap p (cs.map Value.ref).toArray from by first | exact pl | exact pl.isTup | (obtain ⟨o,n,e,c,_,d,_⟩:=pl;exact ⟨o,e,c,n,d⟩))
      cases hc
      cases hd
      exact ⟨_,n,_,ho⟩
    obtain ⟨dd,n,sl,hp⟩:=hp
    exact PySem.W.kia_tup (kitx_exc g) I.kIn J hp hc (fun z=>nomatch z) fun tk=>⟨.bl b,H,I.tok tk,rfl,q⟩
end
noncomputable def oX (C dx:Addr):AO:=.oth fun K H a=>H a=some (XT a C dx)
noncomputable def oXd (fs:List (Str × U)):AO:=.oth fun K H a=>∃ gs,H a=some (.xd gs)/\RFs K H fs gs
section
variable {K:PySem.W.Frag}
theorem oX_ro {H:Hp} {a C dx:Addr} (h:H a=some (XT a C dx)):RO K H a (oX C dx):=⟨⟨_,h⟩,h,fun H1 H2 h1 _ e=>e.trans h1⟩
theorem oXd_ro {H:Hp} {a:Addr} {fs:List (Str × U)} {gs:List (Str × V)} (h:H a=some (.xd gs)) (r:RFs K H fs gs):RO K H a (oXd fs):=⟨⟨_,h⟩,⟨gs,h,r⟩,fun H1 H2 ⟨gs,h1,r1⟩ k e=>⟨gs,e.trans h1,r1.same k⟩⟩
noncomputable def aXfld (K:PySem.W.Frag) (ae:AE) (f:Str):AE:=fun ρ A Q=>ae ρ A fun x A1=>∃ a C dx fs u,x=.ref a/\A1 a=some (oX C dx)/\A1 dx=some (oXd fs)/\XGet K C/\NoAttr K C f/\fs.lookup f=some u/\Q u A1
theorem ab_xfld {te:TE} {ae:AE} {f:Str} (he:AbE K te ae):AbE K (tXfld K te f) (aXfld K ae f):=fun ρ A σ H Q' Q hs g w k =>
  he ρ A σ H _ _ hs g w fun x A1 v H1 k1 g1 r1 hq0=>by
    obtain ⟨a,C,dx,fs,u,e,h1,h2,h3,h4,h5,q⟩:=hq0
    subst e
    cases r1
    obtain ⟨_,q1,_⟩:=g1 a _ h1
    obtain ⟨_,⟨gs,q2,rf⟩,_⟩:=g1 dx _ h2
    obtain ⟨v,hv,rv⟩:=rf.look h5
    exact ⟨a,C,dx,gs,v,rfl,q1,q2,h3,h4,hv,k _ _ _ _ k1 g1 rv q⟩
noncomputable def xIsX (K:PySem.W.Frag):List U->AHp->AVK->Prop:=fun us A Q=>∃ a C dx fs c b,us=[.ref a,c]/\A a=some (oX C dx)/\A dx=some (oXd fs)/\XGet K C /\
  ((∃ D,c=.ref D/\PySem.W.kitOne K (.ref C) (.ref D)=some b)\/(∃ T,c=.ty T/\PySem.W.kitOne K (.ref C) (.type T)=some b)\/∃ cs:List Addr,c=.tup (cs.map U.ref)/\PySem.W.kitAny K (.ref C) (cs.map Value.ref)=some b)/\Q (.bl b) A
theorem ab_isX:AbL K (rIsX K) (xIsX K):=fun xs us A H Q' Q r g h k=>by
  obtain ⟨a,C,dx,fs,c,b,rfl,h1,h2,h3,hc,q⟩:=h
  cases r with
  | cons r1 r=>cases r with
    | @cons _ v _ _ r2 r =>
      cases r;cases r1
      obtain ⟨_,q1,_⟩:=g a _ h1
      obtain ⟨_,⟨gs,q2,rf⟩,_⟩:=g dx _ h2
      refine ⟨a,C,dx,gs,v,b,rfl,q1,q2,h3,?_,k _ _ _ _ (.refl H) g (.bl b) q⟩
      rcases hc with ⟨D,rfl,hc⟩ | ⟨T,rfl,hc⟩ | ⟨cs,rfl,hc⟩
      . cases r2;exact .inl ⟨D,rfl,hc⟩
      . cases r2;exact .inr (.inl ⟨T,rfl,hc⟩)
      . cases r2 with
        | tup ht hs =>
          have:=hs.refs
          subst this
          exact .inr (.inr ⟨_,cs,rfl,ht,hc⟩)
end
end L2
namespace L2
open PySem PySem.Spec PyProof.Rows
section
variable {X:Cx} {pins:List (Addr × Obj)} {σ:St} {H:Hp} {s:Shared} {a C dx:Addr}
theorem Inv.remember {ob:Obj} {vs:Array Value} (I:Inv X pins σ H s) (hn:H a=none) (nw:New X pins a) (ho:s.heap.get? a=some ob) (h2:ob.cls=.ref C) (h3:ob.dict=some dx) (hd:ob.data=.fields vs):Inv X pins σ (upd H a (XT a C dx)) s:=by
  have ne:∀ b o,H b=some o->b≠a:=fun b o h e=>by rw [e,hn] at h;cases h
  have kp:∀ b o,H b=some o->upd H a (XT a C dx) b=some o:=fun b o h=>by rw [upd_ne (ne b o h)];exact h
  have u:=I.base
  have nL:X.env.locals≠a:=fun e=>by
    obtain ⟨m,⟨o',es,ep,ho',rr⟩,_⟩:=I.loc
    rw [e,ho] at ho'
    cases ho'
    rw [rr.1] at hd
    cases hd
  have nC:∀ x c,X.env.cells.lookup x=some c->c≠a:=fun x c hc e=>by
    obtain ⟨v,o',ho',hv⟩:=I.cell x c hc
    rw [e,ho] at ho'
    cases ho'
    rw [hv] at hd
    cases hd
  refine ⟨I.ok,I.os,I.bare,⟨u.keep,u.slot,fun b o x y z=>?_,u.there,fun b xs z=>kp b _ (u.tups b xs z),fun b o v z=>kp b _ (u.frzs b o v z),fun b ps z=>?_⟩,I.loc,I.cell,by rw [upd_ne nL];exact I.free,fun x c z=>by rw [upd_ne (nC x c z)];exact I.freeC x c z,fun p hp=>?_,fun c v hc=>?_,I.len⟩
  . rw [upd_ne fun e=>absurd (Heap.lt_size x) (by rw [e];exact Nat.not_lt.mpr nw.1)]
    exact u.free b o x y z
  . obtain ⟨m,y⟩:=u.tbls b ps z
    exact ⟨m,kp b _ y⟩
  . obtain ⟨p1,p2,p3⟩:=I.pin p hp
    exact ⟨p1,by rw [upd_ne (nw.2 p hp)];exact p2,p3⟩
  . by_cases e:c=a
    . subst e
      rw [upd_same] at hc
      cases hc
      exact XT.ok ho h2 h3 hd
    . rw [upd_ne e] at hc
      exact (I.hok c v hc).stay (fun _ _ _ z=>z) (fun b z=>kp b _ z) fun b xs z=>kp b _ z
theorem gone_ok {M:Model} {A:Around} {E:Value->Shared->Prop} {i:Nat} {x:Str} {pos:Pos} {Q:Unit->Shared->Prop} (I:Inv X pins σ H s) (hN:X.N.Nodup) (hi:X.N[i]? = some x) (hk:X.env.kindOf x=some .local)
    (h:∀ s',Inv X pins (σ.set i none) H s'->Q () s'):wpAny M A (do bindName X.env x .none;unbindBehindTheSuite X.env x pos) Q E s:=by
  obtain ⟨m,hn,hl⟩:=id I.loc
  have hcls:(X.env.scope.kind == .class || (X.env.scope.kind == .module && X.env.locals != X.env.globals))=false:=by rw [I.ok.kind];rfl
  have hiσ:i < σ.length:=by rw [I.len];exact (List.getElem?_eq_some_iff.mp hi).1
  have cne:=I.cne
  refine wpAny_nameGoes_keeps hk hn hcls fun h' v hn' hs=>?_
  obtain ⟨oL,_,_,hoL,_⟩:=id hn
  refine h _ ⟨I.ok,I.os,I.bare,⟨fun b o e n hb hx=>?_,fun b o e n hb hx=>?_,I.base.free,fun b o e hx=>?_,I.base.tups,I.base.frzs,I.base.tbls⟩,⟨_,hn',fun j y v' e1 e2 e3=>?_⟩,fun y c e=>?_,I.free,I.freeC,fun p hp=>?_,fun b ob e=>?_,by simpa using I.len⟩
  . exact (hs.2 b (Nat.ne_of_lt (Nat.lt_of_lt_of_le (Heap.lt_size e) I.ok.above))).trans (I.base.keep b o e n hb hx)
  . obtain ⟨sl,e1⟩:=I.base.slot b o e n hb hx
    exact ⟨sl,(hs.2 b (Nat.ne_of_lt (Nat.lt_of_lt_of_le (Heap.lt_size e) I.ok.above))).trans e1⟩
  . obtain ⟨o',e1⟩:=I.base.there b o e hx
    exact ⟨o',(hs.2 b (Nat.ne_of_lt (Nat.lt_of_lt_of_le (Heap.lt_size e) I.ok.above))).trans e1⟩
  . by_cases hj:j=i
    . subst hj
      rw [List.getElem?_set_self hiσ] at e2
      cases e2
    . rw [List.getElem?_set_ne (Ne.symm hj)] at e2
      obtain ⟨u',r',q⟩:=hl j y v' e1 e2 e3
      refine ⟨u',r',?_⟩
      rcases q with ⟨k,e⟩ | ⟨k,c,e,z⟩
      . refine .inl ⟨k,?_⟩
        have:y≠x:=fun e=>hj (nodup_ix hN e1 (e ▸ hi))
        simp [this,e]
      . exact .inr ⟨k,c,e,z.sameBut hs (cne y c e)⟩
  . obtain ⟨w',z⟩:=I.cell y c e
    exact ⟨w',z.sameBut hs (cne y c e)⟩
  . obtain ⟨e,n,ne,nf,d⟩:=I.pin p hp
    exact ⟨(hs.2 p.1 ne).trans e,n,ne,nf,d⟩
  . refine (I.hok b ob e).stay (fun c w' hc q=>(hs.2 c ?_).trans q) (fun _ q=>q) fun _ _ q=>q
    rintro rfl
    rcases hc with rfl | hc
    . rw [I.free] at e;cases e
    . rw [I.free] at hc;cases hc
end
noncomputable def Ends.goes (D:Ends) (j:Nat):Ends:={ nx:=fun σ H=>D.nx (σ.set j none) H,rt:=D.rt,bk:=fun σ H=>D.bk (σ.set j none) H,ct:=fun σ H=>D.ct (σ.set j none) H }
noncomputable def tTryA (K:PySem.W.Frag) (D:Addr) (i j:Nat) (tx:TX) (th:TS):TS:=fun Dn σ H=>tx σ H (fun v H'=>Dn.nx (σ.set i (some v)) H') fun c dxo H'=>∃ C dx,c=.ref C/\dxo=some dx/\CatchIn K C D true /\
  ∀ a,H' a=none->th (Dn.goes j) (σ.set j (some (.ref a))) (upd H' a (XT a C dx))
section
variable {X:Cx} {pins:List (Addr × Obj)} {σ:St} {H:Hp} {s:Shared} {a D:Addr} {i j:Nat} {x y n:Str} {e:Expr} {es:List Expr} {px p1 pos1 hp pos:Pos} {b0:Stmt} {su:List Stmt} {tx:TX} {th:TS} {t:TA}
theorem SP.goes {M:Model} {A:Around} {E:Value->Shared->Prop} {Dn:Ends} {fl:Flow} {s':Shared} (hN:X.N.Nodup) (hj:X.N[j]? = some n) (hk:X.env.kindOf n=some .local) (h:SP X pins (Dn.goes j) fl s') :
    wpAny M A (do bindName X.env n .none;unbindBehindTheSuite X.env n hp) (fun _ s5=>SP X pins Dn fl s5) E s':=by
  cases fl with
  | next=>obtain ⟨σ',H',I,q⟩:=h;exact gone_ok I hN hj hk fun s5 I5=>⟨_,H',I5,q⟩
  | brk=>obtain ⟨σ',H',I,q⟩:=h;exact gone_ok I hN hj hk fun s5 I5=>⟨_,H',I5,q⟩
  | cont=>obtain ⟨σ',H',I,q⟩:=h;exact gone_ok I hN hj hk fun s5 I5=>⟨_,H',I5,q⟩
  | ret u=>obtain ⟨v,σ',H',I,r,q⟩:=h;exact gone_ok I hN hj hk fun s5 I5=>⟨v,_,H',I5,r,q⟩
theorem ps_tryA (B:Bod X) (hN:X.N.Nodup) (hi:X.N[i]? = some y) (hy:Loc X.env.scope y) (hj:X.N[j]? = some n) (hk:X.env.kindOf n=some .local) (he:PEX X e tx) (hg:Gl X x) (hm:X.mg x=some (.ref D)) (hsu:∀ a,PSs (X.mkd a) (b0::su) th) (hdb:(x == ("__debug__":Str))=false:=by decide)
    (hs:swapsWith e (some (.Name y p1)) pos1.line X.env=pure false:=by rfl) (hf:X.fn y=true\/X.env.scope.names.lookup y=some .local:=by first | exact .inl rfl | exact .inr rfl | assumption) :
    PS X (.Try [.Assign [.Name y p1] e pos1] [.ExceptHandler (some (.Name x px)) (some n) (b0::su) hp] [] [] pos) (tTryA X.K D i j tx th):=by
  intro pins s σ H Dn I h
  refine wpAny_Try_except (wpAny_execs_cons (wpAny_Assign_Name (wpAny_mono (he pins s σ H _ _ I h) (fun v s1 ⟨y,H1,I1,r1,q1⟩=>?_) fun ev s1 hx=>?_) hs))
  . exact store_ok I1 hN hi hy r1 (fun s2 I2=>wpAny_execs_nil (wpAny_execs_nil ⟨_,H1,I2,q1⟩)) hf
  . obtain ⟨H1,s0,I0,a,H',rfl,hos,hg',u,hok,f⟩:=hx
    have I1:=I0.call' (ch:=[]) hos u hok hg' fun b hb=>absurd hb (by simp)
    have f1:FlyT X pins σ _ False (rAny X) a s1:=⟨H',I1,f.weak (fun b hb=>I0.newA hb) (fun z=>z) fun v hv=>.inl hv⟩
    refine fly_note B f1 fun s2 f2=>fly_set B f2 fun s3 f3=>?_
    have f3':=f3
    obtain ⟨H3,I3,C,dx,ob,vs,g1,g2,g3,g4,g5,g6,st,C',dx',ec,ed,hcc,q⟩:=f3
    cases ec
    cases ed
    refine handle_as (C:=C) (ld_glob (X:=X.mkd a) I3.mkd hg hm ⟨rfl,⟨ob,g3,g4⟩,hcc.at I3.kIn,?_⟩ hdb)
    refine fly_set B f3' fun s4 f4=>?_
    obtain ⟨H4,I4,C4,dx4,ob4,vs4,n4,hn4,o4,c4,d4,w4,_,C'',dx'',ec',ed',_,q⟩:=f4
    cases ec'
    cases ed'
    have I5:=I4.remember hn4 n4 o4 c4 d4 w4
    refine store_ok (v:=.ref a) I5 hN hj (.inl hk) rfl (fun s5 I6=>?_) (.inr hk)
    exact wpAny_mono (hsu a pins s5 _ _ (Dn.goes j) I6.mkd (q a hn4)) (fun f s' z=>(z.unmkd I.ok).goes hN hj hk) fun _ _ z=>False.elim z
end
noncomputable def AEnds.goes (D:AEnds) (j:Nat):AEnds:={ nx:=fun ρ A=>D.nx (ρ.set j none) A,rt:=D.rt,bk:=fun ρ A=>D.bk (ρ.set j none) A,ct:=fun ρ A=>D.ct (ρ.set j none) A }
noncomputable def aTryA (K:PySem.W.Frag) (D:Addr) (i j:Nat) (ax:AX) (ah:AS):AS:=fun Dn ρ A=>ax ρ A (fun u A'=>Dn.nx (ρ.set i (some u)) A') fun C fs A'=>CatchIn K C D true /\
  ∀ a dx,A' a=none->A' dx=none->a≠dx->ah (Dn.goes j) (ρ.set j (some (.ref a))) (updA (updA A' dx (oXd fs)) a (oX C dx))
noncomputable def axTup2 (ax:AX) (l:AA):AX:=fun ρ A Q X'=>ax ρ A (fun x A1=>l ρ A1 fun xs A2=>(x::xs).length<=sizeLine/\Q (.tup (x::xs)) A2) X'
section
variable {K:PySem.W.Frag}
theorem RSt.unset {H:Hp}:∀ {ρ:ASt} {σ:St} (i:Nat),RSt K H ρ σ->RSt K H (ρ.set i none) (σ.set i none)
  | _,_,_,.nil=>.nil
  | _,_,0,.skip r=>.skip r
  | _,_,i + 1,.skip r=>.skip (RSt.unset i r)
  | _,_,0,.cons h r=>.skip r
  | _,_,i + 1,.cons h r=>.cons h (RSt.unset i r)
theorem AftS.goes {H:Hp} {D':AEnds} {D:Ends} (h:AftS K H D' D) (j:Nat):AftS K H (D'.goes j) (D.goes j) :=
  ⟨fun _ _ _ _ k g r q=>h.nx _ _ _ _ k g (RSt.unset j r) q,h.rt,fun _ _ _ _ k g r q=>h.bk _ _ _ _ k g (RSt.unset j r) q,fun _ _ _ _ k g r q=>h.ct _ _ _ _ k g (RSt.unset j r) q⟩
theorem HR.newX {H:Hp} {A:AHp} {a C dx:Addr} {fs:List (Str × U)} {gs:List (Str × V)} (g:HR K H A) (hd:H dx=some (.xd gs)) (r:RFs K H fs gs) (ha:H a=Option.none):HR K (upd H a (XT a C dx)) (updA (updA A dx (oXd fs)) a (oX C dx)):=by
  have g1:HR K H (updA A dx (oXd fs)):=fun b o e=>by
    by_cases h:b=dx
    . subst h
      rw [updA_same] at e
      cases e
      exact oXd_ro hd r
    . rw [updA_ne h] at e
      exact g b o e
  exact g1.putO (Same.upd_new ha).kp (oX_ro upd_same)
theorem ab_tryA {D:Addr} {i j:Nat} {tx:TX} {ax:AX} {th:TS} {ah:AS} (hx:AbX K tx ax) (hh:AbS K th ah):AbS K (tTryA K D i j tx th) (aTryA K D i j ax ah):=fun ρ A σ H D' Dn hs g w k =>
  hx ρ A σ H _ _ _ _ hs g w (fun u A' v H' k' g' r' q=>k.nx _ _ _ _ k' g' (RSt.set r' i (hs.same k')) q) fun C dx fs gs A' H' k' g' n' d' rf ⟨c,q⟩=>⟨C,dx,rfl,rfl,c,fun a ha=>by
    have hne:a≠dx:=fun e=>by rw [e,d'] at ha;cases ha
    have sm:=Same.upd_new (o:=XT a C dx) ha
    have k2:=k'.trans (sm.kp (K:=K))
    exact hh _ _ _ _ _ _ (RSt.set (.ref a) j (hs.same k2)) (g'.newX d' rf ha) (q a dx (g'.none ha) n' hne) ((k.same k2).goes j)⟩
theorem q_tryA {D:Addr} {i j:Nat} {ax:AX} {ah:AS} {Dn:AEnds} {ρ:ASt} {A:AHp}:aTryA K D i j ax ah Dn ρ A=(ax ρ A (fun u A'=>Dn.nx (ρ.set i (some u)) A') fun C fs A'=>CatchIn K C D true /\
  ∀ a dx,A' a=none->A' dx=none->a≠dx->ah (Dn.goes j) (ρ.set j (some (.ref a))) (updA (updA A' dx (oXd fs)) a (oX C dx))):=rfl
theorem q_axTup {ax:AX} {l:AA} {ρ:ASt} {A:AHp} {Q:AVK} {X':AXK}:axTup2 ax l ρ A Q X'=ax ρ A (fun x A1=>l ρ A1 fun xs A2=>(x::xs).length<=sizeLine/\Q (.tup (x::xs)) A2) X':=rfl
theorem q_goes {D:AEnds} {j:Nat}:D.goes j={ nx:=fun ρ A=>D.nx (ρ.set j none) A,rt:=D.rt,bk:=fun ρ A=>D.bk (ρ.set j none) A,ct:=fun ρ A=>D.ct (ρ.set j none) A }:=rfl
theorem q_xfld {ae:AE} {f:Str} {ρ:ASt} {A:AHp} {Q:AVK}:aXfld K ae f ρ A Q=ae ρ A fun x A1=>∃ a C dx fs u,x=.ref a/\A1 a=some (oX C dx)/\A1 dx=some (oXd fs)/\XGet K C/\NoAttr K C f/\fs.lookup f=some u/\Q u A1:=rfl
noncomputable def aCallN (asp:ASpX) (l:AA):AE:=fun ρ A Q=>l ρ A fun us A1=>asp us A1 Q fun _ _ _=>False
theorem q_callN {asp:ASpX} {l:AA} {ρ:ASt} {A:AHp} {Q:AVK}:aCallN asp l ρ A Q=l ρ A fun us A1=>asp us A1 Q fun _ _ _=>False:=rfl
end
end L2
namespace L2
open PySem PySem.Spec PyProof.Rows
noncomputable def tMethX (K:PySem.W.Frag) (H0:Hp) (C:Addr) (m:Str) (sp:Sp) (E:XK) (ta:TE) (t:TA):TE:=fun σ H Q=>ta σ H fun x H1=>∃ a dx fs,x=.ref a/\H1 a=some (.ins C dx fs)/\fs.lookup m=none/\t σ H1 fun vs H2=>Kp K H0 H2->sp (x::vs) H2 Q E
section
variable {X:Cx} {k:Nat} {f C:Addr} {fd:FuncData} {ps:List Str} {sp:Sp} {E:XK} {m:Str} {pos apos:Pos} {e o:Expr} {es:List Expr} {ta:TE} {t:TA}
theorem pe_methX {pl:Sem Bool} (B:Bod X) (he:PE (X.wish (XF X E)) o ta) (c:Cls X.K C) (hm:Meth X.K C m f) (F:FnOk X.prog X.w X.K X.mg X.base (CXX X.prog X.w) k f fd ps sp) (hr:Room k X.A) (hb:Binds X.K fd ps []) (ha:PA (X.wish (XF X E)) (e::es) t)
    (hst:starEach (e::es) X.env=(false,eval e X.env)::starEach es X.env:=by rfl) (hpl:(backTo pos (starEach es X.env)).any (·.1)=false:=by rfl)
    (ht : eval (.Call (.Attribute o m apos) (e::es) [] pos) X.env=(do
      let ov <- eval o X.env
      standAt apos.atName
      let (f,first) <- holding [ov] (getMethod ov m pl)
      callWith pos f first (backTo pos (starEach (e::es) X.env)) (backToKw pos (keywordEach [] X.env))):=by rfl) :
    PE (X.wish (XF X E)) (.Call (.Attribute o m apos) (e::es) [] pos) (tMethX X.K X.H₀ C m sp E ta t):=by
  intro pins s σ H Q I h
  refine PySem.W.methodCall_KW (pl:=pl) (thn (he pins s σ H _ I h) fun u s1 ⟨x,H1,I1,rx,a,dx,fs,ex,ea,l,q⟩=>?_) ht
  subst ex
  obtain rfl:u=Value.ref a:=rx
  refine getmeth_ok I1 ea c hm l ?_
  refine PySem.W.callWith_K (first:=[.ref a]) (h₀:=X.base) I.ok.mod.kin hm.kp (thn (ha pos pins s1 σ H1 _ I1 q) fun us s2 ⟨vs,H2,I2,r,q2⟩=>⟨I2.kIn,?_⟩) hst hpl
  exact run_fn (X:=X.wish (XF X E)) (dvs:=[]) (us:=.ref a::us) (vs:=.ref a::vs) F hr hb .nil (pass_xf B) I2 (.cons rfl r) (by rw [List.append_nil];exact q2 I2.base.kp)
theorem pe_methX0 {pl:Sem Bool} (B:Bod X) (he:PE (X.wish (XF X E)) o ta) (c:Cls X.K C) (hm:Meth X.K C m f) (F:FnOk X.prog X.w X.K X.mg X.base (CXX X.prog X.w) k f fd ps sp) (hr:Room k X.A) (hb:Binds X.K fd ps [])
    (ht : eval (.Call (.Attribute o m apos) [] [] pos) X.env=(do
      let ov <- eval o X.env
      standAt apos.atName
      let (f,first) <- holding [ov] (getMethod ov m pl)
      callWith pos f first (backTo pos (starEach [] X.env)) (backToKw pos (keywordEach [] X.env))):=by rfl) :
    PE (X.wish (XF X E)) (.Call (.Attribute o m apos) [] [] pos) (tMethX X.K X.H₀ C m sp E ta tNil):=by
  intro pins s σ H Q I h
  refine PySem.W.methodCall_KW (pl:=pl) (thn (he pins s σ H _ I h) fun u s1 ⟨x,H1,I1,rx,a,dx,fs,ex,ea,l,q⟩=>?_) ht
  subst ex
  obtain rfl:u=Value.ref a:=rx
  refine getmeth_ok I1 ea c hm l ?_
  exact PySem.W.callWith_K0 (first:=[.ref a]) I1.kIn hm.kp (run_fn (X:=X.wish (XF X E)) (dvs:=[]) (us:=[.ref a]) (vs:=[.ref a]) F hr hb .nil (pass_xf B) I1 (.cons rfl .nil) (by rw [List.append_nil];exact q I1.base.kp))
end
noncomputable def aMethX (C:Addr) (m:Str) (asp:ASpX) (X':AXK) (aa:AE) (l:AA):AE:=fun ρ A Q=>aa ρ A fun x A1=>∃ a dx fs,x=.ref a/\A1 a=some (.ins C dx fs)/\fs.lookup m=none/\l ρ A1 fun us A2=>asp (x::us) A2 Q X'
section
variable {K:PySem.W.Frag}
theorem ab_methX {C:Addr} {m:Str} {asp:ASpX} {H0:Hp} {X':AXK} {E:XK} {ta:TE} {aa:AE} {t:TA} {l:AA} (hE:AftX K H0 X' E) (ha:AbE K ta aa) (hl:AbA K t l):AbE K (tMethX K H0 C m (spOfX K asp) E ta t) (aMethX C m asp X' aa l):=fun ρ A σ H Q' Q hs g w k =>
  ha ρ A σ H _ _ hs g w fun x A1 v1 H1 k1 g1 r1 hq0=>by
    obtain ⟨a,dx,fs,e1,e2,e3,q⟩:=hq0
    subst e1
    cases r1
    obtain ⟨gs,h1,h2⟩:=g1.ins e2
    refine ⟨a,dx,gs,rfl,h1,h2.miss e3,hl ρ A1 σ H1 _ _ (hs.same k1) g1 q fun us A2 vs H2 k2 g2 r2 q2 k0=>⟨.ref a::us,A2,Q',X',.cons (.ref a) r2,g2,q2,fun z A3 v3 H3 k3 h3 r3 q3=>k _ _ _ _ (k1.trans (k2.trans k3)) h3 r3 q3,hE.same k0⟩⟩
theorem q_methX {C:Addr} {m:Str} {asp:ASpX} {X':AXK} {aa:AE} {l:AA} {ρ:ASt} {A:AHp} {Q:AVK}:aMethX C m asp X' aa l ρ A Q=aa ρ A fun x A1=>∃ a dx fs,x=.ref a/\A1 a=some (.ins C dx fs)/\fs.lookup m=none/\l ρ A1 fun us A2=>asp (x::us) A2 Q X':=rfl
end
end L2
namespace L2
open PySem PySem.Spec PyProof.Rows
end L2
namespace L2
open PySem PySem.Spec PyProof.Rows
inductive Want where
  | fac | of | col | more
  deriving DecidableEq
noncomputable def hold4:List Str:=["row","bag","choice","ring"]
noncomputable def step3 (s:Want) (d:Nat) (t:Str):Option (Want × Nat):=match s with
  | .fac=>if t∈hold4 then some (.of,d) else if t=("(":Str) then some (.fac,d + 1) else if t=("bead":Str) then some (.col,d) else if t=("nothing":Str)\/wdB t=true then some (.more,d) else none
  | .of=>if t=("of":Str) then some (.fac,d) else none
  | .col=>if wdB t=true then some (.more,d) else none
  | .more=>if t=("or":Str)\/t=("by":Str) then some (.fac,d) else if t=(")":Str)/\0 < d then some (.more,d - 1) else none
noncomputable def run3 (s:Want) (d:Nat):List Str->Nat->Option Nat
  | [],n=>if s=.more/\d=0 then none else some n
  | t :: r,n=>match step3 s d t with
    | none=>some n
    | some (s',d')=>run3 s' d' r (n + 1)
variable {s s':Want} {d d' n:Nat} {ts:List Str} {t:Str}
theorem drop_at (h:ts[n]? = some t):ts.drop n=t::ts.drop (n + 1):=by
  obtain ⟨hl,he⟩:=List.getElem?_eq_some_iff.mp h
  rw [List.drop_eq_getElem_cons hl,he]
theorem drop_no (h:ts[n]? = none):ts.drop n=[]:=List.drop_eq_nil_of_le (List.getElem?_eq_none_iff.mp h)
theorem run_go (h:ts[n]? = some t) (hs:step3 s d t=some (s',d')):run3 s d (ts.drop n) n=run3 s' d' (ts.drop (n + 1)) (n + 1):=by
  rw [drop_at h,run3,hs]
theorem run_bad (h:ts[n]? = some t) (hs:step3 s d t=none):run3 s d (ts.drop n) n=some n:=by
  rw [drop_at h,run3,hs]
theorem run_end (h:ts[n]? = none) (hs:¬ (s=.more/\d=0)):run3 s d (ts.drop n) n=some n:=by
  rw [drop_no h,run3,if_neg hs]
theorem run_fin (h:ts[n]? = none):run3 .more 0 (ts.drop n) n=none:=by
  rw [drop_no h,run3,if_pos ⟨rfl,rfl⟩]
noncomputable def par (ts:List Str) (n:Nat):Nat:=(ts.drop n).count ("(":Str)
theorem par_le {m:Nat} (h:n<=m):par ts m<=par ts n:=by
  unfold par
  obtain ⟨k,rfl⟩:=Nat.exists_eq_add_of_le h
  rw [<- List.drop_drop]
  exact List.Sublist.count_le _ (List.drop_sublist _ _)
theorem par_at (h:ts[n]? = some ("(":Str)):par ts n=par ts (n + 1) + 1:=by
  unfold par
  rw [drop_at h,List.count_cons_self]
noncomputable def RI (cs:Nat->Addr) (A:AHp) (b:Addr):Prop:=∃ i dx fs,i < 9/\A b=some (.ins (cs i) dx fs)
noncomputable def Nx (l:Nat) (t:Option Str):Prop:=(l<=1->t≠some ("by":Str))/\(l=0->t≠some ("or":Str))
noncomputable def asp_rx (cs:Nat->Addr) (C NT:Addr) (d l:Nat):ASpX:=fun us A Q X=>∃ (wa dx p:Addr) (B:AHp) (ts:List Str) (n D:Nat),us=[.ref wa]/\A=Wst C dx p wa B n/\Wok B wa p ts/\(∀ t∈ts,t.length<=10000)/\n<=ts.length/\par ts n < d /\
  (∀ B' b n',Ext B B'->B' wa=none->RI cs B' b->n<=n'->n'<=ts.length->run3 .more D (ts.drop n') n'=run3 .fac D (ts.drop n) n->Nx l ts[n']?->Q (.ref b) (Wst C dx p wa B' n')) /\
  ∀ (B':AHp) (n' m:Nat),Ext B B'->B' wa=none->run3 .fac D (ts.drop n) n=some m->X NT [("at",.int m)] (Wst C dx p wa B' n')
noncomputable def asp_px (cs:Nat->Addr) (C NT:Addr) (d:Nat):ASpX:=fun us A Q X=>∃ (wa dx p:Addr) (B:AHp) (ts:List Str) (n D:Nat),us=[.ref wa]/\A=Wst C dx p wa B n/\Wok B wa p ts/\(∀ t∈ts,t.length<=10000)/\n<=ts.length/\par ts n < d + 1/\(∀ t,ts[n]? = some t->t ∉ hold4) /\
  (∀ B' b n',Ext B B'->B' wa=none->RI cs B' b->n<=n'->n'<=ts.length->run3 .more D (ts.drop n') n'=run3 .fac D (ts.drop n) n->Q (.ref b) (Wst C dx p wa B' n')) /\
  ∀ (B':AHp) (n' m:Nat),Ext B B'->B' wa=none->run3 .fac D (ts.drop n) n=some m->X NT [("at",.int m)] (Wst C dx p wa B' n')
theorem rx0 {cs:Nat->Addr} {C NT:Addr} {l:Nat}:∀ us A Q X,¬ asp_rx cs C NT 0 l us A Q X:=fun us A Q X ⟨_,_,_,_,_,_,_,_,_,_,_,_,h,_⟩=>absurd h (Nat.not_lt_zero _)
noncomputable def asp_needX (C NT:Addr):ASpX:=fun us A Q X=>∃ (wa dx p:Addr) (B:AHp) (ts:List Str) (n:Nat) (z:Str),us=[.ref wa,.str z]/\A=Wst C dx p wa B n/\Wok B wa p ts/\n<=ts.length/\(ts[n]? = some z->Q .non (Wst C dx p wa B (n + 1)))/\(ts[n]?≠some z->X NT [("at",.int n)] (Wst C dx p wa B n))
noncomputable def asp_freeX (C NT:Addr):ASpX:=fun us A Q X=>∃ (wa dx p:Addr) (B:AHp) (ts:List Str) (n:Nat),us=[.ref wa]/\A=Wst C dx p wa B n/\Wok B wa p ts/\n<=ts.length/\(∀ t∈ts,t.length<=10000)/\(∀ z,ts[n]? = some z->wdB z=true->Q (.str z) (Wst C dx p wa B (n + 1)))/\((∀ z,ts[n]? = some z->wdB z=false)->X NT [("at",.int n)] (Wst C dx p wa B n))
noncomputable def asp_rrX (cs:Nat->Addr) (NT:Addr) (d:Nat):ASpX:=fun us A Q X=>∃ (z:Str) (ts:List Str),us=[.str z]/\z.length<=10000/\Txt.split z blk=ts/\ts.length<=1000/\(∀ t∈ts,t.length<=10000)/\par ts 0 < d /\
  (∀ B b,Ext A B->RI cs B b->run3 .fac 0 ts 0=none->Q (.ref b) B)/\∀ (B:AHp) (m:Nat),Ext A B->run3 .fac 0 ts 0=some m->X NT [("at",.int m)] B
theorem shut_pc {k:Nat} {x:Rl} (hk:k<=2) (h:2 * x.tk.count ("(":Str) + (if x.lvl < 2 then 3 else 1)<=x.size):2 * (shut k x.lvl x.tk).count ("(":Str) + 1<=x.size:=by
  unfold shut
  by_cases hl:x.lvl < k
  . rw [if_pos hl,List.count_cons_self,List.count_append,show List.count ("(":Str) [(")":Str)]=0 from by decide +kernel]
    rw [if_pos (by lia)] at h
    lia
  . rw [if_neg hl]
    split at h <;> lia
theorem cnt_mn (k:Nat) (r:List Str):List.count ("(":Str) (mname k::"of"::r)=List.count ("(":Str) r:=by
  rw [List.count_cons_of_ne,List.count_cons_of_ne (by decide +kernel)]
  match k with
  | 0=>decide +kernel
  | 1=>decide +kernel
  | 2=>decide +kernel
  | k + 3=>exact (by decide +kernel:mname 3≠("(":Str))
theorem Rl.par_few (r:Rl):r.wd=true->2 * r.tk.count ("(":Str) + (if r.lvl < 2 then 3 else 1)<=r.size:=by
  induction r with
  | nothing=>intro _;decide +kernel
  | bead c =>
    intro h
    have:("(":Str)≠c:=fun e=>(wd_not (c:=c) (z:="(") h (by decide +kernel)) e.symm
    rw [show (Rl.bead c).tk=[("bead":Str),c] from rfl,List.count_cons_of_ne (by decide +kernel),List.count_cons_of_ne (Ne.symm this)]
    exact Nat.le_refl 1
  | named c =>
    intro h
    have:("(":Str)≠c:=fun e=>(wd_not (c:=c) (z:="(") h (by decide +kernel)) e.symm
    rw [show (Rl.named c).tk=[c] from rfl,List.count_cons_of_ne (Ne.symm this)]
    exact Nat.le_refl 1
  | or x y hx hy =>
    intro h
    simp only [Rl.wd,Bool.and_eq_true] at h
    have h1:=shut_pc (k:=0) (by decide) (hx h.1)
    have h2:=shut_pc (k:=1) (by decide) (hy h.2)
    rw [show (Rl.or x y).tk=shut 0 x.lvl x.tk++(("or":Str)::shut 1 y.lvl y.tk) from rfl,List.count_append,List.count_cons_of_ne (by decide +kernel),if_pos (show (Rl.or x y).lvl < 2 by show (0:Nat) < 2;decide),show (Rl.or x y).size=x.size + y.size + 1 from rfl]
    lia
  | by_ x y hx hy =>
    intro h
    simp only [Rl.wd,Bool.and_eq_true] at h
    have h1:=shut_pc (k:=1) (by decide) (hx h.1)
    have h2:=shut_pc (k:=2) (by decide) (hy h.2)
    rw [show (Rl.by_ x y).tk=shut 1 x.lvl x.tk++(("by":Str)::shut 2 y.lvl y.tk) from rfl,List.count_append,List.count_cons_of_ne (by decide +kernel),if_pos (show (Rl.by_ x y).lvl < 2 by show (1:Nat) < 2;decide),show (Rl.by_ x y).size=x.size + y.size + 1 from rfl]
    lia
  | hold k x hx =>
    intro h
    have h1:=shut_pc (k:=2) (by decide) (hx h)
    rw [show (Rl.hold k x).tk=mname k::"of"::shut 2 x.lvl x.tk from rfl,cnt_mn,if_neg (show ¬ (Rl.hold k x).lvl < 2 by show ¬ (2:Nat) < 2;decide),show (Rl.hold k x).size=x.size + 1 from rfl]
    lia
theorem spOfX_imp {K:PySem.W.Frag} {asp asp':ASpX} (h:∀ us A Q X,asp' us A Q X->asp us A Q X):∀ vs H Q E,spOfX K asp' vs H Q E->spOfX K asp vs H Q E:=fun vs H Q E ⟨us,A,Q',X',r,g,a,k⟩=>⟨us,A,Q',X',r,g,h _ _ _ _ a,k⟩
theorem step_fac:step3 .fac d t=if t∈hold4 then some (.of,d) else if t=("(":Str) then some (.fac,d + 1) else if t=("bead":Str) then some (.col,d) else if t=("nothing":Str)\/wdB t=true then some (.more,d) else none:=rfl
theorem step_of:step3 .of d t=if t=("of":Str) then some (.fac,d) else none:=rfl
theorem step_more:step3 .more d t=if t=("or":Str)\/t=("by":Str) then some (.fac,d) else if t=(")":Str)/\0 < d then some (.more,d - 1) else none:=rfl
theorem st_nothing:step3 .fac d "nothing"=some (.more,d):=by rw [step_fac,if_neg (by decide +kernel),if_neg (by decide +kernel),if_neg (by decide +kernel),if_pos (.inl rfl)]
theorem st_bead:step3 .fac d "bead"=some (.col,d):=by rw [step_fac,if_neg (by decide +kernel),if_neg (by decide +kernel),if_pos rfl]
theorem st_par:step3 .fac d "("=some (.fac,d + 1):=by rw [step_fac,if_neg (by decide +kernel),if_pos rfl]
theorem st_hold (h:t∈hold4):step3 .fac d t=some (.of,d):=by unfold step3;simp only;rw [if_pos h]
theorem st_name (h:wdB t=true):step3 .fac d t=some (.more,d):=by
  unfold step3
  simp only
  rw [if_neg,if_neg (wd_not h (by decide +kernel)),if_neg (wd_not h (by decide +kernel)),if_pos (.inr h)]
  intro m
  have key:∀ t∈hold4,wdB t=false:=by decide +kernel
  rw [key t m] at h
  cases h
theorem st_bad (h1:t ∉ hold4) (h2:t≠"(") (h3:t≠"bead") (h4:t≠"nothing") (h5:wdB t=false):step3 .fac d t=none:=by
  unfold step3
  simp only
  rw [if_neg h1,if_neg h2,if_neg h3,if_neg]
  rintro (e | e)
  . exact h4 e
  . rw [h5] at e;cases e
theorem st_col (h:wdB t=true):step3 .col d t=some (.more,d):=by unfold step3;simp only;rw [if_pos h]
theorem st_colN (h:wdB t=false):step3 .col d t=none:=by unfold step3;simp only;rw [if_neg (by rw [h];decide)]
theorem st_of:step3 .of d "of"=some (.fac,d):=by rw [step_of,if_pos rfl]
theorem st_ofN (h:t≠"of"):step3 .of d t=none:=by unfold step3;simp only;rw [if_neg h]
theorem st_or:step3 .more d "or"=some (.fac,d):=by rw [step_more,if_pos (.inl rfl)]
theorem st_by:step3 .more d "by"=some (.fac,d):=by rw [step_more,if_pos (.inr rfl)]
theorem st_close:step3 .more (d + 1) ")"=some (.more,d):=by rw [step_more,if_neg (by decide +kernel),if_pos ⟨rfl,Nat.succ_pos _⟩];rfl
theorem st_more (h1:t≠"or") (h2:t≠"by") (h3:t≠")"\/d=0):step3 .more d t=none:=by
  unfold step3
  simp only
  rw [if_neg (by rintro (e | e) <;> contradiction),if_neg]
  rintro ⟨e1,e2⟩
  rcases h3 with h | h
  . exact h e1
  . lia
theorem run_stop3 {D:Nat} (h:Nx 0 ts[n]?) (h2:ts[n]?≠some (")":Str)):run3 .more (D + 1) (ts.drop n) n=some n:=by
  cases e:ts[n]? with
  | none=>exact run_end e (by simp)
  | some t =>
    rw [e] at h h2
    exact run_bad e (st_more (fun z=>h.2 rfl (by rw [z])) (fun z=>h.1 (by decide) (by rw [z])) (.inl fun z=>h2 (by rw [z])))
section
variable {C NT dx p wa:Addr} {B:AHp} {z:Str} {Q:AVK} {X:AXK}
theorem need_x (hW:Wok B wa p ts) (hn:n<=ts.length) (h1:ts[n]? = some z->Q .non (Wst C dx p wa B (n + 1))) (h2:ts[n]?≠some z->X NT [("at",.int n)] (Wst C dx p wa B n)):∃ a dx' fs,U.ref wa=.ref a/\Wst C dx p wa B n a=some (.ins C dx' fs)/\fs.lookup (Str.ofString "need")=none/\asp_needX C NT [.ref wa,.str z] (Wst C dx p wa B n) Q X :=
  ⟨wa,dx,_,rfl,Wst.at_,nm_w (by decide +kernel),wa,dx,p,B,ts,n,z,rfl,rfl,hW,hn,h1,h2⟩
theorem free_x (hW:Wok B wa p ts) (hn:n<=ts.length) (ht:∀ t∈ts,t.length<=10000) (h1:∀ z,ts[n]? = some z->wdB z=true->Q (.str z) (Wst C dx p wa B (n + 1))) (h2:(∀ z,ts[n]? = some z->wdB z=false)->X NT [("at",.int n)] (Wst C dx p wa B n)):∃ a dx' fs,U.ref wa=.ref a/\Wst C dx p wa B n a=some (.ins C dx' fs)/\fs.lookup (Str.ofString "free_word")=none/\asp_freeX C NT [.ref wa] (Wst C dx p wa B n) Q X :=
  ⟨wa,dx,_,rfl,Wst.at_,nm_w (by decide +kernel),wa,dx,p,B,ts,n,rfl,rfl,hW,hn,ht,h1,h2⟩
end
theorem hold_mn (h:t∈hold4):∃ k,t=mname k:=by
  have:t="row"\/t="bag"\/t="choice"\/t="ring":=by simpa [hold4] using h
  rcases this with rfl | rfl | rfl | rfl
  . exact ⟨0,rfl⟩
  . exact ⟨1,rfl⟩
  . exact ⟨2,rfl⟩
  . exact ⟨3,rfl⟩
theorem none_yetX {P:Program} {w:World} {K:PySem.W.Frag} {mg:Str->Option Value} {base:Heap} {x qual:Str} {st:Stmt} {f:Addr} {fd:FuncData} {N ps:List Str} {k:Nat} {asp:ASpX} {CX:CXT} (F:Fun K x qual st f fd) (S:FnScope N ps (defScope st)) (h:∀ us A Q X,¬ asp us A Q X):FnOk P w K mg base CX k f fd ps (spOfX K asp) :=
  ⟨fun vs H Q E ⟨us,A,Q',X',_,_,q,_⟩=>(h us A Q' X' q).elim,fun A outer s H args us vs Q E _ _ _ _ ⟨ws,A',Q',X',_,_,q,_⟩=>(h ws A' Q' X' q).elim⟩
end L2
namespace My
open PySem L2
local macro_rules | `(tactic| walk_at "qd") => do
  let ls <- ("q_var0 q_nm0 q_get0 q_varS q_nmS q_getS q_c q_op q_un q_tb q_bl q_int q_and q_or q_not q_andv q_orv q_notv q_chain q_true q_nil q_cons q_const q_tup q_lst q_cb q_call q_nopart q_part q_sl q_bm0 q_bm q_next q_seq q_drop q_ret q_ifs q_asg q_par q_two q_for q_jof q_jargs q_ylr q_ylo q_yt q_ys q_yr1 q_yer q_yeo q_yet q_jrev q_comp q_gtup q_gcons q_gnil q_addi q_adds q_addt q_addr q_xi q_xi2 q_mul q_rep q_lti q_lts q_eqi q_eqs q_eqb q_eqt q_eqr q_eqtn q_eqnt q_eqnn q_eqns q_eqsn q_nei q_nes q_neb q_net q_ner q_netn q_nent q_nenn q_nens q_nesn q_isn q_notn q_int_ q_nint_ q_inr_ q_ninr_ q_ins_ q_nins_ q_ixs q_ix0 q_ix1 q_ix2 q_ixo q_ixr q_sls q_slt1 q_slo q_slr q_lens q_lent q_leno q_lenr q_min2 q_max2 q_minl q_maxl q_sum q_all q_lot q_loo q_lor q_tot q_tor q_xint q_isl q_ist q_app q_pop q_neg q_tru q_trul q_trut q_trub q_isi q_ysr q_yso q_yst q_yesr q_yeso q_yest q_join q_split q_isStr q_no q_inDC q_ixDC q_fld q_sfld q_saug q_meth q_make q_raddi q_isCs q_idxB q_mk0 q_methD q_isC q_jnil q_jcons q_fmt q_fs q_methX q_tryA q_axTup q_goes q_xfld q_callN q_raise q_try0 q_callX q_axCall".splitOn " ").toArray.mapM fun s => `(Lean.Parser.Tactic.simpLemma| ↓$(Lean.mkIdent (.mkSimple s)):ident)
  `(tactic| (try simp only [$ls,*,List.set_cons_zero,List.set_cons_succ,List.cons_append,List.nil_append]))
local macro_rules | `(tactic| walk_at "qg") => `(tactic| (walk_at "qd"; (try simp only [↓q_ixt, ↓q_slt]); walk_at "qd"))
local macro_rules | `(tactic| walk_at "qs") => `(tactic| (simp only [L2.aStart, List.map_cons, List.map_nil, List.length_cons, List.length_nil, List.replicate, List.cons_append, List.nil_append, Nat.reduceAdd, Nat.reduceSub]))
local macro_rules | `(tactic| walk_at "qc") => `(tactic| (try simp only [L2.aCompStart, List.replicate, List.map_cons, List.map_nil, List.getElem?_cons_zero, List.getElem?_cons_succ, Option.join_some, List.cons_append, List.nil_append]))
noncomputable def top (i:Nat):Stmt:=PySem.Challenge.pw_figurebook_k03_rule_texts_refused.main.body.getD i (.Pass ⟨0,0,0,0⟩)
noncomputable abbrev s__wall:Stmt:=top 0
noncomputable abbrev s_NoText___init__:Stmt:=inClass (top 3) 0
noncomputable abbrev s_Twice___init__:Stmt:=inClass (top 4) 0
noncomputable abbrev s_NoClass___init__:Stmt:=inClass (top 5) 0
noncomputable abbrev s_NoStep___init__:Stmt:=inClass (top 6) 0
noncomputable abbrev s_NoLine___init__:Stmt:=inClass (top 7) 0
noncomputable abbrev s_Rule_inside:Stmt:=inClass (top 9) 0
noncomputable abbrev s_Rule_names:Stmt:=inClass (top 9) 1
noncomputable abbrev s_Nothing_told:Stmt:=inClass (top 10) 0
noncomputable abbrev s_Bead___init__:Stmt:=inClass (top 11) 0
noncomputable abbrev s_Bead_told:Stmt:=inClass (top 11) 1
noncomputable abbrev s_Or___init__:Stmt:=inClass (top 12) 0
noncomputable abbrev s_Or_inside:Stmt:=inClass (top 12) 1
noncomputable abbrev s_Or_told:Stmt:=inClass (top 12) 2
noncomputable abbrev s_By___init__:Stmt:=inClass (top 13) 0
noncomputable abbrev s_By_inside:Stmt:=inClass (top 13) 1
noncomputable abbrev s_By_told:Stmt:=inClass (top 13) 2
noncomputable abbrev s_Row___init__:Stmt:=inClass (top 14) 0
noncomputable abbrev s_Row_inside:Stmt:=inClass (top 14) 1
noncomputable abbrev s_Row_told:Stmt:=inClass (top 14) 2
noncomputable abbrev s_Bag___init__:Stmt:=inClass (top 15) 0
noncomputable abbrev s_Bag_inside:Stmt:=inClass (top 15) 1
noncomputable abbrev s_Bag_told:Stmt:=inClass (top 15) 2
noncomputable abbrev s_Choice___init__:Stmt:=inClass (top 16) 0
noncomputable abbrev s_Choice_inside:Stmt:=inClass (top 16) 1
noncomputable abbrev s_Choice_told:Stmt:=inClass (top 16) 2
noncomputable abbrev s_Ring___init__:Stmt:=inClass (top 17) 0
noncomputable abbrev s_Ring_inside:Stmt:=inClass (top 17) 1
noncomputable abbrev s_Ring_told:Stmt:=inClass (top 17) 2
noncomputable abbrev s_Named___init__:Stmt:=inClass (top 18) 0
noncomputable abbrev s_Named_names:Stmt:=inClass (top 18) 1
noncomputable abbrev s_Named_told:Stmt:=inClass (top 18) 2
noncomputable abbrev s_is_word:Stmt:=top 24
noncomputable abbrev s_Words___init__:Stmt:=inClass (top 25) 0
noncomputable abbrev s_Words_ahead:Stmt:=inClass (top 25) 1
noncomputable abbrev s_Words_passed:Stmt:=inClass (top 25) 2
noncomputable abbrev s_Words_need:Stmt:=inClass (top 25) 3
noncomputable abbrev s_Words_free_word:Stmt:=inClass (top 25) 4
noncomputable abbrev s_Words_finish:Stmt:=inClass (top 25) 5
noncomputable abbrev s_read_rule:Stmt:=top 26
noncomputable abbrev s_next_rule:Stmt:=top 27
noncomputable abbrev s_next_term:Stmt:=top 28
noncomputable abbrev s_next_factor:Stmt:=top 29
noncomputable abbrev s_next_plain_factor:Stmt:=top 30
noncomputable abbrev s_held:Stmt:=top 31
noncomputable abbrev s_w_cell:Stmt:=top 33
noncomputable abbrev s_w_kept:Stmt:=top 34
noncomputable abbrev s_w_word:Stmt:=top 35
noncomputable abbrev s_w_is_word:Stmt:=top 36
noncomputable abbrev s_w_total:Stmt:=top 37
noncomputable abbrev s_w_op:Stmt:=top 38
noncomputable abbrev s_w_tree:Stmt:=top 39
noncomputable abbrev s_w_binds:Stmt:=top 40
noncomputable abbrev s_w_shut:Stmt:=top 41
noncomputable abbrev s_w_text:Stmt:=top 42
noncomputable abbrev s_w_new_word:Stmt:=top 43
noncomputable abbrev s_w_changed:Stmt:=top 44
noncomputable abbrev s_w_step:Stmt:=top 45
noncomputable abbrev s_w_fault:Stmt:=top 46
noncomputable abbrev s_w_refused:Stmt:=top 47
noncomputable abbrev s_w_mixed:Stmt:=top 48
noncomputable abbrev s_law:Stmt:=top 49
theorem sc__wall:FnScope ["k"] ["k"] (defScope s__wall):=⟨rfl,rfl,rfl,by decide +kernel,rfl,by decide +kernel,by decide +kernel⟩
theorem sc_NoText___init__:FnScope ["self","at"] ["self","at"] (defScope s_NoText___init__):=⟨rfl,rfl,rfl,by decide +kernel,rfl,by decide +kernel,by decide +kernel⟩
theorem sc_Twice___init__:FnScope ["self","name"] ["self","name"] (defScope s_Twice___init__):=⟨rfl,rfl,rfl,by decide +kernel,rfl,by decide +kernel,by decide +kernel⟩
theorem sc_NoClass___init__:FnScope ["self","name"] ["self","name"] (defScope s_NoClass___init__):=⟨rfl,rfl,rfl,by decide +kernel,rfl,by decide +kernel,by decide +kernel⟩
theorem sc_NoStep___init__:FnScope ["self","at"] ["self","at"] (defScope s_NoStep___init__):=⟨rfl,rfl,rfl,by decide +kernel,rfl,by decide +kernel,by decide +kernel⟩
theorem sc_NoLine___init__:FnScope ["self","line"] ["self","line"] (defScope s_NoLine___init__):=⟨rfl,rfl,rfl,by decide +kernel,rfl,by decide +kernel,by decide +kernel⟩
theorem sc_Rule_inside:FnScope ["self"] ["self"] (defScope s_Rule_inside):=⟨rfl,rfl,rfl,by decide +kernel,rfl,by decide +kernel,by decide +kernel⟩
theorem sc_Rule_names:FnScope ["self"] ["self"] (defScope s_Rule_names):=⟨rfl,rfl,rfl,by decide +kernel,rfl,by decide +kernel,by decide +kernel⟩
theorem sc_Nothing_told:FnScope ["self"] ["self"] (defScope s_Nothing_told):=⟨rfl,rfl,rfl,by decide +kernel,rfl,by decide +kernel,by decide +kernel⟩
theorem sc_Bead___init__:FnScope ["self","colour"] ["self","colour"] (defScope s_Bead___init__):=⟨rfl,rfl,rfl,by decide +kernel,rfl,by decide +kernel,by decide +kernel⟩
theorem sc_Bead_told:FnScope ["self"] ["self"] (defScope s_Bead_told):=⟨rfl,rfl,rfl,by decide +kernel,rfl,by decide +kernel,by decide +kernel⟩
theorem sc_Or___init__:FnScope ["self","one","other"] ["self","one","other"] (defScope s_Or___init__):=⟨rfl,rfl,rfl,by decide +kernel,rfl,by decide +kernel,by decide +kernel⟩
theorem sc_Or_inside:FnScope ["self"] ["self"] (defScope s_Or_inside):=⟨rfl,rfl,rfl,by decide +kernel,rfl,by decide +kernel,by decide +kernel⟩
theorem sc_Or_told:FnScope ["self"] ["self"] (defScope s_Or_told):=⟨rfl,rfl,rfl,by decide +kernel,rfl,by decide +kernel,by decide +kernel⟩
theorem sc_By___init__:FnScope ["self","one","other"] ["self","one","other"] (defScope s_By___init__):=⟨rfl,rfl,rfl,by decide +kernel,rfl,by decide +kernel,by decide +kernel⟩
theorem sc_By_inside:FnScope ["self"] ["self"] (defScope s_By_inside):=⟨rfl,rfl,rfl,by decide +kernel,rfl,by decide +kernel,by decide +kernel⟩
theorem sc_By_told:FnScope ["self"] ["self"] (defScope s_By_told):=⟨rfl,rfl,rfl,by decide +kernel,rfl,by decide +kernel,by decide +kernel⟩
theorem sc_Row___init__:FnScope ["self","part"] ["self","part"] (defScope s_Row___init__):=⟨rfl,rfl,rfl,by decide +kernel,rfl,by decide +kernel,by decide +kernel⟩
theorem sc_Row_inside:FnScope ["self"] ["self"] (defScope s_Row_inside):=⟨rfl,rfl,rfl,by decide +kernel,rfl,by decide +kernel,by decide +kernel⟩
theorem sc_Row_told:FnScope ["self"] ["self"] (defScope s_Row_told):=⟨rfl,rfl,rfl,by decide +kernel,rfl,by decide +kernel,by decide +kernel⟩
theorem sc_Bag___init__:FnScope ["self","part"] ["self","part"] (defScope s_Bag___init__):=⟨rfl,rfl,rfl,by decide +kernel,rfl,by decide +kernel,by decide +kernel⟩
theorem sc_Bag_inside:FnScope ["self"] ["self"] (defScope s_Bag_inside):=⟨rfl,rfl,rfl,by decide +kernel,rfl,by decide +kernel,by decide +kernel⟩
theorem sc_Bag_told:FnScope ["self"] ["self"] (defScope s_Bag_told):=⟨rfl,rfl,rfl,by decide +kernel,rfl,by decide +kernel,by decide +kernel⟩
theorem sc_Choice___init__:FnScope ["self","part"] ["self","part"] (defScope s_Choice___init__):=⟨rfl,rfl,rfl,by decide +kernel,rfl,by decide +kernel,by decide +kernel⟩
theorem sc_Choice_inside:FnScope ["self"] ["self"] (defScope s_Choice_inside):=⟨rfl,rfl,rfl,by decide +kernel,rfl,by decide +kernel,by decide +kernel⟩
theorem sc_Choice_told:FnScope ["self"] ["self"] (defScope s_Choice_told):=⟨rfl,rfl,rfl,by decide +kernel,rfl,by decide +kernel,by decide +kernel⟩
theorem sc_Ring___init__:FnScope ["self","part"] ["self","part"] (defScope s_Ring___init__):=⟨rfl,rfl,rfl,by decide +kernel,rfl,by decide +kernel,by decide +kernel⟩
theorem sc_Ring_inside:FnScope ["self"] ["self"] (defScope s_Ring_inside):=⟨rfl,rfl,rfl,by decide +kernel,rfl,by decide +kernel,by decide +kernel⟩
theorem sc_Ring_told:FnScope ["self"] ["self"] (defScope s_Ring_told):=⟨rfl,rfl,rfl,by decide +kernel,rfl,by decide +kernel,by decide +kernel⟩
theorem sc_Named___init__:FnScope ["self","name"] ["self","name"] (defScope s_Named___init__):=⟨rfl,rfl,rfl,by decide +kernel,rfl,by decide +kernel,by decide +kernel⟩
theorem sc_Named_names:FnScope ["self"] ["self"] (defScope s_Named_names):=⟨rfl,rfl,rfl,by decide +kernel,rfl,by decide +kernel,by decide +kernel⟩
theorem sc_Named_told:FnScope ["self"] ["self"] (defScope s_Named_told):=⟨rfl,rfl,rfl,by decide +kernel,rfl,by decide +kernel,by decide +kernel⟩
theorem sc_is_word:FnScope ["text"] ["text"] (defScope s_is_word):=⟨rfl,rfl,rfl,by decide +kernel,rfl,by decide +kernel,by decide +kernel⟩
theorem sc_Words___init__:FnScope ["self","text"] ["self","text"] (defScope s_Words___init__):=⟨rfl,rfl,rfl,by decide +kernel,rfl,by decide +kernel,by decide +kernel⟩
theorem sc_Words_ahead:FnScope ["self"] ["self"] (defScope s_Words_ahead):=⟨rfl,rfl,rfl,by decide +kernel,rfl,by decide +kernel,by decide +kernel⟩
theorem sc_Words_passed:FnScope ["self","word"] ["self","word"] (defScope s_Words_passed):=⟨rfl,rfl,rfl,by decide +kernel,rfl,by decide +kernel,by decide +kernel⟩
theorem sc_Words_need:FnScope ["self","word"] ["self","word"] (defScope s_Words_need):=⟨rfl,rfl,rfl,by decide +kernel,rfl,by decide +kernel,by decide +kernel⟩
theorem sc_Words_free_word:FnScope ["self","word"] ["self"] (defScope s_Words_free_word):=⟨rfl,rfl,rfl,by decide +kernel,rfl,by decide +kernel,by decide +kernel⟩
theorem sc_Words_finish:FnScope ["self"] ["self"] (defScope s_Words_finish):=⟨rfl,rfl,rfl,by decide +kernel,rfl,by decide +kernel,by decide +kernel⟩
theorem sc_read_rule:FnScope ["text","words","rule"] ["text"] (defScope s_read_rule):=⟨rfl,rfl,rfl,by decide +kernel,rfl,by decide +kernel,by decide +kernel⟩
theorem sc_next_rule:FnScope ["words","rule"] ["words"] (defScope s_next_rule):=⟨rfl,rfl,rfl,by decide +kernel,rfl,by decide +kernel,by decide +kernel⟩
theorem sc_next_term:FnScope ["words","rule"] ["words"] (defScope s_next_term):=⟨rfl,rfl,rfl,by decide +kernel,rfl,by decide +kernel,by decide +kernel⟩
theorem sc_next_factor:FnScope ["words","holders","holder","rule"] ["words"] (defScope s_next_factor):=⟨rfl,rfl,rfl,by decide +kernel,rfl,by decide +kernel,by decide +kernel⟩
theorem sc_next_plain_factor:FnScope ["words","rule"] ["words"] (defScope s_next_plain_factor):=⟨rfl,rfl,rfl,by decide +kernel,rfl,by decide +kernel,by decide +kernel⟩
theorem sc_held:FnScope ["holder","part"] ["holder","part"] (defScope s_held):=⟨rfl,rfl,rfl,by decide +kernel,rfl,by decide +kernel,by decide +kernel⟩
theorem sc_w_cell:FnScope ["_law_script","_law_k"] ["_law_script","_law_k"] (defScope s_w_cell):=⟨rfl,rfl,rfl,by decide +kernel,rfl,by decide +kernel,by decide +kernel⟩
theorem sc_w_kept:FnScope [] [] (defScope s_w_kept):=⟨rfl,rfl,rfl,by decide +kernel,rfl,by decide +kernel,by decide +kernel⟩
theorem sc_w_word:FnScope ["_law_cell_here","_law_word_here","_law_left","_law_k"] ["_law_cell_here"] (defScope s_w_word):=⟨rfl,rfl,rfl,by decide +kernel,rfl,by decide +kernel,by decide +kernel⟩
theorem sc_w_is_word:FnScope ["_law_text_here","_law_sign"] ["_law_text_here"] (defScope s_w_is_word):=⟨rfl,rfl,rfl,by decide +kernel,rfl,by decide +kernel,by decide +kernel⟩
theorem sc_w_total:FnScope ["_law_stack"] ["_law_stack"] (defScope s_w_total):=⟨rfl,rfl,rfl,by decide +kernel,rfl,by decide +kernel,by decide +kernel⟩
theorem sc_w_op:FnScope ["_law_stack","_law_cell_here","_law_kind","_law_turn","_law_other","_law_one","_law_deep","_law_part"] ["_law_stack","_law_cell_here"] (defScope s_w_op):=⟨rfl,rfl,rfl,by decide +kernel,rfl,by decide +kernel,by decide +kernel⟩
theorem sc_w_tree:FnScope ["_law_cells","_law_stack","_law_cell_here","_law_fresh","_law_whole","_law_k","_law_one","_law_deep"] ["_law_cells"] (defScope s_w_tree):=⟨rfl,rfl,rfl,by decide +kernel,rfl,by decide +kernel,by decide +kernel⟩
theorem sc_w_binds:FnScope ["_law_tree_here"] ["_law_tree_here"] (defScope s_w_binds):=⟨rfl,rfl,rfl,by decide +kernel,rfl,by decide +kernel,by decide +kernel⟩
theorem sc_w_shut:FnScope ["_law_tree_here","_law_least"] ["_law_tree_here","_law_least"] (defScope s_w_shut):=⟨rfl,rfl,rfl,by decide +kernel,rfl,by decide +kernel,by decide +kernel⟩
theorem sc_w_text:FnScope ["_law_tree_here"] ["_law_tree_here"] (defScope s_w_text):=⟨rfl,rfl,rfl,by decide +kernel,rfl,by decide +kernel,by decide +kernel⟩
theorem sc_w_new_word:FnScope ["_law_cell_here","_law_some"] ["_law_cell_here"] (defScope s_w_new_word):=⟨rfl,rfl,rfl,by decide +kernel,rfl,by decide +kernel,by decide +kernel⟩
theorem sc_w_changed:FnScope ["_law_words","_law_cell_here","_law_at","_law_fresh"] ["_law_words","_law_cell_here"] (defScope s_w_changed):=⟨rfl,rfl,rfl,by decide +kernel,rfl,by decide +kernel,by decide +kernel⟩
theorem sc_w_step:FnScope ["_law_state","_law_word_here","_law_want","_law_deep"] ["_law_state","_law_word_here"] (defScope s_w_step):=⟨rfl,rfl,rfl,by decide +kernel,rfl,by decide +kernel,by decide +kernel⟩
theorem sc_w_fault:FnScope ["_law_words","_law_state","_law_at","_law_word_here"] ["_law_words"] (defScope s_w_fault):=⟨rfl,rfl,rfl,by decide +kernel,rfl,by decide +kernel,by decide +kernel⟩
theorem sc_w_refused:FnScope ["_law_text_here","_law_caught","_law_found","e","_law_others"] ["_law_text_here"] (defScope s_w_refused):=⟨rfl,rfl,rfl,by decide +kernel,rfl,by decide +kernel,by decide +kernel⟩
theorem sc_w_mixed:FnScope ["_law_script","_law_few","_law_many","_law_raw","_law_numbers","_law_k","_law_cell_here"] ["_law_script","_law_few"] (defScope s_w_mixed):=⟨rfl,rfl,rfl,by decide +kernel,rfl,by decide +kernel,by decide +kernel⟩
theorem sc_law:FnScope ["_law_script","_law_words","_law_deep","_law_closed","_law_k","_law_text_here"] ["_law_script"] (defScope s_law):=⟨rfl,rfl,rfl,by decide +kernel,rfl,by decide +kernel,by decide +kernel⟩
/-- what the top has written: each def of the text,its names;what is not the text's own -/
structure TX (K:PySem.W.Frag) (mg:Str->Option Value) (f_NoText___init__ f_Bead___init__ f_Or___init__ f_By___init__ f_Row___init__ f_Bag___init__ f_Choice___init__ f_Ring___init__ f_Named___init__ f_is_word f_Words___init__ f_Words_ahead f_Words_passed f_Words_need f_Words_free_word f_Words_finish f_read_rule f_next_rule f_next_term f_next_factor f_next_plain_factor f_held f_w_cell f_w_kept f_w_word f_w_is_word f_w_total f_w_op f_w_tree f_w_binds f_w_shut f_w_text f_w_new_word f_w_changed f_w_step f_w_fault f_w_refused f_w_mixed f_law a_Rule a_Nothing a_Bead a_Or a_By a_Row a_Bag a_Choice a_Ring a_Named a_Words a_NoText a_FigureError a_NoClass a_NoLine a_NoStep a_Twice a_HOLDERS a_KEPT:Addr) (d_NoText___init__ d_Bead___init__ d_Or___init__ d_By___init__ d_Row___init__ d_Bag___init__ d_Choice___init__ d_Ring___init__ d_Named___init__ d_is_word d_Words___init__ d_Words_ahead d_Words_passed d_Words_need d_Words_free_word d_Words_finish d_read_rule d_next_rule d_next_term d_next_factor d_next_plain_factor d_held d_w_cell d_w_kept d_w_word d_w_is_word d_w_total d_w_op d_w_tree d_w_binds d_w_shut d_w_text d_w_new_word d_w_changed d_w_step d_w_fault d_w_refused d_w_mixed d_law:FuncData):Prop where
  F_NoText___init__:Fun K "__init__" "NoText.__init__" s_NoText___init__ f_NoText___init__ d_NoText___init__
  B_NoText___init__:Binds K d_NoText___init__ ["self","at"] []
  K_NoText:XCl K a_NoText f_NoText___init__
  F_Bead___init__:Fun K "__init__" "Bead.__init__" s_Bead___init__ f_Bead___init__ d_Bead___init__
  B_Bead___init__:Binds K d_Bead___init__ ["self","colour"] []
  K_Bead:Mk K a_Bead f_Bead___init__
  F_Or___init__:Fun K "__init__" "Or.__init__" s_Or___init__ f_Or___init__ d_Or___init__
  B_Or___init__:Binds K d_Or___init__ ["self","one","other"] []
  K_Or:Mk K a_Or f_Or___init__
  F_By___init__:Fun K "__init__" "By.__init__" s_By___init__ f_By___init__ d_By___init__
  B_By___init__:Binds K d_By___init__ ["self","one","other"] []
  K_By:Mk K a_By f_By___init__
  F_Row___init__:Fun K "__init__" "Row.__init__" s_Row___init__ f_Row___init__ d_Row___init__
  B_Row___init__:Binds K d_Row___init__ ["self","part"] []
  K_Row:Mk K a_Row f_Row___init__
  F_Bag___init__:Fun K "__init__" "Bag.__init__" s_Bag___init__ f_Bag___init__ d_Bag___init__
  B_Bag___init__:Binds K d_Bag___init__ ["self","part"] []
  K_Bag:Mk K a_Bag f_Bag___init__
  F_Choice___init__:Fun K "__init__" "Choice.__init__" s_Choice___init__ f_Choice___init__ d_Choice___init__
  B_Choice___init__:Binds K d_Choice___init__ ["self","part"] []
  K_Choice:Mk K a_Choice f_Choice___init__
  F_Ring___init__:Fun K "__init__" "Ring.__init__" s_Ring___init__ f_Ring___init__ d_Ring___init__
  B_Ring___init__:Binds K d_Ring___init__ ["self","part"] []
  K_Ring:Mk K a_Ring f_Ring___init__
  F_Named___init__:Fun K "__init__" "Named.__init__" s_Named___init__ f_Named___init__ d_Named___init__
  B_Named___init__:Binds K d_Named___init__ ["self","name"] []
  K_Named:Mk K a_Named f_Named___init__
  F_is_word:Fun K "is_word" "is_word" s_is_word f_is_word d_is_word
  B_is_word:Binds K d_is_word ["text"] []
  M_is_word:mg "is_word"=some (.ref f_is_word)
  F_Words___init__:Fun K "__init__" "Words.__init__" s_Words___init__ f_Words___init__ d_Words___init__
  B_Words___init__:Binds K d_Words___init__ ["self","text"] []
  K_Words:Mk K a_Words f_Words___init__
  F_Words_ahead:Fun K "ahead" "Words.ahead" s_Words_ahead f_Words_ahead d_Words_ahead
  B_Words_ahead:Binds K d_Words_ahead ["self"] []
  W_Words_ahead:Meth K a_Words "ahead" f_Words_ahead
  F_Words_passed:Fun K "passed" "Words.passed" s_Words_passed f_Words_passed d_Words_passed
  B_Words_passed:Binds K d_Words_passed ["self","word"] []
  W_Words_passed:Meth K a_Words "passed" f_Words_passed
  F_Words_need:Fun K "need" "Words.need" s_Words_need f_Words_need d_Words_need
  B_Words_need:Binds K d_Words_need ["self","word"] []
  W_Words_need:Meth K a_Words "need" f_Words_need
  F_Words_free_word:Fun K "free_word" "Words.free_word" s_Words_free_word f_Words_free_word d_Words_free_word
  B_Words_free_word:Binds K d_Words_free_word ["self"] []
  W_Words_free_word:Meth K a_Words "free_word" f_Words_free_word
  F_Words_finish:Fun K "finish" "Words.finish" s_Words_finish f_Words_finish d_Words_finish
  B_Words_finish:Binds K d_Words_finish ["self"] []
  W_Words_finish:Meth K a_Words "finish" f_Words_finish
  F_read_rule:Fun K "read_rule" "read_rule" s_read_rule f_read_rule d_read_rule
  B_read_rule:Binds K d_read_rule ["text"] []
  M_read_rule:mg "read_rule"=some (.ref f_read_rule)
  F_next_rule:Fun K "next_rule" "next_rule" s_next_rule f_next_rule d_next_rule
  B_next_rule:Binds K d_next_rule ["words"] []
  M_next_rule:mg "next_rule"=some (.ref f_next_rule)
  F_next_term:Fun K "next_term" "next_term" s_next_term f_next_term d_next_term
  B_next_term:Binds K d_next_term ["words"] []
  M_next_term:mg "next_term"=some (.ref f_next_term)
  F_next_factor:Fun K "next_factor" "next_factor" s_next_factor f_next_factor d_next_factor
  B_next_factor:Binds K d_next_factor ["words"] []
  M_next_factor:mg "next_factor"=some (.ref f_next_factor)
  F_next_plain_factor:Fun K "next_plain_factor" "next_plain_factor" s_next_plain_factor f_next_plain_factor d_next_plain_factor
  B_next_plain_factor:Binds K d_next_plain_factor ["words"] []
  M_next_plain_factor:mg "next_plain_factor"=some (.ref f_next_plain_factor)
  F_held:Fun K "held" "held" s_held f_held d_held
  B_held:Binds K d_held ["holder","part"] []
  M_held:mg "held"=some (.ref f_held)
  F_w_cell:Fun K "_law_cell" "_law_cell" s_w_cell f_w_cell d_w_cell
  B_w_cell:Binds K d_w_cell ["_law_script","_law_k"] []
  M_w_cell:mg "_law_cell"=some (.ref f_w_cell)
  F_w_kept:Fun K "_law_kept" "_law_kept" s_w_kept f_w_kept d_w_kept
  B_w_kept:Binds K d_w_kept [] []
  M_w_kept:mg "_law_kept"=some (.ref f_w_kept)
  F_w_word:Fun K "_law_word" "_law_word" s_w_word f_w_word d_w_word
  B_w_word:Binds K d_w_word ["_law_cell_here"] []
  M_w_word:mg "_law_word"=some (.ref f_w_word)
  F_w_is_word:Fun K "_law_is_word" "_law_is_word" s_w_is_word f_w_is_word d_w_is_word
  B_w_is_word:Binds K d_w_is_word ["_law_text_here"] []
  M_w_is_word:mg "_law_is_word"=some (.ref f_w_is_word)
  F_w_total:Fun K "_law_total" "_law_total" s_w_total f_w_total d_w_total
  B_w_total:Binds K d_w_total ["_law_stack"] []
  M_w_total:mg "_law_total"=some (.ref f_w_total)
  F_w_op:Fun K "_law_op" "_law_op" s_w_op f_w_op d_w_op
  B_w_op:Binds K d_w_op ["_law_stack","_law_cell_here"] []
  M_w_op:mg "_law_op"=some (.ref f_w_op)
  F_w_tree:Fun K "_law_tree" "_law_tree" s_w_tree f_w_tree d_w_tree
  B_w_tree:Binds K d_w_tree ["_law_cells"] []
  M_w_tree:mg "_law_tree"=some (.ref f_w_tree)
  F_w_binds:Fun K "_law_binds" "_law_binds" s_w_binds f_w_binds d_w_binds
  B_w_binds:Binds K d_w_binds ["_law_tree_here"] []
  M_w_binds:mg "_law_binds"=some (.ref f_w_binds)
  F_w_shut:Fun K "_law_shut" "_law_shut" s_w_shut f_w_shut d_w_shut
  B_w_shut:Binds K d_w_shut ["_law_tree_here","_law_least"] []
  M_w_shut:mg "_law_shut"=some (.ref f_w_shut)
  F_w_text:Fun K "_law_text" "_law_text" s_w_text f_w_text d_w_text
  B_w_text:Binds K d_w_text ["_law_tree_here"] []
  M_w_text:mg "_law_text"=some (.ref f_w_text)
  F_w_new_word:Fun K "_law_new_word" "_law_new_word" s_w_new_word f_w_new_word d_w_new_word
  B_w_new_word:Binds K d_w_new_word ["_law_cell_here"] []
  M_w_new_word:mg "_law_new_word"=some (.ref f_w_new_word)
  F_w_changed:Fun K "_law_changed" "_law_changed" s_w_changed f_w_changed d_w_changed
  B_w_changed:Binds K d_w_changed ["_law_words","_law_cell_here"] []
  M_w_changed:mg "_law_changed"=some (.ref f_w_changed)
  F_w_step:Fun K "_law_step" "_law_step" s_w_step f_w_step d_w_step
  B_w_step:Binds K d_w_step ["_law_state","_law_word_here"] []
  M_w_step:mg "_law_step"=some (.ref f_w_step)
  F_w_fault:Fun K "_law_fault" "_law_fault" s_w_fault f_w_fault d_w_fault
  B_w_fault:Binds K d_w_fault ["_law_words"] []
  M_w_fault:mg "_law_fault"=some (.ref f_w_fault)
  F_w_refused:Fun K "_law_refused" "_law_refused" s_w_refused f_w_refused d_w_refused
  B_w_refused:Binds K d_w_refused ["_law_text_here"] []
  M_w_refused:mg "_law_refused"=some (.ref f_w_refused)
  F_w_mixed:Fun K "_law_mixed" "_law_mixed" s_w_mixed f_w_mixed d_w_mixed
  B_w_mixed:Binds K d_w_mixed ["_law_script","_law_few"] []
  M_w_mixed:mg "_law_mixed"=some (.ref f_w_mixed)
  F_law:Fun K "law" "law" s_law f_law d_law
  B_law:Binds K d_law ["_law_script"] []
  M_law:mg "law"=some (.ref f_law)
  m_Rule:mg "Rule"=some (.ref a_Rule)
  L_Rule:Cls K a_Rule
  K_Rule:Mk0 K a_Rule
  m_Nothing:mg "Nothing"=some (.ref a_Nothing)
  L_Nothing:Cls K a_Nothing
  K_Nothing:Mk0 K a_Nothing
  m_Bead:mg "Bead"=some (.ref a_Bead)
  L_Bead:Cls K a_Bead
  N_Bead_colour:NoAttr K a_Bead "colour"
  m_Or:mg "Or"=some (.ref a_Or)
  L_Or:Cls K a_Or
  N_Or_one:NoAttr K a_Or "one"
  N_Or_other:NoAttr K a_Or "other"
  m_By:mg "By"=some (.ref a_By)
  L_By:Cls K a_By
  N_By_one:NoAttr K a_By "one"
  N_By_other:NoAttr K a_By "other"
  m_Row:mg "Row"=some (.ref a_Row)
  L_Row:Cls K a_Row
  N_Row_part:NoAttr K a_Row "part"
  m_Bag:mg "Bag"=some (.ref a_Bag)
  L_Bag:Cls K a_Bag
  N_Bag_part:NoAttr K a_Bag "part"
  m_Choice:mg "Choice"=some (.ref a_Choice)
  L_Choice:Cls K a_Choice
  N_Choice_part:NoAttr K a_Choice "part"
  m_Ring:mg "Ring"=some (.ref a_Ring)
  L_Ring:Cls K a_Ring
  N_Ring_part:NoAttr K a_Ring "part"
  m_Named:mg "Named"=some (.ref a_Named)
  L_Named:Cls K a_Named
  N_Named_name:NoAttr K a_Named "name"
  m_Words:mg "Words"=some (.ref a_Words)
  L_Words:Cls K a_Words
  N_Words_words:NoAttr K a_Words "words"
  N_Words_at:NoAttr K a_Words "at"
  m_NoText:mg "NoText"=some (.ref a_NoText)
  m_FigureError:mg "FigureError"=some (.ref a_FigureError)
  m_NoClass:mg "NoClass"=some (.ref a_NoClass)
  m_NoLine:mg "NoLine"=some (.ref a_NoLine)
  m_NoStep:mg "NoStep"=some (.ref a_NoStep)
  m_Twice:mg "Twice"=some (.ref a_Twice)
  XB:XBase K a_FigureError
  N_NoText_at:NoAttr K a_NoText "at"
  Y_NoText_FigureError:CatchIn K a_NoText a_FigureError true
  X_NoText:XGet K a_NoText
  XI_0:PySem.W.kitOne K (.ref a_NoText) (.ref a_NoText)=some true
  XI_1:PySem.W.kitOne K (.ref a_NoText) (.type "ValueError")=some true
  XI_2:PySem.W.kitOne K (.ref a_NoText) (.ref a_NoClass)=some false
  XI_3:PySem.W.kitOne K (.ref a_NoText) (.ref a_NoLine)=some false
  XI_4:PySem.W.kitOne K (.ref a_NoText) (.ref a_NoStep)=some false
  XI_5:PySem.W.kitOne K (.ref a_NoText) (.ref a_Twice)=some false
  IT:IsTab K [a_Nothing,a_Bead,a_Named,a_Or,a_By,a_Row,a_Bag,a_Choice,a_Ring] a_Rule
  n_ValueError:mg "ValueError"=none
  n_all:mg "all"=none
  n_any:mg "any"=none
  n_bool:mg "bool"=none
  n_enumerate:mg "enumerate"=none
  n_int:mg "int"=none
  n_isinstance:mg "isinstance"=none
  n_len:mg "len"=none
  n_list:mg "list"=none
  n_max:mg "max"=none
  n_min:mg "min"=none
  n_range:mg "range"=none
  n_reversed:mg "reversed"=none
  n_sorted:mg "sorted"=none
  n_str:mg "str"=none
  n_sum:mg "sum"=none
  n_tuple:mg "tuple"=none
  n_zip:mg "zip"=none
  c_HOLDERS:∃ u,mg "HOLDERS"=some u/\RelV (.ref a_HOLDERS) u
  q_HOLDERS:∀ H,SqT K H a_HOLDERS [.str "row",.str "bag",.str "choice",.str "ring"]
  y_HOLDERS:∀ H,tyV K "tuple" (.ref a_HOLDERS) H
  c_KEPT:∃ u,mg "KEPT"=some u/\RelV (.ref a_KEPT) u
  q_KEPT:∀ H,SqT K H a_KEPT [.str "nothing",.str "bead",.str "or",.str "by",.str "row",.str "bag",.str "choice",.str "ring",.str "of",.str "left",.str "right"]
  y_KEPT:∀ H,tyV K "tuple" (.ref a_KEPT) H
  c_LETTERS:∃ u,mg "LETTERS"=some u/\RelV (.str "abcdefghijklmnopqrstuvwxyz") u
  c_LONGEST:∃ u,mg "LONGEST"=some u/\RelV (.int 8) u
variable {P:Program} {w:World} {K:PySem.W.Frag} {mg:Str->Option Value} {base:Heap} {f_NoText___init__ f_Bead___init__ f_Or___init__ f_By___init__ f_Row___init__ f_Bag___init__ f_Choice___init__ f_Ring___init__ f_Named___init__ f_is_word f_Words___init__ f_Words_ahead f_Words_passed f_Words_need f_Words_free_word f_Words_finish f_read_rule f_next_rule f_next_term f_next_factor f_next_plain_factor f_held f_w_cell f_w_kept f_w_word f_w_is_word f_w_total f_w_op f_w_tree f_w_binds f_w_shut f_w_text f_w_new_word f_w_changed f_w_step f_w_fault f_w_refused f_w_mixed f_law a_Rule a_Nothing a_Bead a_Or a_By a_Row a_Bag a_Choice a_Ring a_Named a_Words a_NoText a_FigureError a_NoClass a_NoLine a_NoStep a_Twice a_HOLDERS a_KEPT:Addr} {d_NoText___init__ d_Bead___init__ d_Or___init__ d_By___init__ d_Row___init__ d_Bag___init__ d_Choice___init__ d_Ring___init__ d_Named___init__ d_is_word d_Words___init__ d_Words_ahead d_Words_passed d_Words_need d_Words_free_word d_Words_finish d_read_rule d_next_rule d_next_term d_next_factor d_next_plain_factor d_held d_w_cell d_w_kept d_w_word d_w_is_word d_w_total d_w_op d_w_tree d_w_binds d_w_shut d_w_text d_w_new_word d_w_changed d_w_step d_w_fault d_w_refused d_w_mixed d_law:FuncData} (T:TX K mg f_NoText___init__ f_Bead___init__ f_Or___init__ f_By___init__ f_Row___init__ f_Bag___init__ f_Choice___init__ f_Ring___init__ f_Named___init__ f_is_word f_Words___init__ f_Words_ahead f_Words_passed f_Words_need f_Words_free_word f_Words_finish f_read_rule f_next_rule f_next_term f_next_factor f_next_plain_factor f_held f_w_cell f_w_kept f_w_word f_w_is_word f_w_total f_w_op f_w_tree f_w_binds f_w_shut f_w_text f_w_new_word f_w_changed f_w_step f_w_fault f_w_refused f_w_mixed f_law a_Rule a_Nothing a_Bead a_Or a_By a_Row a_Bag a_Choice a_Ring a_Named a_Words a_NoText a_FigureError a_NoClass a_NoLine a_NoStep a_Twice a_HOLDERS a_KEPT d_NoText___init__ d_Bead___init__ d_Or___init__ d_By___init__ d_Row___init__ d_Bag___init__ d_Choice___init__ d_Ring___init__ d_Named___init__ d_is_word d_Words___init__ d_Words_ahead d_Words_passed d_Words_need d_Words_free_word d_Words_finish d_read_rule d_next_rule d_next_term d_next_factor d_next_plain_factor d_held d_w_cell d_w_kept d_w_word d_w_is_word d_w_total d_w_op d_w_tree d_w_binds d_w_shut d_w_text d_w_new_word d_w_changed d_w_step d_w_fault d_w_refused d_w_mixed d_law)
noncomputable def asp_init1 (C:Addr) (f:Str):ASp:=fun us A Q=>∃ (x dx:Addr) (u:U),us=[.ref x,u]/\A x=some (.ins C dx [])/\Q .non (updA A x (.ins C dx [(f,u)]))
noncomputable def asp_init2 (C:Addr):ASp:=fun us A Q=>∃ (x dx:Addr) (u v:U),us=[.ref x,u,v]/\A x=some (.ins C dx [])/\Q .non (updA A x (.ins C dx [("one",u),("other",v)]))
theorem rpu0 {a:Str} {u:U}:putU a u []=[(a,u)]:=rfl
theorem rpu1 {u v:U}:putU "other" v [(("one":Str),u)]=[(("one":Str),u),(("other":Str),v)]:=by
  have:("one":Str)≠"other":=by decide +kernel
  simp [putU,this]
section
include T
theorem ok_iBead:FnOk P w K mg base CX0 1 f_Bead___init__ d_Bead___init__ ["self","colour"] (spOf K (asp_init1 a_Bead "colour")):=by
  refine' Fun.okA T.F_Bead___init__ (sc:=?sc) (body:=?bd) ?hs ?hb sc_Bead___init__ ?hB ?hS
  case hs=>conv=>lhs;whnf
  case hb=>conv=>lhs;whnf
  case hB=>exact fun S cdv A outer s H E hr=>⟨_,(pss_one (ps_fld (pv 0) (pv 1) rfl)),(ab_sfld ab_var ab_var)⟩
  rintro us A Q ⟨x,dx,u,rfl,hx,q⟩
  refine ⟨rfl,?_⟩
  walk_at "qs"
  walk_at "qd"
  refine ⟨x,_,dx,_,rfl,hx,T.L_Bead,T.N_Bead_colour,by decide,?_⟩
  rw [rpu0]
  exact fg q
theorem ok_iNamed:FnOk P w K mg base CX0 1 f_Named___init__ d_Named___init__ ["self","name"] (spOf K (asp_init1 a_Named "name")):=by
  refine' Fun.okA T.F_Named___init__ (sc:=?sc2) (body:=?bd2) ?hs2 ?hb2 sc_Named___init__ ?hB2 ?hS2
  case hs2=>conv=>lhs;whnf
  case hb2=>conv=>lhs;whnf
  case hB2=>exact fun S cdv A outer s H E hr=>⟨_,(pss_one (ps_fld (pv 0) (pv 1) rfl)),(ab_sfld ab_var ab_var)⟩
  rintro us A Q ⟨x,dx,u,rfl,hx,q⟩
  refine ⟨rfl,?_⟩
  walk_at "qs"
  walk_at "qd"
  refine ⟨x,_,dx,_,rfl,hx,T.L_Named,T.N_Named_name,by decide,?_⟩
  rw [rpu0]
  exact fg q
theorem ok_iRow:FnOk P w K mg base CX0 1 f_Row___init__ d_Row___init__ ["self","part"] (spOf K (asp_init1 a_Row "part")):=by
  refine' Fun.okA T.F_Row___init__ (sc:=?sc3) (body:=?bd3) ?hs3 ?hb3 sc_Row___init__ ?hB3 ?hS3
  case hs3=>conv=>lhs;whnf
  case hb3=>conv=>lhs;whnf
  case hB3=>exact fun S cdv A outer s H E hr=>⟨_,(pss_one (ps_fld (pv 0) (pv 1) rfl)),(ab_sfld ab_var ab_var)⟩
  rintro us A Q ⟨x,dx,u,rfl,hx,q⟩
  refine ⟨rfl,?_⟩
  walk_at "qs"
  walk_at "qd"
  refine ⟨x,_,dx,_,rfl,hx,T.L_Row,T.N_Row_part,by decide,?_⟩
  rw [rpu0]
  exact fg q
theorem ok_iBag:FnOk P w K mg base CX0 1 f_Bag___init__ d_Bag___init__ ["self","part"] (spOf K (asp_init1 a_Bag "part")):=by
  refine' Fun.okA T.F_Bag___init__ (sc:=?sc4) (body:=?bd4) ?hs4 ?hb4 sc_Bag___init__ ?hB4 ?hS4
  case hs4=>conv=>lhs;whnf
  case hb4=>conv=>lhs;whnf
  case hB4=>exact fun S cdv A outer s H E hr=>⟨_,(pss_one (ps_fld (pv 0) (pv 1) rfl)),(ab_sfld ab_var ab_var)⟩
  rintro us A Q ⟨x,dx,u,rfl,hx,q⟩
  refine ⟨rfl,?_⟩
  walk_at "qs"
  walk_at "qd"
  refine ⟨x,_,dx,_,rfl,hx,T.L_Bag,T.N_Bag_part,by decide,?_⟩
  rw [rpu0]
  exact fg q
theorem ok_iChoice:FnOk P w K mg base CX0 1 f_Choice___init__ d_Choice___init__ ["self","part"] (spOf K (asp_init1 a_Choice "part")):=by
  refine' Fun.okA T.F_Choice___init__ (sc:=?sc5) (body:=?bd5) ?hs5 ?hb5 sc_Choice___init__ ?hB5 ?hS5
  case hs5=>conv=>lhs;whnf
  case hb5=>conv=>lhs;whnf
  case hB5=>exact fun S cdv A outer s H E hr=>⟨_,(pss_one (ps_fld (pv 0) (pv 1) rfl)),(ab_sfld ab_var ab_var)⟩
  rintro us A Q ⟨x,dx,u,rfl,hx,q⟩
  refine ⟨rfl,?_⟩
  walk_at "qs"
  walk_at "qd"
  refine ⟨x,_,dx,_,rfl,hx,T.L_Choice,T.N_Choice_part,by decide,?_⟩
  rw [rpu0]
  exact fg q
theorem ok_iRing:FnOk P w K mg base CX0 1 f_Ring___init__ d_Ring___init__ ["self","part"] (spOf K (asp_init1 a_Ring "part")):=by
  refine' Fun.okA T.F_Ring___init__ (sc:=?sc6) (body:=?bd6) ?hs6 ?hb6 sc_Ring___init__ ?hB6 ?hS6
  case hs6=>conv=>lhs;whnf
  case hb6=>conv=>lhs;whnf
  case hB6=>exact fun S cdv A outer s H E hr=>⟨_,(pss_one (ps_fld (pv 0) (pv 1) rfl)),(ab_sfld ab_var ab_var)⟩
  rintro us A Q ⟨x,dx,u,rfl,hx,q⟩
  refine ⟨rfl,?_⟩
  walk_at "qs"
  walk_at "qd"
  refine ⟨x,_,dx,_,rfl,hx,T.L_Ring,T.N_Ring_part,by decide,?_⟩
  rw [rpu0]
  exact fg q
theorem ok_iOr:FnOk P w K mg base CX0 1 f_Or___init__ d_Or___init__ ["self","one","other"] (spOf K (asp_init2 a_Or)):=by
  refine' Fun.okA T.F_Or___init__ (sc:=?sc7) (body:=?bd7) ?hs7 ?hb7 sc_Or___init__ ?hB7 ?hS7
  case hs7=>conv=>lhs;whnf
  case hb7=>conv=>lhs;whnf
  case hB7=>exact fun S cdv A outer s H E hr=>⟨_,(pss_cons (ps_fld (pv 0) (pv 1) rfl)
      (pss_one (ps_fld (pv 0) (pv 2) rfl))),(ab_seq (ab_sfld ab_var ab_var)
      (ab_sfld ab_var ab_var))⟩
  rintro us A Q ⟨x,dx,u,v,rfl,hx,q⟩
  refine ⟨rfl,?_⟩
  walk_at "qs"
  walk_at "qd"
  refine ⟨x,_,dx,_,rfl,hx,T.L_Or,T.N_Or_one,by decide,x,_,dx,_,rfl,updA_same,T.L_Or,T.N_Or_other,by show (1:Nat) < 1000;decide,?_⟩
  rw [updA_updA,rpu0,rpu1]
  exact fg q
theorem ok_iBy:FnOk P w K mg base CX0 1 f_By___init__ d_By___init__ ["self","one","other"] (spOf K (asp_init2 a_By)):=by
  refine' Fun.okA T.F_By___init__ (sc:=?sc8) (body:=?bd8) ?hs8 ?hb8 sc_By___init__ ?hB8 ?hS8
  case hs8=>conv=>lhs;whnf
  case hb8=>conv=>lhs;whnf
  case hB8=>exact fun S cdv A outer s H E hr=>⟨_,(pss_cons (ps_fld (pv 0) (pv 1) rfl)
      (pss_one (ps_fld (pv 0) (pv 2) rfl))),(ab_seq (ab_sfld ab_var ab_var)
      (ab_sfld ab_var ab_var))⟩
  rintro us A Q ⟨x,dx,u,v,rfl,hx,q⟩
  refine ⟨rfl,?_⟩
  walk_at "qs"
  walk_at "qd"
  refine ⟨x,_,dx,_,rfl,hx,T.L_By,T.N_By_one,by decide,x,_,dx,_,rfl,updA_same,T.L_By,T.N_By_other,by show (1:Nat) < 1000;decide,?_⟩
  rw [updA_updA,rpu0,rpu1]
  exact fg q
end
theorem lk1 {a b:Str} {u v:U}:List.lookup a [(a,u),(b,v)]=some u:=by simp [List.lookup]
theorem lk2 {a b:Str} {u v:U} (h:(b == a)=false):List.lookup b [(a,u),(b,v)]=some v:=by simp [List.lookup,h]
theorem lk0 {m a b:Str} {u v:U} (h1:(m == a)=false) (h2:(m == b)=false):List.lookup m [(a,u),(b,v)]=none:=by simp [List.lookup,h1,h2]
theorem pu0 {a:Str} {u:U}:putU a u []=[(a,u)]:=rfl
theorem pu1 {a b:Str} {u v:U} (h:a≠b):putU b v [(a,u)]=[(a,u),(b,v)]:=by simp [putU,h]
theorem pu2 {a b:Str} {u v x:U} (h:a≠b):putU b x [(a,u),(b,v)]=[(a,u),(b,x)]:=by simp [putU,h]
theorem ne_wa:("words":Str)≠"at":=by decide +kernel
theorem beq_aw:(("at":Str) == "words")=false:=by decide +kernel
theorem inU_strs {x:Str} {ts:List Str} (h:x ∉ ts):inU (.str x) (ts.map U.str)=false:=by
  unfold inU inV
  rw [List.any_eq_false]
  intro y hy
  simp only [List.mem_map] at hy
  obtain ⟨_,⟨z,hz,rfl⟩,rfl⟩:=hy
  simp only [U.toV,eqV]
  intro e
  have:z=x:=by simpa using e
  exact h (this ▸ hz)
theorem inU_strs' {x:Str} {ts:List Str} (h:x∈ts):inU (.str x) (ts.map U.str)=true:=by
  unfold inU inV
  rw [List.any_eq_true]
  refine ⟨_,List.mem_map.mpr ⟨_,List.mem_map.mpr ⟨x,h,rfl⟩,rfl⟩,?_⟩
  simp [U.toV,eqV]
theorem str_nil {x:Str} (h:x.length=0):x=Str.ofString "":=by
  have:x.cps=#[]:=Array.eq_empty_of_size_eq_zero h
  cases x
  simp only at this
  rw [this]
  rfl
noncomputable def optU:Option Str->U
  | none=>.non
  | some t=>.str t
noncomputable def asp_winit (C:Addr):ASp:=fun us A Q=>∃ (x dx:Addr) (z:Str) (ts:List Str),us=[.ref x,.str z]/\A x=some (.ins C dx [])/\z.length<=10000/\Txt.split z blk=ts/\ts.length<=10000/\∀ p,A p=none->Q .non (updA (updA A p (.lst (ts.map U.str))) x (.ins C dx [("words",.ref p),("at",.int 0)]))
noncomputable def asp_ahead (C:Addr):ASp:=fun us A Q=>∃ (a p:Addr) (ts:List Str) (n:Nat),us=[.ref a]/\WdOk C A a p ts n/\Q (optU ts[n]?) A
noncomputable def asp_isw:ASp:=fun us A Q=>∃ x:Str,us=[.str x]/\x.length<=10000/\Q (.bl (wdB x)) A
noncomputable def asp_passed (C:Addr):ASp:=fun us A Q=>∃ (a p:Addr) (ts:List Str) (n:Nat) (z:Str),us=[.ref a,.str z]/\WdOk C A a p ts n/\(ts[n]?≠some z->Q (.bl false) A)/\(ts[n]? = some z->∀ dx,A a=some (.ins C dx [("words",.ref p),("at",.int n)])->Q (.bl true) (updA A a (.ins C dx [("words",.ref p),("at",.int (n + 1:Nat))])))
noncomputable def asp_need (C NT:Addr):ASpX:=fun us A Q X=>∃ (a p:Addr) (ts:List Str) (n:Nat) (z:Str),us=[.ref a,.str z]/\WdOk C A a p ts n/\ts.length<=10000/\(ts[n]? = some z->∀ dx,A a=some (.ins C dx [("words",.ref p),("at",.int n)])->Q .non (updA A a (.ins C dx [("words",.ref p),("at",.int (n + 1:Nat))])))/\(ts[n]?≠some z->X NT [("at",.int n)] A)
noncomputable def asp_free (C NT:Addr):ASpX:=fun us A Q X=>∃ (a p:Addr) (ts:List Str) (n:Nat),us=[.ref a]/\WdOk C A a p ts n/\ts.length<=10000/\(∀ t∈ts,t.length<=10000)/\(∀ z,ts[n]? = some z->wdB z=true->∀ dx,A a=some (.ins C dx [("words",.ref p),("at",.int n)])->Q (.str z) (updA A a (.ins C dx [("words",.ref p),("at",.int (n + 1:Nat))])))/\((∀ z,ts[n]? = some z->wdB z=false)->X NT [("at",.int n)] A)
noncomputable def asp_finish (C NT:Addr):ASpX:=fun us A Q X=>∃ (a p:Addr) (ts:List Str) (n:Nat),us=[.ref a]/\WdOk C A a p ts n/\ts.length<=10000/\(ts[n]? = none->Q .non A)/\(∀ z,ts[n]? = some z->X NT [("at",.int n)] A)
theorem okI_n {n m:Nat} (h:n<=m) (hm:m<=10000):okIU (.int n):=by
  refine ⟨n,rfl,?_⟩
  rw [Int.natAbs_natCast]
  by_cases h0:n=0
  . subst h0;decide
  . have h2:n < 2 ^ 14:=by lia
    have:=(Nat.log2_lt h0).mpr h2
    lia
section
include T
theorem ok_tinit:FnOk P w K mg base CX0 1 f_NoText___init__ d_NoText___init__ ["self","at"] (spInit a_NoText "at" okI):=init_ok (t1:="the word ") (t2:=" cannot stand there, or is missing") T.K_NoText T.N_NoText_at rfl rfl (by decide) (by decide) (fun cdv A outer s H E hr=>(pss_cons (ps_expr (pe_sup T.XB (by rfl) T.m_FigureError (pa_cons (pv 0) (pa_cons (pe_fstr (pj_cons pe_str (pj_cons (pe_fmtI (pv 1)) (pj_cons pe_str pj_nil)))) pa_nil))))
      (pss_one (ps_xset (pv 0) (pv 1))))) T.F_NoText___init__ rfl sc_NoText___init__
theorem ok_isw:FnOk P w K mg base CX0 1 f_is_word d_is_word ["text"] (spOf K asp_isw):=by
  refine' Fun.okA T.F_is_word (sc:=?sc9) (body:=?bd9) ?hs9 ?hb9 sc_is_word ?hB9 ?hS9
  case hs9=>conv=>lhs;whnf
  case hb9=>conv=>lhs;whnf
  case hB9=>exact fun S cdv A outer s H E hr=>⟨_,(pss_cons (ps_if ((pw_or (pt_cmpR (o_eqD hr) (pv 0) pe_str (nomark _)) (pw_or (pt_cmpR o_gt (pe_callB c_len (by rfl) T.n_len (by decide +kernel) (pa_cons (pv 0) pa_nil)) (pe_gv (by rfl) T.c_LONGEST) (nomark _)) (pw_or1 (pt_cmpR o_in (pv 0) (pe_gv (by rfl) T.c_KEPT) (by with_unfolding_all rfl)))))).pt (pss_one (ps_ret pe_bl)) pss_nil)
      (pss_one (ps_ret (pe_callB (call_all rfl) (by rfl) T.n_all (by decide +kernel) (pa_cons (pe_comp (ts:=["sign"]) (frs':=[]) (cl:=[]) rfl ⟨rfl,rfl,(by decide +kernel),(by decide +kernel),(fun _ z=>nomatch z),(noFree_has rfl rfl),(fun _ z=>nomatch z)⟩ (pj_str (pv 0)) (fun _ _ _ _=>pg_name (i:=0) nd1 rfl (Or.inl rfl) (.inr rfl)) (fun _ _ _ _=>pifs_nil) (fun _ _ _ _=>by exact (pe_cmpR (k_in K rfl) (pv 0) (pe_gv (by rfl) T.c_LETTERS) (by with_unfolding_all rfl)))) pa_nil))))),(ab_seq (ab_ifs (ab_or (ab_test (ab_op ab_eq ab_var ab_str)) (ab_or (ab_test (ab_op ab_gt (ab_cb ab_len (ab_cons ab_var ab_nil)) ab_int)) (ab_test (ab_op ab_in ab_var (ab_c fun H=>.tup (T.q_KEPT H) (.cons (.str _) (.cons (.str _) (.cons (.str _) (.cons (.str _) (.cons (.str _) (.cons (.str _) (.cons (.str _) (.cons (.str _) (.cons (.str _) (.cons (.str _) (.cons (.str _) .nil)))))))))))))))) (ab_ret ab_bl) ab_next)
      (ab_ret (ab_cb ab_all (ab_cons (ab_comp (ab_jof ab_ystr ab_var) ab_name ab_true (ab_op ab_in ab_var ab_str)) ab_nil))))⟩
  rintro us A Q ⟨x,rfl,hx,q⟩
  refine ⟨rfl,?_⟩
  walk_at "qs"
  walk_at "qd"
  have hno:wdB x=false->Fg Q (.bl false) A:=fun h=>by rw [h] at q;exact fg q
  by_cases h0:x=Str.ofString ""
  . exact iteTt (decide_eq_true h0) (hno (by rw [h0];decide +kernel))
  refine iteFf (decide_eq_false h0) ⟨line1000 (by lia),?_⟩
  by_cases h8:x.length<=8
  . refine iteFf (by simp;lia) ⟨rfl,rfl,?_⟩
    by_cases hk:x∈keptsL
    . refine iteTt (inU_strs' hk) (hno ?_)
      unfold wdB
      simp [hk]
    . refine iteFf (inU_strs (ts:=keptsL) hk) fun l hl=>?_
      walk_at "qc"
      refine cl_mapW x.cps.toList (fun c=>U.str ⟨#[c]⟩) (fun c=>.bl (decide (c∈lettersL.cps.toList))) hl (by rw [show x.cps.toList.length=x.length from by simp [Str.length]];lia) (fun k A2 _ he=>rfl) (fun c A2 hc he Cy hy=>?_) ?_
      . walk_at "qd"
        rw [show occ (Str.ofString "abcdefghijklmnopqrstuvwxyz") ⟨#[c]⟩=decide (c∈lettersL.cps.toList) from ?_]
        . exact hy
        . unfold occ
          rw [StrLaws.found_one]
          rfl
      . walk_at "qd"
        refine ⟨x.cps.toList.map fun c=>decide (c∈lettersL.cps.toList),by rw [updA_same,List.map_map];rfl,fgx (Ext.new hl) ?_⟩
        have : wdB x=(x.cps.toList.map fun c=>decide (c∈lettersL.cps.toList)).all id:=by
          unfold wdB
          have h1:1<=x.length:=by
            rcases Nat.lt_or_ge 0 x.length with h | h
            . exact h
            . exact absurd (str_nil (by lia)) h0
          rw [List.all_map]
          simp [h1,h8,hk]
        rw [<- this]
        exact q
  . refine iteTt (by simp;lia) (hno ?_)
    unfold wdB
    simp [h8]
theorem ok_winit:FnOk P w K mg base CX0 1 f_Words___init__ d_Words___init__ ["self","text"] (spOf K (asp_winit a_Words)):=by
  refine' Fun.okA T.F_Words___init__ (sc:=?sc10) (body:=?bd10) ?hs10 ?hb10 sc_Words___init__ ?hB10 ?hS10
  case hs10=>conv=>lhs;whnf
  case hb10=>conv=>lhs;whnf
  case hB10=>exact fun S cdv A outer s H E hr=>⟨_,(pss_cons (ps_fld (pv 0) (pe_bm PySem.F.plainAttrs_str PySem.F.slot_str_split PySem.F.type_str_split mt_split (pv 1) (pa_cons pe_str pa_nil)) rfl)
      (pss_one (ps_fld (pv 0) pe_int rfl))),(ab_seq (ab_sfld ab_var (ab_bm ab_isStr ab_msplit ab_var (ab_cons ab_str ab_nil)))
      (ab_sfld ab_var ab_int))⟩
  rintro us A Q ⟨x,dx,z,ts,rfl,hx,hz,hs,hl,q⟩
  refine ⟨rfl,?_⟩
  walk_at "qs"
  walk_at "qd"
  have hp2:(Builtin.Str.partsBetween z (Builtin.Str.occurrences z (Str.ofString " ") 0 z.length (z.length + 1)) (Str.ofString " ").length).length<=20000:=by
    rw [length_partsBetween]
    have:=StrLaws.occ_length_le z (Str.ofString " ") 0 z.length (z.length + 1)
    lia
  refine ⟨trivial,by decide +kernel,line1000 (by lia),line1000 (by lia),by rw [hs];exact line1000 (by lia),fun p hp=>?_⟩
  rw [hs]
  refine ⟨x,a_Words,dx,[],rfl,by rw [updA_ne (neA hx hp)];exact hx,T.L_Words,T.N_Words_words,by decide,?_⟩
  refine ⟨x,a_Words,dx,_,rfl,updA_same,T.L_Words,T.N_Words_at,by show (1:Nat) < 1000;decide,?_⟩
  rw [updA_updA,pu0,pu1 ne_wa]
  exact fg (q p hp)
theorem ok_ahead:FnOk P w K mg base CX0 1 f_Words_ahead d_Words_ahead ["self"] (spOf K (asp_ahead a_Words)):=by
  refine' Fun.okA T.F_Words_ahead (sc:=?sc11) (body:=?bd11) ?hs11 ?hb11 sc_Words_ahead ?hB11 ?hS11
  case hs11=>conv=>lhs;whnf
  case hb11=>conv=>lhs;whnf
  case hB11=>exact fun S cdv A outer s H E hr=>⟨_,(pss_cons (ps_if (pt_cmpR (o_eqD hr) (pe_fld (pv 0) rfl) (pe_callB c_len (by rfl) T.n_len (by decide +kernel) (pa_cons (pe_fld (pv 0) rfl) pa_nil)) (nomark _)) (pss_one (ps_ret pe_non)) pss_nil)
      (pss_one (ps_ret (pe_ix o_ix (pe_fld (pv 0) rfl) (pe_fld (pv 0) rfl) (fun _ _=>rfl))))),(ab_seq (ab_ifs (ab_test (ab_op ab_eq (ab_fld ab_var) (ab_cb ab_len (ab_cons (ab_fld ab_var) ab_nil)))) (ab_ret ab_non) ab_next)
      (ab_ret (ab_op ab_ix (ab_fld ab_var) (ab_fld ab_var))))⟩
  rintro us A Q ⟨a,p,ts,n,rfl,⟨⟨dx,ha⟩,hp,hn⟩,q⟩
  refine ⟨rfl,?_⟩
  walk_at "qs"
  walk_at "qd"
  refine ⟨a,_,dx,_,_,rfl,ha,T.L_Words,T.N_Words_at,lk2 beq_aw,a,_,dx,_,_,rfl,ha,T.L_Words,T.N_Words_words,lk1,?_⟩
  walk_at "qd"
  refine ⟨_,hp,?_⟩
  rw [List.length_map]
  by_cases h:n=ts.length
  . refine iteTt (by simp [h]) (fg ?_)
    rw [List.getElem?_eq_none (by lia)] at q
    exact q
  . refine iteFf (by simp;lia) ?_
    refine ⟨a,_,dx,_,_,rfl,ha,T.L_Words,T.N_Words_words,lk1,a,_,dx,_,_,rfl,ha,T.L_Words,T.N_Words_at,lk2 beq_aw,?_⟩
    walk_at "qd"
    have hlt:n < ts.length:=by lia
    rw [List.getElem?_eq_getElem hlt] at q
    exact ⟨_,U.str ts[n],hp,atI_nat (by rw [List.getElem?_map,List.getElem?_eq_getElem hlt];rfl),fg q⟩
theorem ok_passed:FnOk P w K mg base CX0 2 f_Words_passed d_Words_passed ["self","word"] (spOf K (asp_passed a_Words)):=by
  have G_Words_ahead:=ok_ahead (P:=P) (w:=w) (base:=base) T
  refine' Fun.okA T.F_Words_passed (sc:=?sc12) (body:=?bd12) ?hs12 ?hb12 sc_Words_passed ?hB12 ?hS12
  case hs12=>conv=>lhs;whnf
  case hb12=>conv=>lhs;whnf
  case hB12=>exact fun S cdv A outer s H E hr=>⟨_,(pss_cons (ps_if (pt_cmpR (o_neD hr) (pe_meth0 (pv 0) T.L_Words T.W_Words_ahead (G_Words_ahead.mono (by first | decide | lia)) hr T.B_Words_ahead .nil pass0) (pv 1) (nomark _)) (pss_one (ps_ret pe_bl)) pss_nil)
      (pss_cons (ps_fldaug (pv 0) pe_int in_add)
      (pss_one (ps_ret pe_bl)))),(ab_seq (ab_ifs (ab_test (ab_op ab_ne (ab_meth ab_var ab_nil) ab_var)) (ab_ret ab_bl) ab_next)
      (ab_seq (ab_saug ab_var ab_int ab_radd)
      (ab_ret ab_bl)))⟩
  rintro us A Q ⟨a,p,ts,n,z,rfl,hW,q1,q2⟩
  refine ⟨rfl,?_⟩
  walk_at "qs"
  walk_at "qd"
  obtain ⟨⟨dx,ha⟩,hp,hn⟩:=id hW
  refine ⟨a,dx,_,rfl,ha,lk0 (by decide +kernel) (by decide +kernel),a,p,ts,n,rfl,hW,?_⟩
  cases ht:ts[n]? with
  | none =>
    rw [ht] at q1
    show xNe .non (.str z) A _
    exact ⟨_,rfl,iteTt rfl (fg (q1 (by simp)))⟩
  | some t =>
    rw [ht] at q1 q2
    show xNe (.str t) (.str z) A _
    walk_at "qd"
    by_cases h:t=z
    . refine iteFf (by simp [h]) ?_
      refine ⟨a,_,dx,_,_,rfl,ha,T.L_Words,T.N_Words_at,lk2 beq_aw,?_⟩
      walk_at "qd"
      refine ⟨dx,_,ha,by show (2:Nat) < 1000;decide,?_⟩
      rw [pu2 ne_wa]
      exact fg (q2 (by rw [h]) dx ha)
    . exact iteTt (by simp [h]) (fg (q1 (by simpa using h)))
theorem ok_need:FnOk P w K mg base (CXX P w) 4 f_Words_need d_Words_need ["self","word"] (spOfX K (asp_need a_Words a_NoText)):=by
  have G_NoText___init__:=ok_tinit (P:=P) (w:=w) (base:=base) T
  have G_Words_passed:=ok_passed (P:=P) (w:=w) (base:=base) T
  refine' Fun.okX T.F_Words_need (sc:=?sc14) (body:=?bd14) ?hs14 ?hb14 sc_Words_need ?hB14 ?hS14
  case hs14=>conv=>lhs;whnf
  case hb14=>conv=>lhs;whnf
  case hB14=>exact fun S cdv A outer s H E X_ hr hE=>⟨_,(pss_one (ps_if (pt_not (pt_val (pe_meth (pv 0) T.L_Words T.W_Words_passed (G_Words_passed.mono (by first | decide | lia)) hr T.B_Words_passed .nil pass0 (pa_cons (pv 1) pa_nil)))) (pss_one (ps_raiseX rfl T.K_NoText (G_NoText___init__.mono (by first | decide | lia)) hr (by rfl) T.m_NoText T.B_NoText___init__ (pa_cons (pe_fld (pv 0) rfl) pa_nil))) pss_nil)),(ab_ifs (ab_not (ab_tb (ab_meth ab_var (ab_cons ab_var ab_nil)))) (ab_raise hE xok (ab_cons (ab_fld ab_var) ab_nil)) ab_next)⟩
  rintro us A Q X ⟨a,p,ts,n,z,rfl,hW,hl,q1,q2⟩
  refine ⟨rfl,?_⟩
  walk_at "qs"
  walk_at "qd"
  obtain ⟨⟨dx,ha⟩,hp,hn⟩:=id hW
  refine ⟨a,dx,_,rfl,ha,lk0 (by decide +kernel) (by decide +kernel),a,p,ts,n,z,rfl,hW,fun h=>⟨_,rfl,iteTt rfl ?_⟩,fun h dx ha=>⟨_,rfl,iteFf rfl (fg (q1 h dx ha))⟩⟩
  refine ⟨a,_,dx,_,_,rfl,ha,T.L_Words,T.N_Words_at,lk2 beq_aw,?_⟩
  exact ⟨_,rfl,okI_n hn hl,q2 h⟩
theorem ok_free:FnOk P w K mg base (CXX P w) 4 f_Words_free_word d_Words_free_word ["self"] (spOfX K (asp_free a_Words a_NoText)):=by
  have G_NoText___init__:=ok_tinit (P:=P) (w:=w) (base:=base) T
  have G_Words_ahead:=ok_ahead (P:=P) (w:=w) (base:=base) T
  have G_is_word:=ok_isw (P:=P) (w:=w) (base:=base) T
  refine' Fun.okX T.F_Words_free_word (sc:=?sc15) (body:=?bd15) ?hs15 ?hb15 sc_Words_free_word ?hB15 ?hS15
  case hs15=>conv=>lhs;whnf
  case hb15=>conv=>lhs;whnf
  case hB15=>exact fun S cdv A outer s H E X_ hr hE=>⟨_,(pss_cons (ps_set (i:=1) S.nd rfl (Or.inl rfl) (pe_meth0 (pv 0) T.L_Words T.W_Words_ahead (G_Words_ahead.mono (by first | decide | lia)) hr T.B_Words_ahead .nil pass0))
      (pss_cons (ps_if ((pw_or (pt_cmpR op_isN (pv 1) pe_non (nomark _)) (pw_or1 (pt_not (pt_val (pe_call (G_is_word.mono (by first | decide | lia)) hr (by rfl) T.M_is_word T.F_is_word.kp T.B_is_word .nil pass0 (pa_cons (pv 1) pa_nil))))))).pt (pss_one (ps_raiseX rfl T.K_NoText (G_NoText___init__.mono (by first | decide | lia)) hr (by rfl) T.m_NoText T.B_NoText___init__ (pa_cons (pe_fld (pv 0) rfl) pa_nil))) pss_nil)
      (pss_cons (ps_fldaug (pv 0) pe_int in_add)
      (pss_one (ps_ret (pv 1)))))),(ab_seq (ab_asg (ab_meth ab_var ab_nil) ab_name)
      (ab_seq (ab_ifs (ab_or (ab_test (ab_op ab_isN ab_var ab_non)) (ab_not (ab_tb (ab_call (ab_cons ab_var ab_nil))))) (ab_raise hE xok (ab_cons (ab_fld ab_var) ab_nil)) ab_next)
      (ab_seq (ab_saug ab_var ab_int ab_radd)
      (ab_ret ab_var))))⟩
  rintro us A Q X ⟨a,p,ts,n,rfl,hW,hl,hls,q1,q2⟩
  refine ⟨rfl,?_⟩
  walk_at "qs"
  walk_at "qd"
  obtain ⟨⟨dx,ha⟩,hp,hn⟩:=id hW
  refine ⟨a,dx,_,rfl,ha,lk0 (by decide +kernel) (by decide +kernel),a,p,ts,n,rfl,hW,?_⟩
  cases ht:ts[n]? with
  | none =>
    refine iteTt rfl ⟨a,_,dx,_,_,rfl,ha,T.L_Words,T.N_Words_at,lk2 beq_aw,?_⟩
    exact ⟨_,rfl,okI_n hn hl,q2 (by rw [ht];simp)⟩
  | some z =>
    refine iteFf rfl ⟨z,rfl,hls z (List.mem_of_getElem? ht),_,rfl,?_⟩
    cases hz:wdB z with
    | false =>
      refine iteTt rfl ⟨a,_,dx,_,_,rfl,ha,T.L_Words,T.N_Words_at,lk2 beq_aw,?_⟩
      exact ⟨_,rfl,okI_n hn hl,q2 fun y hy=>by rw [ht] at hy;cases hy;exact hz⟩
    | true =>
      refine iteFf rfl ⟨a,_,dx,_,_,rfl,ha,T.L_Words,T.N_Words_at,lk2 beq_aw,?_⟩
      walk_at "qd"
      refine ⟨dx,_,ha,by show (2:Nat) < 1000;decide,?_⟩
      rw [pu2 ne_wa]
      exact fg (q1 z ht hz dx ha)
theorem ok_finish:FnOk P w K mg base (CXX P w) 4 f_Words_finish d_Words_finish ["self"] (spOfX K (asp_finish a_Words a_NoText)):=by
  have G_NoText___init__:=ok_tinit (P:=P) (w:=w) (base:=base) T
  have G_Words_ahead:=ok_ahead (P:=P) (w:=w) (base:=base) T
  refine' Fun.okX T.F_Words_finish (sc:=?sc16) (body:=?bd16) ?hs16 ?hb16 sc_Words_finish ?hB16 ?hS16
  case hs16=>conv=>lhs;whnf
  case hb16=>conv=>lhs;whnf
  case hB16=>exact fun S cdv A outer s H E X_ hr hE=>⟨_,(pss_one (ps_if (pt_cmpR op_notN (pe_meth0 (pv 0) T.L_Words T.W_Words_ahead (G_Words_ahead.mono (by first | decide | lia)) hr T.B_Words_ahead .nil pass0) pe_non (nomark _)) (pss_one (ps_raiseX rfl T.K_NoText (G_NoText___init__.mono (by first | decide | lia)) hr (by rfl) T.m_NoText T.B_NoText___init__ (pa_cons (pe_fld (pv 0) rfl) pa_nil))) pss_nil)),(ab_ifs (ab_test (ab_op ab_notN (ab_meth ab_var ab_nil) ab_non)) (ab_raise hE xok (ab_cons (ab_fld ab_var) ab_nil)) ab_next)⟩
  rintro us A Q X ⟨a,p,ts,n,rfl,hW,hl,q1,q2⟩
  refine ⟨rfl,?_⟩
  walk_at "qs"
  walk_at "qd"
  obtain ⟨⟨dx,ha⟩,hp,hn⟩:=id hW
  refine ⟨a,dx,_,rfl,ha,lk0 (by decide +kernel) (by decide +kernel),a,p,ts,n,rfl,hW,?_⟩
  cases ht:ts[n]? with
  | none=>exact iteFf rfl (fg (q1 ht))
  | some z =>
    refine iteTt rfl ⟨a,_,dx,_,_,rfl,ha,T.L_Words,T.N_Words_at,lk2 beq_aw,?_⟩
    exact ⟨_,rfl,okI_n hn hl,q2 z ht⟩
end
section
include T
theorem ok_passB:FnOk P w K mg base CX0 2 f_Words_passed d_Words_passed ["self","word"] (spOf K (asp_passB a_Words)):=by
  have G_Words_ahead:=ok_ahead (P:=P) (w:=w) (base:=base) T
  refine' Fun.okA T.F_Words_passed (sc:=?sc13) (body:=?bd13) ?hs13 ?hb13 sc_Words_passed ?hB13 ?hS13
  case hs13=>conv=>lhs;whnf
  case hb13=>conv=>lhs;whnf
  case hB13=>exact fun S cdv A outer s H E hr=>⟨_,(pss_cons (ps_if (pt_cmpR (o_neD hr) (pe_meth0 (pv 0) T.L_Words T.W_Words_ahead (G_Words_ahead.mono (by first | decide | lia)) hr T.B_Words_ahead .nil pass0) (pv 1) (nomark _)) (pss_one (ps_ret pe_bl)) pss_nil)
      (pss_cons (ps_fldaug (pv 0) pe_int in_add)
      (pss_one (ps_ret pe_bl)))),(ab_seq (ab_ifs (ab_test (ab_op ab_ne (ab_meth ab_var ab_nil) ab_var)) (ab_ret ab_bl) ab_next)
      (ab_seq (ab_saug ab_var ab_int ab_radd)
      (ab_ret ab_bl)))⟩
  rintro us A Q ⟨a,dx,p,B,ts,n,z,rfl,rfl,hW,hn,q1,q2⟩
  refine ⟨rfl,?_⟩
  walk_at "qs"
  walk_at "qd"
  have hO:=hW.ok (C:=a_Words) (dx:=dx) hn
  refine ⟨a,dx,_,rfl,Wst.at_,lk0 (by decide +kernel) (by decide +kernel),a,p,ts,n,rfl,hO,?_⟩
  cases ht:ts[n]? with
  | none =>
    show xNe .non (.str z) _ _
    rw [q_nens]
    exact ⟨_,rfl,iteTt rfl (fg (q1 (by rw [ht];simp)))⟩
  | some t =>
    show xNe (.str t) (.str z) _ _
    walk_at "qd"
    by_cases h:t=z
    . refine iteFf (by simp [h]) ?_
      refine ⟨a,_,dx,_,_,rfl,Wst.at_,T.L_Words,T.N_Words_at,lk2 beq_aw,?_⟩
      walk_at "qd"
      refine ⟨dx,_,Wst.at_,by show (2:Nat) < 1000;decide,?_⟩
      rw [pu2 ne_wa]
      have:=q2 (by rw [ht,h])
      rw [<- Wst.put (n:=n)] at this
      exact fg this
    . exact iteTt (by simp [h]) (fg (q1 (by rw [ht];simpa using h)))
theorem ok_aheadB:FnOk P w K mg base CX0 1 f_Words_ahead d_Words_ahead ["self"] (spOf K (asp_aheadB a_Words optU)):=(ok_ahead T).imp (spOf_imp fun us A Q ⟨a,dx,p,B,ts,n,e1,e2,hW,hn,q⟩=>⟨a,p,ts,n,e1,by rw [e2];exact hW.ok hn,q⟩)
theorem ok_needB:FnOk P w K mg base (CXX P w) 4 f_Words_need d_Words_need ["self","word"] (spOfX K (asp_needX a_Words a_NoText)):=(ok_need T).imp (spOfX_imp fun us A Q X ⟨a,dx,p,B,ts,n,z,e1,e2,hW,hn,q1,q2⟩=>⟨a,p,ts,n,z,e1,by rw [e2];exact hW.ok hn,by have:=hW.ln;lia,fun ht dx2 h2=>by
  rw [e2,Wst.at_] at h2
  cases h2
  rw [e2,Wst.put]
  exact q1 ht,fun h=>by rw [e2];exact q2 h⟩)
theorem ok_freeB:FnOk P w K mg base (CXX P w) 4 f_Words_free_word d_Words_free_word ["self"] (spOfX K (asp_freeX a_Words a_NoText)):=(ok_free T).imp (spOfX_imp fun us A Q X ⟨a,dx,p,B,ts,n,e1,e2,hW,hn,htl,q1,q2⟩=>⟨a,p,ts,n,e1,by rw [e2];exact hW.ok hn,by have:=hW.ln;lia,htl,fun z ht hz dx2 h2=>by
  rw [e2,Wst.at_] at h2
  cases h2
  rw [e2,Wst.put]
  exact q1 z ht hz,fun h=>by rw [e2];exact q2 h⟩)
theorem ok_held:FnOk P w K mg base CX0 3 f_held d_held ["holder","part"] (spOf K (asp_held (csL [a_Nothing,a_Bead,a_Named,a_Or,a_By,a_Row,a_Bag,a_Choice,a_Ring]))):=by
  have G_Row___init__:=ok_iRow (P:=P) (w:=w) (base:=base) T
  have G_Bag___init__:=ok_iBag (P:=P) (w:=w) (base:=base) T
  have G_Choice___init__:=ok_iChoice (P:=P) (w:=w) (base:=base) T
  have G_Ring___init__:=ok_iRing (P:=P) (w:=w) (base:=base) T
  refine' Fun.okA T.F_held (sc:=?sc17) (body:=?bd17) ?hs17 ?hb17 sc_held ?hB17 ?hS17
  case hs17=>conv=>lhs;whnf
  case hb17=>conv=>lhs;whnf
  case hB17=>exact fun S cdv A outer s H E hr=>⟨_,(pss_cons (ps_if (pt_cmpR (o_eqD hr) (pv 0) pe_str (nomark _)) (pss_one (ps_ret (pe_make T.K_Row (G_Row___init__.mono (by first | decide | lia)) hr (by rfl) T.m_Row T.B_Row___init__ .nil pass0 (pa_cons (pv 1) pa_nil)))) pss_nil)
      (pss_cons (ps_if (pt_cmpR (o_eqD hr) (pv 0) pe_str (nomark _)) (pss_one (ps_ret (pe_make T.K_Bag (G_Bag___init__.mono (by first | decide | lia)) hr (by rfl) T.m_Bag T.B_Bag___init__ .nil pass0 (pa_cons (pv 1) pa_nil)))) pss_nil)
      (pss_cons (ps_if (pt_cmpR (o_eqD hr) (pv 0) pe_str (nomark _)) (pss_one (ps_ret (pe_make T.K_Choice (G_Choice___init__.mono (by first | decide | lia)) hr (by rfl) T.m_Choice T.B_Choice___init__ .nil pass0 (pa_cons (pv 1) pa_nil)))) pss_nil)
      (pss_one (ps_ret (pe_make T.K_Ring (G_Ring___init__.mono (by first | decide | lia)) hr (by rfl) T.m_Ring T.B_Ring___init__ .nil pass0 (pa_cons (pv 1) pa_nil))))))),(ab_seq (ab_ifs (ab_test (ab_op ab_eq ab_var ab_str)) (ab_ret (ab_make (ab_cons ab_var ab_nil))) ab_next)
      (ab_seq (ab_ifs (ab_test (ab_op ab_eq ab_var ab_str)) (ab_ret (ab_make (ab_cons ab_var ab_nil))) ab_next)
      (ab_seq (ab_ifs (ab_test (ab_op ab_eq ab_var ab_str)) (ab_ret (ab_make (ab_cons ab_var ab_nil))) ab_next)
      (ab_ret (ab_make (ab_cons ab_var ab_nil))))))⟩
  rintro us A Q ⟨k,a,rfl,q⟩
  refine ⟨rfl,?_⟩
  walk_at "qs"
  walk_at "qd"
  have q':∀ (C:Addr) (b dx:Addr),A b=none->(csL [a_Nothing,a_Bead,a_Named,a_Or,a_By,a_Row,a_Bag,a_Choice,a_Ring]) (5 + min k 3)=C->Fg Q (.ref b) (updA (updA A b (.ins C dx [])) b (.ins C dx [("part",.ref a)])):=fun C b dx hb e=>by
    subst e
    rw [updA_updA]
    exact fg (q b dx hb)
  rcases k with _ | _ | _ | k
  . exact iteTt (by decide +kernel) fun b dx hb=>⟨b,dx,_,rfl,updA_same,rfl,q' _ b dx hb rfl⟩
  . exact iteFf (by decide +kernel) (iteTt (by decide +kernel) fun b dx hb=>⟨b,dx,_,rfl,updA_same,rfl,q' _ b dx hb rfl⟩)
  . exact iteFf (by decide +kernel) (iteFf (by decide +kernel) (iteTt (by decide +kernel) fun b dx hb=>⟨b,dx,_,rfl,updA_same,rfl,q' _ b dx hb rfl⟩))
  . rw [show mname (k + 1 + 1 + 1)=mname 3 from rfl]
    exact iteFf (by decide +kernel) (iteFf (by decide +kernel) (iteFf (by decide +kernel) fun b dx hb=>⟨b,dx,_,rfl,updA_same,rfl,q' _ b dx hb (by rw [Nat.min_eq_right (by lia)];rfl)⟩))
theorem ok_npf {d:Nat} (G_next_rule:FnOk P w K mg base (CXX P w) (4 * d + 5) f_next_rule d_next_rule ["words"] (spOfX K (asp_rx (csL [a_Nothing,a_Bead,a_Named,a_Or,a_By,a_Row,a_Bag,a_Choice,a_Ring]) a_Words a_NoText d 0))):FnOk P w K mg base (CXX P w) (4 * d + 6) f_next_plain_factor d_next_plain_factor ["words"] (spOfX K (asp_px (csL [a_Nothing,a_Bead,a_Named,a_Or,a_By,a_Row,a_Bag,a_Choice,a_Ring]) a_Words a_NoText d)):=by
  have G_Words_passed:=ok_passB (P:=P) (w:=w) (base:=base) T
  have G_Words_need:=ok_needB (P:=P) (w:=w) (base:=base) T
  have G_Words_free_word:=ok_freeB (P:=P) (w:=w) (base:=base) T
  have G_Bead___init__:=ok_iBead (P:=P) (w:=w) (base:=base) T
  have G_Named___init__:=ok_iNamed (P:=P) (w:=w) (base:=base) T
  refine' Fun.okX T.F_next_plain_factor (sc:=?sc18) (body:=?bd18) ?hs18 ?hb18 sc_next_plain_factor ?hB18 ?hS18
  case hs18=>conv=>lhs;whnf
  case hb18=>conv=>lhs;whnf
  case hB18=>exact fun S cdv A outer s H E X_ hr hE=>⟨_,(pss_cons (ps_if (pt_val (pe_meth (pv 0) T.L_Words T.W_Words_passed (G_Words_passed.mono (by first | decide | lia)) hr T.B_Words_passed .nil pass0 (pa_cons pe_str pa_nil))) (pss_one (ps_ret (pe_mk0 T.K_Nothing (by rfl) T.m_Nothing))) pss_nil)
      (pss_cons (ps_if (pt_val (pe_meth (pv 0) T.L_Words T.W_Words_passed (G_Words_passed.mono (by first | decide | lia)) hr T.B_Words_passed .nil pass0 (pa_cons pe_str pa_nil))) (pss_one (ps_ret (pe_make T.K_Bead (G_Bead___init__.mono (by first | decide | lia)) hr (by rfl) T.m_Bead T.B_Bead___init__ .nil pass0 (pa_cons (pe_methX0 bod_of (pv 0) T.L_Words T.W_Words_free_word (G_Words_free_word.mono (by first | decide | lia)) hr T.B_Words_free_word) pa_nil)))) pss_nil)
      (pss_cons (ps_if (pt_val (pe_meth (pv 0) T.L_Words T.W_Words_passed (G_Words_passed.mono (by first | decide | lia)) hr T.B_Words_passed .nil pass0 (pa_cons pe_str pa_nil))) (pss_cons (ps_set (i:=1) S.nd rfl (Or.inl rfl) (pe_callX bod_of (G_next_rule.mono (by first | decide | lia)) hr (by rfl) T.M_next_rule T.F_next_rule.kp T.B_next_rule (pa_cons (pv 0) pa_nil)))
      (pss_cons (ps_expr (pe_methX bod_of (pv 0) T.L_Words T.W_Words_need (G_Words_need.mono (by first | decide | lia)) hr T.B_Words_need (pa_cons pe_str pa_nil)))
      (pss_one (ps_ret (pv 1))))) pss_nil)
      (pss_one (ps_ret (pe_make T.K_Named (G_Named___init__.mono (by first | decide | lia)) hr (by rfl) T.m_Named T.B_Named___init__ .nil pass0 (pa_cons (pe_methX0 bod_of (pv 0) T.L_Words T.W_Words_free_word (G_Words_free_word.mono (by first | decide | lia)) hr T.B_Words_free_word) pa_nil))))))),(ab_seq (ab_ifs (ab_tb (ab_meth ab_var (ab_cons ab_str ab_nil))) (ab_ret ab_mk0) ab_next)
      (ab_seq (ab_ifs (ab_tb (ab_meth ab_var (ab_cons ab_str ab_nil))) (ab_ret (ab_make (ab_cons (ab_methX hE ab_var ab_nil) ab_nil))) ab_next)
      (ab_seq (ab_ifs (ab_tb (ab_meth ab_var (ab_cons ab_str ab_nil))) (ab_seq (ab_asg (ab_callX hE (ab_cons ab_var ab_nil)) ab_name)
      (ab_seq (ab_drop (ab_methX hE ab_var (ab_cons ab_str ab_nil)))
      (ab_ret ab_var))) ab_next)
      (ab_ret (ab_make (ab_cons (ab_methX hE ab_var ab_nil) ab_nil))))))⟩
  rintro us A Q X ⟨wa,dx,p,B,ts,n,D,rfl,rfl,hW,htl,hn,hp,hh,q1,q2⟩
  refine ⟨rfl,?_⟩
  walk_at "qs"
  walk_at "qd"
  have new:∀ (B':AHp) (b dx2:Addr) (m i:Nat) (fs:List (Str × U)),Ext B B'->B' wa=none->Wst a_Words dx p wa B' m b=none->i < 9->n<=m->m<=ts.length->run3 .more D (ts.drop m) m=run3 .fac D (ts.drop n) n->Fg Q (.ref b) (updA (Wst a_Words dx p wa B' m) b (.ins ((csL [a_Nothing,a_Bead,a_Named,a_Or,a_By,a_Row,a_Bag,a_Choice,a_Ring]) i) dx2 fs)):=fun B' b dx2 m i fs e hn hb hi h1 h2 hr=>by
    obtain ⟨g1,g2,g3⟩:=Wst.new hb
    rw [g3]
    exact fg (q1 _ b m (e.trans (Ext.new g2)) (by rw [updA_ne (Ne.symm g1)];exact hn) ⟨i,dx2,fs,hi,updA_same⟩ h1 h2 hr)
  have eB:=Ext.refl B
  cases ht:ts[n]? with
  | none =>
    refine pass_n hW hn (by rw [ht];simp) ⟨_,rfl,iteFf rfl ?_⟩
    refine pass_n hW hn (by rw [ht];simp) ⟨_,rfl,iteFf rfl ?_⟩
    refine pass_n hW hn (by rw [ht];simp) ⟨_,rfl,iteFf rfl ?_⟩
    exact free_x hW hn htl (fun z h=>by rw [ht] at h;cases h) fun _=>q2 B n n eB hW.no (run_end ht (by simp))
  | some t =>
    have hlt:n + 1<=ts.length:=(List.getElem?_eq_some_iff.mp ht).1
    by_cases h1:t="nothing"
    . rw [h1] at ht
      exact pass_y hW ht ⟨_,rfl,iteTt rfl fun x dx2 hx=>new B x dx2 (n + 1) 0 [] eB hW.no hx (by decide) (by lia) hlt (run_go ht st_nothing).symm⟩
    refine pass_n hW hn (by rw [ht];simpa using h1) ⟨_,rfl,iteFf rfl ?_⟩
    by_cases h2:t="bead"
    . rw [h2] at ht
      refine pass_y hW ht ⟨_,rfl,iteTt rfl ?_⟩
      refine free_x hW hlt htl (fun z hz hw x dx2 hx=>⟨x,dx2,_,rfl,updA_same,rfl,?_⟩) fun h=>q2 B _ (n + 1) eB hW.no ?_
      . rw [updA_updA]
        exact new B x dx2 (n + 1 + 1) 1 _ eB hW.no hx (by decide) (by lia) (List.getElem?_eq_some_iff.mp hz).1 ((run_go ht st_bead).trans (run_go hz (st_col hw))).symm
      . rw [run_go ht st_bead]
        cases hz:ts[n + 1]? with
        | none=>exact run_end hz (by simp)
        | some z=>exact run_bad hz (st_colN (h z hz))
    refine pass_n hW hn (by rw [ht];simpa using h2) ⟨_,rfl,iteFf rfl ?_⟩
    by_cases h3:t="("
    . rw [h3] at ht
      refine pass_y hW ht ⟨_,rfl,iteTt rfl ?_⟩
      refine ⟨wa,dx,p,B,ts,n + 1,D + 1,rfl,rfl,hW,htl,hlt,by have:=par_at ht;lia,fun B' b n' e1 hn1 hr l1 l2 hrun hx=>?_,fun B' n' m e1 hn1 hr=>q2 B' n' m e1 hn1 (by rw [run_go ht st_par];exact hr)⟩
      refine need_x (hW.ext e1 hn1) l2 (fun hz=>fg ?_) fun hz=>q2 B' _ n' e1 hn1 ?_
      . exact q1 B' b (n' + 1) e1 hn1 hr (by lia) (List.getElem?_eq_some_iff.mp hz).1 (by rw [run_go ht st_par,<- hrun,run_go hz st_close])
      . rw [run_go ht st_par,<- hrun]
        exact run_stop3 hx hz
    refine pass_n hW hn (by rw [ht];simpa using h3) ⟨_,rfl,iteFf rfl ?_⟩
    refine free_x hW hn htl (fun z hz hw x dx2 hx=>⟨x,dx2,_,rfl,updA_same,rfl,?_⟩) fun h=>q2 B _ n eB hW.no (run_bad ht (st_bad (hh t ht) h3 h2 h1 (h t ht)))
    rw [updA_updA]
    exact new B x dx2 (n + 1) 2 _ eB hW.no hx (by decide) (by lia) hlt (run_go hz (st_name hw)).symm
theorem ok_nf {d:Nat} (G_next_plain_factor:FnOk P w K mg base (CXX P w) (4 * d + 6) f_next_plain_factor d_next_plain_factor ["words"] (spOfX K (asp_px (csL [a_Nothing,a_Bead,a_Named,a_Or,a_By,a_Row,a_Bag,a_Choice,a_Ring]) a_Words a_NoText d))):FnOk P w K mg base (CXX P w) (4 * d + 7) f_next_factor d_next_factor ["words"] (spOfX K (asp_rx (csL [a_Nothing,a_Bead,a_Named,a_Or,a_By,a_Row,a_Bag,a_Choice,a_Ring]) a_Words a_NoText (d + 1) 2)):=by
  have G_Words_ahead:=ok_aheadB (P:=P) (w:=w) (base:=base) T
  have G_Words_need:=ok_needB (P:=P) (w:=w) (base:=base) T
  have G_held:=ok_held (P:=P) (w:=w) (base:=base) T
  refine' Fun.okX T.F_next_factor (sc:=?sc19) (body:=?bd19) ?hs19 ?hb19 sc_next_factor ?hB19 ?hS19
  case hs19=>conv=>lhs;whnf
  case hb19=>conv=>lhs;whnf
  case hB19=>exact fun S cdv A outer s H E X_ hr hE=>⟨_,(pss_cons (ps_set (i:=1) S.nd rfl (Or.inl rfl) (pe_lst pa_nil))
      (pss_cons (ps_while (own_pass bod_of) (pt_cmpR o_in (pe_meth0 (pv 0) T.L_Words T.W_Words_ahead (G_Words_ahead.mono (by first | decide | lia)) hr T.B_Words_ahead .nil pass0) (pe_gv (by rfl) T.c_HOLDERS) (by with_unfolding_all rfl)) (pss_cons (ps_set (i:=2) S.nd rfl (Or.inl rfl) (pe_meth0 (pv 0) T.L_Words T.W_Words_ahead (G_Words_ahead.mono (by first | decide | lia)) hr T.B_Words_ahead .nil pass0))
      (pss_cons (ps_expr (pe_methX bod_of (pv 0) T.L_Words T.W_Words_need (G_Words_need.mono (by first | decide | lia)) hr T.B_Words_need (pa_cons (pv 2) pa_nil)))
      (pss_cons (ps_expr (pe_methX bod_of (pv 0) T.L_Words T.W_Words_need (G_Words_need.mono (by first | decide | lia)) hr T.B_Words_need (pa_cons pe_str pa_nil)))
      (pss_one (ps_expr (pe_bm PySem.F.plainAttrs_list PySem.F.slot_list_append PySem.F.type_list_append mt_append (pv 1) (pa_cons (pv 2) pa_nil))))))))
      (pss_cons (ps_set (i:=3) S.nd rfl (Or.inl rfl) (pe_callX bod_of (G_next_plain_factor.mono (by first | decide | lia)) hr (by rfl) T.M_next_plain_factor T.F_next_plain_factor.kp T.B_next_plain_factor (pa_cons (pv 0) pa_nil)))
      (pss_cons (ps_for (own_pass bod_of) rfl (pj_rev rfl (by rfl) T.n_reversed (pv 1)) (pg_name (i:=2) S.nd rfl (Or.inl rfl))
      (pss_one (ps_set (i:=3) S.nd rfl (Or.inl rfl) (pe_call (G_held.mono (by first | decide | lia)) hr (by rfl) T.M_held T.F_held.kp T.B_held .nil pass0 (pa_cons (pv 2) (pa_cons (pv 3) pa_nil))))))
      (pss_one (ps_ret (pv 3))))))),(ab_seq (ab_asg (ab_lst ab_nil) ab_name)
      (ab_seq (ab_while (ab_test (ab_op ab_in (ab_meth ab_var ab_nil) (ab_c fun H=>.tup (T.q_HOLDERS H) (.cons (.str _) (.cons (.str _) (.cons (.str _) (.cons (.str _) .nil))))))) (ab_seq (ab_asg (ab_meth ab_var ab_nil) ab_name)
      (ab_seq (ab_drop (ab_methX hE ab_var (ab_cons ab_var ab_nil)))
      (ab_seq (ab_drop (ab_methX hE ab_var (ab_cons ab_str ab_nil)))
      (ab_drop (ab_bm ab_isLst ab_mapp ab_var (ab_cons ab_var ab_nil)))))))
      (ab_seq (ab_asg (ab_callX hE (ab_cons ab_var ab_nil)) ab_name)
      (ab_seq (ab_for (ab_jrev ab_var) ab_name
      (ab_asg (ab_call (ab_cons ab_var (ab_cons ab_var ab_nil))) ab_name))
      (ab_ret ab_var)))))⟩
  rintro us A Q X ⟨wa,dx,p,B,ts,n,D,rfl,rfl,hW,htl,hn,hp,q1,q2⟩
  refine ⟨rfl,?_⟩
  walk_at "qs"
  walk_at "qd"
  refine ⟨by decide,fun h hh=>?_⟩
  obtain ⟨h1,h2,h3⟩:=Wst.new hh
  rw [h3]
  have hln:=hW.ln
  refine while_A (fun ρ A=>∃ (ks:List Nat) (u:Option U) (m:Nat),ρ=[some (.ref wa),some (.ref h),u,none]/\A=Wst a_Words dx p wa (updA B h (.lst (ks.map fun k=>U.str (mname k)))) m/\n<=m/\m<=ts.length/\ks.length<=m/\run3 .fac D (ts.drop m) m=run3 .fac D (ts.drop n) n) (fun _ A=>ts.length - posA A wa) ⟨[],_,n,rfl,rfl,Nat.le_refl _,hn,Nat.zero_le _,rfl⟩ ?_
  rintro ρ A ⟨ks,u,m,rfl,rfl,hnm,hm,hkm,hrun⟩
  have hW2:Wok (updA B h (.lst (ks.map fun k=>U.str (mname k)))) wa p ts:=hW.ext (Ext.new h2) (by rw [updA_ne (Ne.symm h1)];exact hW.no)
  have hne:h≠wa:=h1
  have e0:Ext B (updA B h (.lst (ks.map fun k=>U.str (mname k)))):=Ext.new h2
  have hpm:=par_le (ts:=ts) hnm
  walk_at "qd"
  cases ht:ts[m]? with
  | none =>
    refine ahead_y hW2 hm ht ⟨rfl,rfl,iteFf (by decide +kernel) ?_⟩
    have hh4:∀ t,ts[m]? = some t->t ∉ hold4:=fun t h=>by rw [ht] at h;cases h
    refine ⟨wa,dx,p,_,ts,m,D,rfl,rfl,hW2,htl,hm,by lia,hh4,fun B1 b1 n1 e1 hn1 hr1 l1 l2 hr3=>?_,fun B1 n1 m1 e1 hn1 hr=>q2 B1 n1 m1 (e0.trans e1) hn1 (hrun ▸ hr)⟩
    refine ⟨_,_,rfl,(Wst.get hne).trans (e1 _ _ updA_same),?_⟩
    refine for_revA (ks.map fun k=>U.str (mname k)) (fun j ρ A=>∃ (B2:AHp) (b2:Addr) (u:Option U),ρ=[some (.ref wa),some (.ref h),u,some (.ref b2)]/\A=Wst a_Words dx p wa B2 n1/\Ext B1 B2/\B2 wa=none/\RI (csL [a_Nothing,a_Bead,a_Named,a_Or,a_By,a_Row,a_Bag,a_Choice,a_Ring]) B2 b2) ⟨B1,b1,_,rfl,rfl,Ext.refl _,hn1,hr1⟩ ?_ ?_ ?_
    . rintro j ρ A hj ⟨B2,b2,u2,rfl,rfl,e2,hn2,hr2⟩
      exact (Wst.get hne).trans (e2 _ _ (e1 _ _ updA_same))
    . rintro j u3 ρ A hu ⟨B2,b2,u2,rfl,rfl,e2,hn2,hr2⟩
      obtain ⟨k,rfl⟩:∃ k,u3=U.str (mname k):=by
        have:=List.mem_of_getElem? hu
        rw [List.mem_reverse,List.mem_map] at this
        obtain ⟨k,_,e⟩:=this
        exact ⟨k,e.symm⟩
      walk_at "qd"
      refine ⟨k,b2,rfl,fun c dc hc=>?_⟩
      obtain ⟨c1,c2,c3⟩:=Wst.new hc
      rw [c3]
      exact ⟨_,c,_,rfl,rfl,e2.trans (Ext.new c2),by rw [updA_ne (Ne.symm c1)];exact hn2,⟨_,dc,_,by lia,updA_same⟩⟩
    . rintro ρ A ⟨B2,b2,u2,rfl,rfl,e2,hn2,hr2⟩
      walk_at "qd"
      exact fg (q1 B2 b2 n1 (e0.trans (e1.trans e2)) hn2 hr2 (by lia) l2 (hr3.trans hrun) ⟨fun z=>absurd z (by decide),fun z=>nomatch z⟩)
  | some t =>
    by_cases h4:t∈hold4
    . obtain ⟨k,rfl⟩:=hold_mn h4
      refine ahead_y hW2 hm ht ⟨rfl,rfl,iteTt (inU_mn k) (wh_goA ?_)⟩
      walk_at "qd"
      refine ahead_y hW2 hm ht ?_
      walk_at "qd"
      have hl1:m + 1<=ts.length:=(List.getElem?_eq_some_iff.mp ht).1
      refine need_x hW2 hm (fun _=>need_x hW2 hl1 (fun ho=>?_) fun ho=>?_) fun h=>absurd ht h
      . refine ⟨⟨_,(Wst.get hne).trans updA_same⟩,_,(Wst.get hne).trans updA_same,?_,?_⟩
        . exact line1000' (by rw [List.length_map];lia)
        . rw [Wst.mv hne,updA_updA,posA_st,posA_st]
          have hl2:m + 1 + 1<=ts.length:=(List.getElem?_eq_some_iff.mp ho).1
          refine ⟨⟨ks++[k],_,m + 1 + 1,rfl,by rw [List.map_append];rfl,by lia,hl2,by rw [List.length_append];simp only [List.length_cons,List.length_nil];lia,?_⟩,by lia⟩
          rw [<- hrun,run_go ht (st_hold h4),run_go ho st_of]
      . refine q2 _ _ (m + 1) e0 hW2.no ?_
        rw [<- hrun,run_go ht (st_hold h4)]
        cases hz:ts[m + 1]? with
        | none=>exact run_end hz (by simp)
        | some z=>exact run_bad hz (st_ofN fun e=>ho (by rw [hz,e]))
    . refine ahead_y hW2 hm ht ⟨rfl,rfl,iteFf (inU_strs (ts:=hold4) h4) ?_⟩
      have hh4:∀ t,ts[m]? = some t->t ∉ hold4:=fun t' h=>by rw [ht] at h;injection h with h;rw [<- h];exact h4
      refine ⟨wa,dx,p,_,ts,m,D,rfl,rfl,hW2,htl,hm,by lia,hh4,fun B1 b1 n1 e1 hn1 hr1 l1 l2 hr3=>?_,fun B1 n1 m1 e1 hn1 hr=>q2 B1 n1 m1 (e0.trans e1) hn1 (hrun ▸ hr)⟩
      refine ⟨_,_,rfl,(Wst.get hne).trans (e1 _ _ updA_same),?_⟩
      refine for_revA (ks.map fun k=>U.str (mname k)) (fun j ρ A=>∃ (B2:AHp) (b2:Addr) (u:Option U),ρ=[some (.ref wa),some (.ref h),u,some (.ref b2)]/\A=Wst a_Words dx p wa B2 n1/\Ext B1 B2/\B2 wa=none/\RI (csL [a_Nothing,a_Bead,a_Named,a_Or,a_By,a_Row,a_Bag,a_Choice,a_Ring]) B2 b2) ⟨B1,b1,_,rfl,rfl,Ext.refl _,hn1,hr1⟩ ?_ ?_ ?_
      . rintro j ρ A hj ⟨B2,b2,u2,rfl,rfl,e2,hn2,hr2⟩
        exact (Wst.get hne).trans (e2 _ _ (e1 _ _ updA_same))
      . rintro j u3 ρ A hu ⟨B2,b2,u2,rfl,rfl,e2,hn2,hr2⟩
        obtain ⟨k,rfl⟩:∃ k,u3=U.str (mname k):=by
          have:=List.mem_of_getElem? hu
          rw [List.mem_reverse,List.mem_map] at this
          obtain ⟨k,_,e⟩:=this
          exact ⟨k,e.symm⟩
        walk_at "qd"
        refine ⟨k,b2,rfl,fun c dc hc=>?_⟩
        obtain ⟨c1,c2,c3⟩:=Wst.new hc
        rw [c3]
        exact ⟨_,c,_,rfl,rfl,e2.trans (Ext.new c2),by rw [updA_ne (Ne.symm c1)];exact hn2,⟨_,dc,_,by lia,updA_same⟩⟩
      . rintro ρ A ⟨B2,b2,u2,rfl,rfl,e2,hn2,hr2⟩
        walk_at "qd"
        exact fg (q1 B2 b2 n1 (e0.trans (e1.trans e2)) hn2 hr2 (by lia) l2 (hr3.trans hrun) ⟨fun z=>absurd z (by decide),fun z=>nomatch z⟩)
theorem ok_nt {d:Nat} (G_next_factor:FnOk P w K mg base (CXX P w) (4 * d + 7) f_next_factor d_next_factor ["words"] (spOfX K (asp_rx (csL [a_Nothing,a_Bead,a_Named,a_Or,a_By,a_Row,a_Bag,a_Choice,a_Ring]) a_Words a_NoText (d + 1) 2))):FnOk P w K mg base (CXX P w) (4 * d + 8) f_next_term d_next_term ["words"] (spOfX K (asp_rx (csL [a_Nothing,a_Bead,a_Named,a_Or,a_By,a_Row,a_Bag,a_Choice,a_Ring]) a_Words a_NoText (d + 1) 1)):=by
  have G_Words_passed:=ok_passB (P:=P) (w:=w) (base:=base) T
  have G_By___init__:=ok_iBy (P:=P) (w:=w) (base:=base) T
  refine' Fun.okX T.F_next_term (sc:=?sc20) (body:=?bd20) ?hs20 ?hb20 sc_next_term ?hB20 ?hS20
  case hs20=>conv=>lhs;whnf
  case hb20=>conv=>lhs;whnf
  case hB20=>exact fun S cdv A outer s H E X_ hr hE=>⟨_,(pss_cons (ps_set (i:=1) S.nd rfl (Or.inl rfl) (pe_callX bod_of (G_next_factor.mono (by first | decide | lia)) hr (by rfl) T.M_next_factor T.F_next_factor.kp T.B_next_factor (pa_cons (pv 0) pa_nil)))
      (pss_cons (ps_while (own_pass bod_of) (pt_val (pe_meth (pv 0) T.L_Words T.W_Words_passed (G_Words_passed.mono (by first | decide | lia)) hr T.B_Words_passed .nil pass0 (pa_cons pe_str pa_nil))) (pss_one (ps_set (i:=1) S.nd rfl (Or.inl rfl) (pe_make T.K_By (G_By___init__.mono (by first | decide | lia)) hr (by rfl) T.m_By T.B_By___init__ .nil pass0 (pa_cons (pv 1) (pa_cons (pe_callX bod_of (G_next_factor.mono (by first | decide | lia)) hr (by rfl) T.M_next_factor T.F_next_factor.kp T.B_next_factor (pa_cons (pv 0) pa_nil)) pa_nil))))))
      (pss_one (ps_ret (pv 1))))),(ab_seq (ab_asg (ab_callX hE (ab_cons ab_var ab_nil)) ab_name)
      (ab_seq (ab_while (ab_tb (ab_meth ab_var (ab_cons ab_str ab_nil))) (ab_asg (ab_make (ab_cons ab_var (ab_cons (ab_callX hE (ab_cons ab_var ab_nil)) ab_nil))) ab_name))
      (ab_ret ab_var)))⟩
  rintro us A Q X ⟨wa,dx,p,B,ts,n,D,rfl,rfl,hW,htl,hn,hp,q1,q2⟩
  refine ⟨rfl,?_⟩
  walk_at "qs"
  walk_at "qd"
  refine ⟨wa,dx,p,B,ts,n,D,rfl,rfl,hW,htl,hn,hp,fun B1 b1 n1 e1 hn1 hr1 l1 l2 hr3 hx1=>?_,q2⟩
  walk_at "qd"
  refine while_A (fun ρ A=>∃ (b:Addr) (B2:AHp) (m:Nat),ρ=[some (.ref wa),some (.ref b)]/\A=Wst a_Words dx p wa B2 m/\Ext B B2/\B2 wa=none/\RI (csL [a_Nothing,a_Bead,a_Named,a_Or,a_By,a_Row,a_Bag,a_Choice,a_Ring]) B2 b/\n<=m/\m<=ts.length/\Nx 2 ts[m]?/\run3 .more D (ts.drop m) m=run3 .fac D (ts.drop n) n) (fun _ A=>ts.length - posA A wa) ⟨b1,B1,n1,rfl,rfl,e1,hn1,hr1,l1,l2,hx1,hr3⟩ ?_
  rintro ρ A ⟨b,B2,m,rfl,rfl,e2,hn2,hr2,hnm,hm,hx2,hrun⟩
  walk_at "qd"
  have hW2:=hW.ext e2 hn2
  by_cases ht:ts[m]? = some ("by":Str)
  . have hl1:m + 1<=ts.length:=(List.getElem?_eq_some_iff.mp ht).1
    refine pass_y hW2 ht ⟨_,rfl,iteTt rfl (wh_goA ?_)⟩
    walk_at "qd"
    have hrn:run3 .fac D (ts.drop (m + 1)) (m + 1)=run3 .fac D (ts.drop n) n:=by rw [<- hrun,run_go ht st_by]
    refine ⟨wa,dx,p,B2,ts,m + 1,D,rfl,rfl,hW2,htl,hl1,by have:=par_le (ts:=ts) (show n<=m + 1 by lia);lia,fun B3 b3 n3 e3 hn3 hr3 l3 l4 hr4 hx4 y dy hy=>⟨y,dy,_,_,rfl,updA_same,rfl,?_⟩,fun B' n' k e3 hn3 hr=>q2 B' n' k (e2.trans e3) hn3 (hrn ▸ hr)⟩
    obtain ⟨y1,y2,y3⟩:=Wst.new hy
    rw [updA_updA,y3,posA_st,posA_st]
    exact ⟨⟨y,_,n3,rfl,rfl,(e2.trans e3).trans (Ext.new y2),by rw [updA_ne (Ne.symm y1)];exact hn3,⟨4,dy,_,by decide,updA_same⟩,by lia,l4,hx4,hr4.trans hrn⟩,by lia⟩
  . refine pass_n hW2 hm ht ⟨_,rfl,iteFf rfl (fg (q1 B2 b m e2 hn2 hr2 hnm hm hrun ?_))⟩
    exact ⟨fun _=>ht,fun z=>nomatch z⟩
theorem ok_nr {d:Nat} (G_next_term:FnOk P w K mg base (CXX P w) (4 * d + 8) f_next_term d_next_term ["words"] (spOfX K (asp_rx (csL [a_Nothing,a_Bead,a_Named,a_Or,a_By,a_Row,a_Bag,a_Choice,a_Ring]) a_Words a_NoText (d + 1) 1))):FnOk P w K mg base (CXX P w) (4 * d + 9) f_next_rule d_next_rule ["words"] (spOfX K (asp_rx (csL [a_Nothing,a_Bead,a_Named,a_Or,a_By,a_Row,a_Bag,a_Choice,a_Ring]) a_Words a_NoText (d + 1) 0)):=by
  have G_Words_passed:=ok_passB (P:=P) (w:=w) (base:=base) T
  have G_Or___init__:=ok_iOr (P:=P) (w:=w) (base:=base) T
  refine' Fun.okX T.F_next_rule (sc:=?sc21) (body:=?bd21) ?hs21 ?hb21 sc_next_rule ?hB21 ?hS21
  case hs21=>conv=>lhs;whnf
  case hb21=>conv=>lhs;whnf
  case hB21=>exact fun S cdv A outer s H E X_ hr hE=>⟨_,(pss_cons (ps_set (i:=1) S.nd rfl (Or.inl rfl) (pe_callX bod_of (G_next_term.mono (by first | decide | lia)) hr (by rfl) T.M_next_term T.F_next_term.kp T.B_next_term (pa_cons (pv 0) pa_nil)))
      (pss_cons (ps_while (own_pass bod_of) (pt_val (pe_meth (pv 0) T.L_Words T.W_Words_passed (G_Words_passed.mono (by first | decide | lia)) hr T.B_Words_passed .nil pass0 (pa_cons pe_str pa_nil))) (pss_one (ps_set (i:=1) S.nd rfl (Or.inl rfl) (pe_make T.K_Or (G_Or___init__.mono (by first | decide | lia)) hr (by rfl) T.m_Or T.B_Or___init__ .nil pass0 (pa_cons (pv 1) (pa_cons (pe_callX bod_of (G_next_term.mono (by first | decide | lia)) hr (by rfl) T.M_next_term T.F_next_term.kp T.B_next_term (pa_cons (pv 0) pa_nil)) pa_nil))))))
      (pss_one (ps_ret (pv 1))))),(ab_seq (ab_asg (ab_callX hE (ab_cons ab_var ab_nil)) ab_name)
      (ab_seq (ab_while (ab_tb (ab_meth ab_var (ab_cons ab_str ab_nil))) (ab_asg (ab_make (ab_cons ab_var (ab_cons (ab_callX hE (ab_cons ab_var ab_nil)) ab_nil))) ab_name))
      (ab_ret ab_var)))⟩
  rintro us A Q X ⟨wa,dx,p,B,ts,n,D,rfl,rfl,hW,htl,hn,hp,q1,q2⟩
  refine ⟨rfl,?_⟩
  walk_at "qs"
  walk_at "qd"
  refine ⟨wa,dx,p,B,ts,n,D,rfl,rfl,hW,htl,hn,hp,fun B1 b1 n1 e1 hn1 hr1 l1 l2 hr3 hx1=>?_,q2⟩
  walk_at "qd"
  refine while_A (fun ρ A=>∃ (b:Addr) (B2:AHp) (m:Nat),ρ=[some (.ref wa),some (.ref b)]/\A=Wst a_Words dx p wa B2 m/\Ext B B2/\B2 wa=none/\RI (csL [a_Nothing,a_Bead,a_Named,a_Or,a_By,a_Row,a_Bag,a_Choice,a_Ring]) B2 b/\n<=m/\m<=ts.length/\Nx 1 ts[m]?/\run3 .more D (ts.drop m) m=run3 .fac D (ts.drop n) n) (fun _ A=>ts.length - posA A wa) ⟨b1,B1,n1,rfl,rfl,e1,hn1,hr1,l1,l2,hx1,hr3⟩ ?_
  rintro ρ A ⟨b,B2,m,rfl,rfl,e2,hn2,hr2,hnm,hm,hx2,hrun⟩
  walk_at "qd"
  have hW2:=hW.ext e2 hn2
  by_cases ht:ts[m]? = some ("or":Str)
  . have hl1:m + 1<=ts.length:=(List.getElem?_eq_some_iff.mp ht).1
    refine pass_y hW2 ht ⟨_,rfl,iteTt rfl (wh_goA ?_)⟩
    walk_at "qd"
    have hrn:run3 .fac D (ts.drop (m + 1)) (m + 1)=run3 .fac D (ts.drop n) n:=by rw [<- hrun,run_go ht st_or]
    refine ⟨wa,dx,p,B2,ts,m + 1,D,rfl,rfl,hW2,htl,hl1,by have:=par_le (ts:=ts) (show n<=m + 1 by lia);lia,fun B3 b3 n3 e3 hn3 hr3 l3 l4 hr4 hx4 y dy hy=>⟨y,dy,_,_,rfl,updA_same,rfl,?_⟩,fun B' n' k e3 hn3 hr=>q2 B' n' k (e2.trans e3) hn3 (hrn ▸ hr)⟩
    obtain ⟨y1,y2,y3⟩:=Wst.new hy
    rw [updA_updA,y3,posA_st,posA_st]
    exact ⟨⟨y,_,n3,rfl,rfl,(e2.trans e3).trans (Ext.new y2),by rw [updA_ne (Ne.symm y1)];exact hn3,⟨3,dy,_,by decide,updA_same⟩,by lia,l4,hx4,hr4.trans hrn⟩,by lia⟩
  . refine pass_n hW2 hm ht ⟨_,rfl,iteFf rfl (fg (q1 B2 b m e2 hn2 hr2 hnm hm hrun ?_))⟩
    exact ⟨fun z=>hx2.1 (by decide),fun _=>ht⟩
theorem ok_nrule (d:Nat):FnOk P w K mg base (CXX P w) (4 * d + 5) f_next_rule d_next_rule ["words"] (spOfX K (asp_rx (csL [a_Nothing,a_Bead,a_Named,a_Or,a_By,a_Row,a_Bag,a_Choice,a_Ring]) a_Words a_NoText d 0)):=by
  induction d with
  | zero=>exact none_yetX T.F_next_rule sc_next_rule rx0
  | succ d ih=>exact (ok_nr T (ok_nt T (ok_nf T (ok_npf T ih)))).mono (by lia)
theorem ok_rr {d:Nat}:FnOk P w K mg base (CXX P w) (4 * d + 8) f_read_rule d_read_rule ["text"] (spOfX K (asp_rrX (csL [a_Nothing,a_Bead,a_Named,a_Or,a_By,a_Row,a_Bag,a_Choice,a_Ring]) a_NoText d)):=by
  have G_Words___init__:=ok_winit (P:=P) (w:=w) (base:=base) T
  have G_Words_finish:=ok_finish (P:=P) (w:=w) (base:=base) T
  have G_next_rule:=ok_nrule (P:=P) (w:=w) (base:=base) T d
  refine' Fun.okX T.F_read_rule (sc:=?sc22) (body:=?bd22) ?hs22 ?hb22 sc_read_rule ?hB22 ?hS22
  case hs22=>conv=>lhs;whnf
  case hb22=>conv=>lhs;whnf
  case hB22=>exact fun S cdv A outer s H E X_ hr hE=>⟨_,(pss_cons (ps_set (i:=1) S.nd rfl (Or.inl rfl) (pe_make T.K_Words (G_Words___init__.mono (by first | decide | lia)) hr (by rfl) T.m_Words T.B_Words___init__ .nil pass0 (pa_cons (pv 0) pa_nil)))
      (pss_cons (ps_set (i:=2) S.nd rfl (Or.inl rfl) (pe_callX bod_of (G_next_rule.mono (by first | decide | lia)) hr (by rfl) T.M_next_rule T.F_next_rule.kp T.B_next_rule (pa_cons (pv 1) pa_nil)))
      (pss_cons (ps_expr (pe_methX0 bod_of (pv 1) T.L_Words T.W_Words_finish (G_Words_finish.mono (by first | decide | lia)) hr T.B_Words_finish))
      (pss_one (ps_ret (pv 2)))))),(ab_seq (ab_asg (ab_make (ab_cons ab_var ab_nil)) ab_name)
      (ab_seq (ab_asg (ab_callX hE (ab_cons ab_var ab_nil)) ab_name)
      (ab_seq (ab_drop (ab_methX hE ab_var ab_nil))
      (ab_ret ab_var))))⟩
  rintro us A Q X ⟨z,ts,rfl,hz,hs,hl,htl,hp0,q1,q2⟩
  refine ⟨rfl,?_⟩
  walk_at "qs"
  walk_at "qd"
  refine fun x dx hx=>⟨x,dx,_,ts,rfl,updA_same,hz,hs,by lia,fun p hp=>⟨rfl,?_⟩⟩
  have hxp:x≠p:=fun e=>by rw [<- e,updA_same] at hp;cases hp
  have hpA:A p=none:=by rwa [updA_ne (Ne.symm hxp)] at hp
  rw [show updA (updA (updA A x (.ins a_Words dx [])) p (.lst (ts.map U.str))) x (.ins a_Words dx [("words",.ref p),("at",.int 0)])=Wst a_Words dx p x (updA A p (.lst (ts.map U.str))) 0 from by unfold Wst;rw [updA_swap hxp,updA_updA];rfl]
  have hW:Wok (updA A p (.lst (ts.map U.str))) x p ts:=⟨by rw [updA_ne hxp];exact hx,updA_same,hl⟩
  have eA:Ext A (updA A p (.lst (ts.map U.str))):=Ext.new hpA
  refine ⟨x,dx,p,_,ts,0,0,rfl,rfl,hW,htl,Nat.zero_le _,hp0,fun B b n' eB hn hr l1 l2 hrun hx=>?_,fun B n' m eB hn hr=>q2 _ m (eA.trans (eB.trans (Wst.ext hn))) hr⟩
  have hW2:=hW.ext eB hn
  refine ⟨x,dx,_,rfl,Wst.at_,nm_w (by decide +kernel),x,p,ts,n',rfl,hW2.ok l2,by lia,fun ht=>?_,fun t ht=>q2 _ n' (eA.trans (eB.trans (Wst.ext hn))) ?_⟩
  . exact fgx (Wst.ext hn) (q1 B b (eA.trans eB) hr (by rw [List.drop_zero] at hrun;rw [<- hrun];exact run_fin ht))
  . rw [List.drop_zero] at hrun
    rw [<- hrun]
    refine run_bad ht (st_more (fun e=>hx.2 rfl (by rw [ht,e])) (fun e=>hx.1 (by decide) (by rw [ht,e])) (.inr rfl))
end
theorem inU_yes {x:Str} {ts:List Str} (h:x∈ts):inU (.str x) (ts.map U.str)=true:=by
  unfold inU inV
  rw [List.any_eq_true]
  refine ⟨.str x,?_,?_⟩
  . rw [List.map_map];exact List.mem_map.mpr ⟨x,h,rfl⟩
  . exact beq_self_eq_true x
theorem q_inK {u:U} {A:AHp} {Q:AVK} {p:Addr}:xIn u (.ref p) A Q=∃ us,A p=some (.lst us)/\u.flat=true/\us.all U.flat=true/\Q (.bl (inU u us)) A:=rfl
noncomputable def asp_cell:ASp:=fun us A Q=>∃ (ns:List Int) (k:Int),us=[.rol (ns.map U.int),.int k]/\0<=k/\∀ z,Q (.int z) A
noncomputable def asp_mixed:ASp:=fun us A Q=>∃ (ns:List Int) (few:Int),us=[.rol (ns.map U.int),.int few]/\ns.length<=63/\0<=few/\few<=63/\∀ (l:Addr) (ms:List Int),A l=none->ms.length<=63->few<=ms.length->Q (.ref l) (updA A l (.lst (ms.map U.int)))
noncomputable def asp_kept:ASp:=fun us A Q=>us=[]/\∀ l,A l=none->Q (.ref l) (updA A l (.lst (keptsL.map U.str)))
noncomputable def asp_word:ASp:=fun us A Q=>∃ c:Int,us=[.int c]/\∀ x,wdB x=true->Q (.str x) A
section
include T
theorem ok_cell:FnOk P w K mg base CX0 1 f_w_cell d_w_cell ["_law_script","_law_k"] (spOf K asp_cell):=by
  refine' Fun.okA T.F_w_cell (sc:=?sc23) (body:=?bd23) ?hs23 ?hb23 sc_w_cell ?hB23 ?hS23
  case hs23=>conv=>lhs;whnf
  case hb23=>conv=>lhs;whnf
  case hB23=>exact fun S cdv A outer s H E hr=>⟨_,(pss_cons (ps_if (pt_cmpR o_lt (pv 1) (pe_callB c_len (by rfl) T.n_len (by decide +kernel) (pa_cons (pv 0) pa_nil)) (nomark _)) (pss_one (ps_ret (pe_ix o_ix (pv 0) (pv 1) (fun _ _=>rfl)))) pss_nil)
      (pss_one (ps_ret pe_int))),(ab_seq (ab_ifs (ab_test (ab_op ab_lt ab_var (ab_cb ab_len (ab_cons ab_var ab_nil)))) (ab_ret (ab_op ab_ix ab_var ab_var)) ab_next)
      (ab_ret ab_int))⟩
  rintro us A Q ⟨ns,k,rfl,hk,q⟩
  refine ⟨rfl,?_⟩
  walk_at "qs"
  walk_at "qd"
  refine iteB (fun h=>?_) fun _=>fg (q 0)
  have h':k < ns.length:=by simpa using h
  obtain ⟨z,h1,_⟩:=atI_intsU hk h'
  exact ⟨_,h1,fg (q z)⟩
theorem ok_mixed:FnOk P w K mg base CX0 2 f_w_mixed d_w_mixed ["_law_script","_law_few"] (spOf K asp_mixed):=by
  have G_w_cell:=ok_cell (P:=P) (w:=w) (base:=base) T
  refine' Fun.okA T.F_w_mixed (sc:=?sc25) (body:=?bd25) ?hs25 ?hb25 sc_w_mixed ?hB25 ?hS25
  case hs25=>conv=>lhs;whnf
  case hb25=>conv=>lhs;whnf
  case hB25=>exact fun S cdv A outer s H E hr=>⟨_,(pss_cons (ps_set (i:=2) S.nd rfl (Or.inl rfl) (pe_callB (c_maxA rfl) (by rfl) T.n_max (by decide +kernel) (pa_cons (pv 1) (pa_cons (pe_callB (c_minA rfl) (by rfl) T.n_min (by decide +kernel) (pa_cons pe_int (pa_cons (pe_callB c_len (by rfl) T.n_len (by decide +kernel) (pa_cons (pv 0) pa_nil)) pa_nil))) pa_nil))))
      (pss_cons (ps_set (i:=3) S.nd rfl (Or.inl rfl) (pe_cmpR (o_eqD hr) (pe_op o_mod (pe_call (G_w_cell.mono (by first | decide | lia)) hr (by rfl) T.M_w_cell T.F_w_cell.kp T.B_w_cell .nil pass0 (pa_cons (pv 0) (pa_cons pe_int pa_nil))) pe_int) pe_int (nomark _)))
      (pss_cons (ps_set (i:=4) S.nd rfl (Or.inl rfl) (pe_lst pa_nil))
      (pss_cons (ps_for PassesOwn.never rfl (pj_range1 rfl T.n_range (pa_cons (pv 2) pa_nil)) (pg_name (i:=5) S.nd rfl (Or.inl rfl))
      (pss_cons (ps_set (i:=6) S.nd rfl (Or.inl rfl) (pe_op o_fdiv (pe_call (G_w_cell.mono (by first | decide | lia)) hr (by rfl) T.M_w_cell T.F_w_cell.kp T.B_w_cell .nil pass0 (pa_cons (pv 0) (pa_cons (pv 5) pa_nil))) (pe_op o_addW pe_int (pe_callTy c_int (by rfl) T.n_int (by decide +kernel) (pa_cons (pe_cmpR (o_eqD hr) (pv 5) pe_int (nomark _)) pa_nil)))))
      (pss_cons (ps_if ((pw_or (pt_not (pt_val (pv 3))) (pw_or1 (pt_cmpR o_ge (pv 5) (pe_callB c_len (by rfl) T.n_len (by decide +kernel) (pa_cons (pv 0) pa_nil)) (nomark _))))).pt (pss_cons (ps_set (i:=6) S.nd rfl (Or.inl rfl) (pe_op o_mod (pe_op o_mulB (pe_op o_addW (pe_op o_mod (pv 6) (pe_op o_pow pe_int pe_int)) (pe_op o_mulB pe_int (pv 5))) pe_int) pe_int))
      (pss_one (ps_set (i:=6) S.nd rfl (Or.inl rfl) (pe_op o_mod (pe_op o_mulB (pv 6) pe_int) pe_int)))) pss_nil)
      (pss_one (ps_expr (pe_bm PySem.F.plainAttrs_list PySem.F.slot_list_append PySem.F.type_list_append mt_append (pv 4) (pa_cons (pv 6) pa_nil)))))))
      (pss_one (ps_ret (pv 4))))))),(ab_seq (ab_asg (ab_cb ab_max (ab_cons ab_var (ab_cons (ab_cb ab_min (ab_cons ab_int (ab_cons (ab_cb ab_len (ab_cons ab_var ab_nil)) ab_nil))) ab_nil))) ab_name)
      (ab_seq (ab_asg (ab_op ab_eq (ab_op ab_mod (ab_call (ab_cons ab_var (ab_cons ab_int ab_nil))) ab_int) ab_int) ab_name)
      (ab_seq (ab_asg (ab_lst ab_nil) ab_name)
      (ab_seq (ab_for (ab_jrng1 (ab_cons ab_var ab_nil)) ab_name
      (ab_seq (ab_asg (ab_op ab_div (ab_call (ab_cons ab_var (ab_cons ab_var ab_nil))) (ab_op ab_add ab_int (ab_cb ab_xint (ab_cons (ab_op ab_eq ab_var ab_int) ab_nil)))) ab_name)
      (ab_seq (ab_ifH (ab_or (ab_not (ab_tb ab_var)) (ab_test (ab_op ab_ge ab_var (ab_cb ab_len (ab_cons ab_var ab_nil))))) (ab_seq (ab_asg (ab_op ab_mod (ab_op ab_mul (ab_op ab_add (ab_op ab_mod ab_var (ab_op ab_pow ab_int ab_int)) (ab_op ab_mul ab_int ab_var)) ab_int) ab_int) ab_name)
      (ab_asg (ab_op ab_mod (ab_op ab_mul ab_var ab_int) ab_int) ab_name)) ab_next)
      (ab_drop (ab_bm ab_isLst ab_mapp ab_var (ab_cons ab_var ab_nil))))))
      (ab_ret ab_var)))))⟩
  rintro us A Q ⟨ns,few,rfl,hn,h0,h63,q⟩
  refine ⟨rfl,?_⟩
  walk_at "qs"
  walk_at "qd"
  refine ⟨ns,0,rfl,by decide,fun z0=>?_⟩
  walk_at "qd"
  refine ⟨by decide,by decide,fun p hp=>?_⟩
  rw [List.length_map]
  generalize decide (z0 % 2=0)=raw
  walk_at "qd"
  refine ⟨by lia,by lia,?_⟩
  refine for_rng (fun k ρ A2=>∃ (ms:List Int) (x5 x6:Option U),ρ=[some (.rol (ns.map U.int)),some (.int few),some (.int (max few (min 63 ns.length))),some (.bl raw),some (.ref p),x5,x6]/\A2=updA A p (.lst (ms.map U.int))/\ms.length=k) ⟨[],_,_,rfl,rfl,rfl⟩ ?_ ?_
  . rintro k ρ A2 hk ⟨ms,x5,x6,rfl,rfl,hm⟩
    walk_at "qd"
    refine ⟨ns,_,rfl,by lia,fun z=>?_⟩
    walk_at "qd"
    rw [q_xintb]
    walk_at "qd"
    refine ⟨?_,?_⟩
    . split <;> exact ⟨by decide,by decide⟩
    . refine if_open (!raw || decide ((ns.length:Int)<=0 + k)) (fun B hB=>?_) ?_
      . walk_at "qd"
        rw [List.length_map]
        cases raw
        . exact iteTt rfl hB
        . exact iteFf rfl hB
      . generalize (z / (1 + if decide (0 + (k:Int)=0)=true then 1 else 0))=z'
        refine iteB (fun _=>?_) fun _=>?_
        . walk_at "qd"
          exact ⟨⟨by decide,by decide,by decide⟩,(show (0:Int) < 10 ^ Int.toNat 15 by decide),mul_small (.inl ⟨by decide,by decide⟩),mul_small (.inr ⟨by decide,by decide⟩),(show (0:Int) < 2147483647 by decide),mul_small (.inr ⟨by decide,by decide⟩),(show (0:Int) < 2147483629 by decide),
            ⟨_,updA_same⟩,_,updA_same,line1000' (by rw [List.length_map];lia),ms++[_],_,_,rfl,by rw [updA_updA,List.map_append];rfl,by rw [List.length_append,hm];rfl⟩
        . walk_at "qd"
          exact ⟨⟨_,updA_same⟩,_,updA_same,line1000' (by rw [List.length_map];lia),ms++[_],_,_,rfl,by rw [updA_updA,List.map_append];rfl,by rw [List.length_append,hm];rfl⟩
  . rintro ρ A2 ⟨ms,x5,x6,rfl,rfl,hm⟩
    walk_at "qd"
    exact fg (q p ms hp (by lia) (by lia))
theorem ok_kept:FnOk P w K mg base CX0 1 f_w_kept d_w_kept [] (spOf K asp_kept):=(ok_strs T.F_w_kept keptsL rfl rfl (by decide) sc_w_kept).imp fun vs H Q E ⟨us,A,Q',r,g,⟨e,q⟩,k⟩=>⟨by subst e;cases r;rfl,fun l hl=>k _ _ _ _ (Same.upd_new hl).kp (g.newL hl RUs.of_strs) (.ref l) (q l (g.none hl))⟩
theorem ok_word:FnOk P w K mg base CX0 2 f_w_word d_w_word ["_law_cell_here"] (spOf K asp_word):=by
  have G_w_kept:=ok_kept (P:=P) (w:=w) (base:=base) T
  refine' Fun.okA T.F_w_word (sc:=?sc26) (body:=?bd26) ?hs26 ?hb26 sc_w_word ?hB26 ?hS26
  case hs26=>conv=>lhs;whnf
  case hb26=>conv=>lhs;whnf
  case hB26=>exact fun S cdv A outer s H E hr=>⟨_,(pss_cons (ps_set (i:=1) S.nd rfl (Or.inl rfl) pe_str)
      (pss_cons (ps_set (i:=2) S.nd rfl (Or.inl rfl) (pe_op o_fdiv (pv 0) pe_int))
      (pss_cons (ps_for PassesOwn.never rfl (pj_range1 rfl T.n_range (pa_cons (pe_op o_addW pe_int (pe_op o_mod (pv 0) pe_int)) pa_nil)) (pg_name (i:=3) S.nd rfl (Or.inl rfl))
      (pss_cons (ps_set (i:=1) S.nd rfl (Or.inl rfl) (pe_op o_addW (pv 1) (pe_ix o_ix pe_str (pe_op o_mod (pv 2) pe_int) (fun _ _=>rfl))))
      (pss_one (ps_set (i:=2) S.nd rfl (Or.inl rfl) (pe_op o_fdiv (pv 2) pe_int)))))
      (pss_cons (ps_if (pt_cmpR o_in (pv 1) (pe_call0 (G_w_kept.mono (by first | decide | lia)) hr (by rfl) T.M_w_kept T.F_w_kept.kp T.B_w_kept .nil pass0) (by with_unfolding_all rfl)) (pss_one (ps_set (i:=1) S.nd rfl (Or.inl rfl) (pe_op o_addW (pv 1) pe_str))) pss_nil)
      (pss_one (ps_ret (pv 1))))))),(ab_seq (ab_asg ab_str ab_name)
      (ab_seq (ab_asg (ab_op ab_div ab_var ab_int) ab_name)
      (ab_seq (ab_for (ab_jrng1 (ab_cons (ab_op ab_add ab_int (ab_op ab_mod ab_var ab_int)) ab_nil)) ab_name
      (ab_seq (ab_asg (ab_op ab_add ab_var (ab_op ab_ix ab_str (ab_op ab_mod ab_var ab_int))) ab_name)
      (ab_asg (ab_op ab_div ab_var ab_int) ab_name)))
      (ab_seq (ab_ifs (ab_test (ab_op ab_in ab_var (ab_call ab_nil))) (ab_asg (ab_op ab_add ab_var ab_str) ab_name) ab_next)
      (ab_ret ab_var)))))⟩
  rintro us A Q ⟨c,rfl,q⟩
  refine ⟨rfl,?_⟩
  walk_at "qs"
  walk_at "qd"
  refine ⟨⟨by decide,by decide⟩,?_⟩
  walk_at "qd"
  have hc8:0<=c % 8/\c % 8 < 8:=⟨Int.emod_nonneg _ (by decide),Int.emod_lt_of_pos _ (by decide)⟩
  refine ⟨(show (0:Int) < 8 by decide),by lia,by lia,?_⟩
  refine for_rng (fun k ρ A2=>∃ (x:Str) (l:Int) (x3:Option U),ρ=[some (.int c),some (.str x),some (.int l),x3]/\A2=A/\x.length=k/\∀ c∈x.cps.toList,c∈lettersL.cps.toList) ⟨"",_,_,rfl,rfl,by decide +kernel,fun c hc=>absurd hc (by decide +revert +kernel)⟩ ?_ ?_
  . rintro k ρ A2 hk ⟨x,l,x3,rfl,rfl,hx,hc⟩
    walk_at "qd"
    have h26:0<=l % 26/\l % 26 < 26:=⟨Int.emod_nonneg _ (by decide),Int.emod_lt_of_pos _ (by decide)⟩
    obtain ⟨v,hv,hv2⟩:=atI_lt (xs:=(Str.ofString "abcdefghijklmnopqrstuvwxyz").cps.toList) (i:=l % 26) h26.1 (by rw [show (Str.ofString "abcdefghijklmnopqrstuvwxyz").cps.toList.length=26 from by decide +kernel];exact h26.2)
    refine ⟨(show (0:Int) < 26 by decide),by decide +kernel,v,hv,line1000 (by rw [hx];show k + 1<=_;lia),⟨by decide,by decide⟩,x++⟨#[v]⟩,_,_,rfl,trivial,by rw [Str.length_append,hx];rfl,fun d hd=>?_⟩
    rw [Str.cps_append,Array.toList_append,List.mem_append] at hd
    rcases hd with hd | hd
    . exact hc d hd
    . have:d=v:=by simpa using hd
      rw [this]
      exact List.mem_of_getElem? hv2
  . rintro ρ A2 ⟨x,l,x3,rfl,rfl,hx,hc⟩
    walk_at "qd"
    refine ⟨rfl,fun p hp=>?_⟩
    show xIn (.str x) (.ref p) _ _
    rw [q_inK]
    refine ⟨_,updA_same,rfl,rfl,_,rfl,?_⟩
    by_cases h:x∈keptsL
    . refine iteTt (inU_yes h) ⟨line1000 (by rw [hx,show (Str.ofString "x").length=1 from by decide +kernel];lia),fgx (Ext.new hp) (q _ ?_)⟩
      have key:∀ t∈keptsL,wdB (t++Str.ofString "x")=true:=by decide +kernel
      exact key x h
    . refine iteFf (inU_strs h) (fgx (Ext.new hp) (q _ ?_))
      unfold wdB
      rw [Bool.and_eq_true,Bool.and_eq_true,Bool.and_eq_true,List.all_eq_true]
      exact ⟨⟨fun c hcc=>decide_eq_true (hc c hcc),decide_eq_true (by lia),decide_eq_true (by lia)⟩,by simpa using h⟩
end
section
include T
theorem ok_binds:FnOk P w K mg base CX0 1 f_w_binds d_w_binds ["_law_tree_here"] (spOf K asp_binds):=by
  refine' Fun.okA T.F_w_binds (sc:=?sc27) (body:=?bd27) ?hs27 ?hb27 sc_w_binds ?hB27 ?hS27
  case hs27=>conv=>lhs;whnf
  case hb27=>conv=>lhs;whnf
  case hB27=>exact fun S cdv A outer s H E hr=>⟨_,(pss_cons (ps_if (pt_cmpR (o_eqD hr) (pe_ix o_ix (pv 0) pe_int (fun _ _=>rfl)) pe_str (nomark _)) (pss_one (ps_ret pe_int)) pss_nil)
      (pss_one (ps_ret (pe_op o_sub pe_int (pe_callTy c_int (by rfl) T.n_int (by decide +kernel) (pa_cons (pe_cmpR (o_eqD hr) (pe_ix o_ix (pv 0) pe_int (fun _ _=>rfl)) pe_str (nomark _)) pa_nil)))))),(ab_seq (ab_ifs (ab_test (ab_op ab_eq (ab_op ab_ix ab_var ab_int) ab_str)) (ab_ret ab_int) ab_next)
      (ab_ret (ab_op ab_sub ab_int (ab_cb ab_xint (ab_cons (ab_op ab_eq (ab_op ab_ix ab_var ab_int) ab_str) ab_nil)))))⟩
  rintro us A Q ⟨r,rfl,q⟩
  refine ⟨rfl,?_⟩
  walk_at "qs"
  cases r with
  | nothing =>
    unfold Rl.toU
    walk_at "qg"
    exact iteFf (by decide +kernel) (xint_sub0 (by decide +kernel) (fg q))
  | bead c =>
    unfold Rl.toU
    walk_at "qg"
    exact iteFf (by decide +kernel) (xint_sub0 (by decide +kernel) (fg q))
  | named c =>
    unfold Rl.toU
    walk_at "qg"
    exact iteFf (by decide +kernel) (xint_sub0 (by decide +kernel) (fg q))
  | or x y =>
    unfold Rl.toU
    walk_at "qg"
    exact iteTt rfl (fg q)
  | by_ x y =>
    unfold Rl.toU
    walk_at "qg"
    exact iteFf (by decide +kernel) (xint_sub1 (by decide +kernel) (fg q))
  | hold k x =>
    unfold Rl.toU
    walk_at "qg"
    exact iteFf (decide_eq_false (mn_ne k (by decide +kernel))) (xint_sub0 (decide_eq_false (mn_ne k (by decide +kernel))) (fg q))
theorem ok_lshut {n:Nat} (G_w_text:FnOk P w K mg base CX0 (2 * n + 2) f_w_text d_w_text ["_law_tree_here"] (spOf K (asp_ltext n))):FnOk P w K mg base CX0 (2 * n + 3) f_w_shut d_w_shut ["_law_tree_here","_law_least"] (spOf K (asp_lshut n)):=by
  have G_w_binds:=ok_binds (P:=P) (w:=w) (base:=base) T
  refine' Fun.okA T.F_w_shut (sc:=?sc28) (body:=?bd28) ?hs28 ?hb28 sc_w_shut ?hB28 ?hS28
  case hs28=>conv=>lhs;whnf
  case hb28=>conv=>lhs;whnf
  case hB28=>exact fun S cdv A outer s H E hr=>⟨_,(pss_cons (ps_if (pt_cmpR o_lt (pe_call (G_w_binds.mono (by first | decide | lia)) hr (by rfl) T.M_w_binds T.F_w_binds.kp T.B_w_binds .nil pass0 (pa_cons (pv 0) pa_nil)) (pv 1) (nomark _)) (pss_one (ps_ret (pe_op o_addW (pe_op o_addW pe_str (pe_call (G_w_text.mono (by first | decide | lia)) hr (by rfl) T.M_w_text T.F_w_text.kp T.B_w_text .nil pass0 (pa_cons (pv 0) pa_nil))) pe_str))) pss_nil)
      (pss_one (ps_ret (pe_call (G_w_text.mono (by first | decide | lia)) hr (by rfl) T.M_w_text T.F_w_text.kp T.B_w_text .nil pass0 (pa_cons (pv 0) pa_nil))))),(ab_seq (ab_ifs (ab_test (ab_op ab_lt (ab_call (ab_cons ab_var ab_nil)) ab_var)) (ab_ret (ab_op ab_add (ab_op ab_add ab_str (ab_call (ab_cons ab_var ab_nil))) ab_str)) ab_next)
      (ab_ret (ab_call (ab_cons ab_var ab_nil))))⟩
  rintro us A Q ⟨r,l,rfl,hd,hw,hs,q⟩
  refine ⟨rfl,?_⟩
  walk_at "qs"
  walk_at "qd"
  have hl:=r.txt_len hw
  have hl2:=r.sh_len l hw
  refine ⟨r,rfl,?_⟩
  walk_at "qd"
  by_cases h:r.lvl < l
  . refine iteTt (decide_eq_true (by lia)) ⟨r,rfl,hd,hw,hs,?_⟩
    walk_at "qd"
    rw [Rl.sh_yes h]
    refine ⟨line1000 ?_,line1000 ?_,fg q⟩
    . rw [show (Str.ofString "( ").length=2 from by decide +kernel];lia
    . rw [Str.length_append,show (Str.ofString "( ").length=2 from by decide +kernel,show (Str.ofString " )").length=2 from by decide +kernel];lia
  . refine iteFf (decide_eq_false (by lia)) ⟨r,rfl,hd,hw,hs,fg ?_⟩
    rw [Rl.sh_no h]
    exact q
theorem ok_ltext {n:Nat} (G_w_shut:FnOk P w K mg base CX0 (2 * n + 3) f_w_shut d_w_shut ["_law_tree_here","_law_least"] (spOf K (asp_lshut n))):FnOk P w K mg base CX0 (2 * n + 4) f_w_text d_w_text ["_law_tree_here"] (spOf K (asp_ltext (n + 1))):=by
  refine' Fun.okA T.F_w_text (sc:=?sc29) (body:=?bd29) ?hs29 ?hb29 sc_w_text ?hB29 ?hS29
  case hs29=>conv=>lhs;whnf
  case hb29=>conv=>lhs;whnf
  case hB29=>exact fun S cdv A outer s H E hr=>⟨_,(pss_cons (ps_if (pt_cmpR (o_eqD hr) (pe_ix o_ix (pv 0) pe_int (fun _ _=>rfl)) pe_str (nomark _)) (pss_one (ps_ret pe_str)) pss_nil)
      (pss_cons (ps_if (pt_cmpR (o_eqD hr) (pe_ix o_ix (pv 0) pe_int (fun _ _=>rfl)) pe_str (nomark _)) (pss_one (ps_ret (pe_op o_addW pe_str (pe_ix o_ix (pv 0) pe_int (fun _ _=>rfl))))) pss_nil)
      (pss_cons (ps_if (pt_cmpR (o_eqD hr) (pe_ix o_ix (pv 0) pe_int (fun _ _=>rfl)) pe_str (nomark _)) (pss_one (ps_ret (pe_ix o_ix (pv 0) pe_int (fun _ _=>rfl)))) pss_nil)
      (pss_cons (ps_if (pt_cmpR (o_eqD hr) (pe_ix o_ix (pv 0) pe_int (fun _ _=>rfl)) pe_str (nomark _)) (pss_one (ps_ret (pe_op o_addW (pe_op o_addW (pe_call (G_w_shut.mono (by first | decide | lia)) hr (by rfl) T.M_w_shut T.F_w_shut.kp T.B_w_shut .nil pass0 (pa_cons (pe_ix o_ix (pv 0) pe_int (fun _ _=>rfl)) (pa_cons pe_int pa_nil))) pe_str) (pe_call (G_w_shut.mono (by first | decide | lia)) hr (by rfl) T.M_w_shut T.F_w_shut.kp T.B_w_shut .nil pass0 (pa_cons (pe_ix o_ix (pv 0) pe_int (fun _ _=>rfl)) (pa_cons pe_int pa_nil)))))) pss_nil)
      (pss_cons (ps_if (pt_cmpR (o_eqD hr) (pe_ix o_ix (pv 0) pe_int (fun _ _=>rfl)) pe_str (nomark _)) (pss_one (ps_ret (pe_op o_addW (pe_op o_addW (pe_call (G_w_shut.mono (by first | decide | lia)) hr (by rfl) T.M_w_shut T.F_w_shut.kp T.B_w_shut .nil pass0 (pa_cons (pe_ix o_ix (pv 0) pe_int (fun _ _=>rfl)) (pa_cons pe_int pa_nil))) pe_str) (pe_call (G_w_shut.mono (by first | decide | lia)) hr (by rfl) T.M_w_shut T.F_w_shut.kp T.B_w_shut .nil pass0 (pa_cons (pe_ix o_ix (pv 0) pe_int (fun _ _=>rfl)) (pa_cons pe_int pa_nil)))))) pss_nil)
      (pss_one (ps_ret (pe_op o_addW (pe_op o_addW (pe_ix o_ix (pv 0) pe_int (fun _ _=>rfl)) pe_str) (pe_call (G_w_shut.mono (by first | decide | lia)) hr (by rfl) T.M_w_shut T.F_w_shut.kp T.B_w_shut .nil pass0 (pa_cons (pe_ix o_ix (pv 0) pe_int (fun _ _=>rfl)) (pa_cons pe_int pa_nil))))))))))),(ab_seq (ab_ifs (ab_test (ab_op ab_eq (ab_op ab_ix ab_var ab_int) ab_str)) (ab_ret ab_str) ab_next)
      (ab_seq (ab_ifs (ab_test (ab_op ab_eq (ab_op ab_ix ab_var ab_int) ab_str)) (ab_ret (ab_op ab_add ab_str (ab_op ab_ix ab_var ab_int))) ab_next)
      (ab_seq (ab_ifs (ab_test (ab_op ab_eq (ab_op ab_ix ab_var ab_int) ab_str)) (ab_ret (ab_op ab_ix ab_var ab_int)) ab_next)
      (ab_seq (ab_ifs (ab_test (ab_op ab_eq (ab_op ab_ix ab_var ab_int) ab_str)) (ab_ret (ab_op ab_add (ab_op ab_add (ab_call (ab_cons (ab_op ab_ix ab_var ab_int) (ab_cons ab_int ab_nil))) ab_str) (ab_call (ab_cons (ab_op ab_ix ab_var ab_int) (ab_cons ab_int ab_nil))))) ab_next)
      (ab_seq (ab_ifs (ab_test (ab_op ab_eq (ab_op ab_ix ab_var ab_int) ab_str)) (ab_ret (ab_op ab_add (ab_op ab_add (ab_call (ab_cons (ab_op ab_ix ab_var ab_int) (ab_cons ab_int ab_nil))) ab_str) (ab_call (ab_cons (ab_op ab_ix ab_var ab_int) (ab_cons ab_int ab_nil))))) ab_next)
      (ab_ret (ab_op ab_add (ab_op ab_add (ab_op ab_ix ab_var ab_int) ab_str) (ab_call (ab_cons (ab_op ab_ix ab_var ab_int) (ab_cons ab_int ab_nil))))))))))⟩
  rintro us A Q ⟨r,rfl,hd,hw,hs,q⟩
  refine ⟨rfl,?_⟩
  walk_at "qs"
  have l2:(Str.ofString " of ").length=4:=by decide +kernel
  have l3:(Str.ofString " or ").length=4:=by decide +kernel
  have l4:(Str.ofString " by ").length=4:=by decide +kernel
  have l5:(Str.ofString "bead ").length=5:=by decide +kernel
  cases r with
  | nothing =>
    unfold Rl.toU
    walk_at "qg"
    exact iteTt rfl (fg q)
  | bead c =>
    unfold Rl.toU
    walk_at "qg"
    have l1:=(wdB_of hw).2.2.1
    rw [Rl.txt_bead] at q
    exact iteFf (by decide +kernel) (iteTt rfl ⟨line1000 (by lia),fg q⟩)
  | named c =>
    unfold Rl.toU
    walk_at "qg"
    rw [Rl.txt_named] at q
    exact iteFf (by decide +kernel) (iteFf (by decide +kernel) (iteTt rfl (fg q)))
  | or x y =>
    unfold Rl.toU
    walk_at "qg"
    rw [Rl.txt_or] at q
    simp only [Rl.dep,Rl.wd,Rl.size,Bool.and_eq_true] at hd hw hs
    have l1:=x.sh_len 0 hw.1
    have l6:=y.sh_len 1 hw.2
    refine iteFf (by decide +kernel) (iteFf (by decide +kernel) (iteFf (by decide +kernel) (iteTt rfl ⟨x,0,rfl,by lia,hw.1,by lia,?_⟩)))
    walk_at "qd"
    refine ⟨line1000 (by lia),y,1,rfl,by lia,hw.2,by lia,?_⟩
    walk_at "qd"
    exact ⟨line1000 (by rw [Str.length_append];lia),fg q⟩
  | by_ x y =>
    unfold Rl.toU
    walk_at "qg"
    rw [Rl.txt_by] at q
    simp only [Rl.dep,Rl.wd,Rl.size,Bool.and_eq_true] at hd hw hs
    have l1:=x.sh_len 1 hw.1
    have l6:=y.sh_len 2 hw.2
    refine iteFf (by decide +kernel) (iteFf (by decide +kernel) (iteFf (by decide +kernel) (iteFf (by decide +kernel) (iteTt rfl ⟨x,1,rfl,by lia,hw.1,by lia,?_⟩))))
    walk_at "qd"
    refine ⟨line1000 (by lia),y,2,rfl,by lia,hw.2,by lia,?_⟩
    walk_at "qd"
    exact ⟨line1000 (by rw [Str.length_append];lia),fg q⟩
  | hold k x =>
    unfold Rl.toU
    walk_at "qg"
    rw [Rl.txt_hold] at q
    simp only [Rl.dep,Rl.wd,Rl.size] at hd hw hs
    have l1:=x.sh_len 2 hw
    have l6:=(tok_mname k).2
    have hk:∀ z∈(["nothing","bead","name","or","by"]:List Str),decide (mname k=z)=false:=fun z hz=>decide_eq_false (mn_ne k hz)
    refine iteFf (hk _ (by decide +kernel)) (iteFf (hk _ (by decide +kernel)) (iteFf (hk _ (by decide +kernel)) (iteFf (hk _ (by decide +kernel)) (iteFf (hk _ (by decide +kernel)) ⟨line1000 (by lia),x,2,rfl,by lia,hw,by lia,?_⟩))))
    walk_at "qd"
    exact ⟨line1000 (by rw [Str.length_append];lia),fg q⟩
theorem ok_ltx (n:Nat):FnOk P w K mg base CX0 (2 * n + 2) f_w_text d_w_text ["_law_tree_here"] (spOf K (asp_ltext n)):=by
  induction n with
  | zero=>exact none_yet T.F_w_text sc_w_text ltext0
  | succ n ih=>exact (ok_ltext T (ok_lshut T ih)).mono (by lia)
end
section
include T
theorem ok_total:FnOk P w K mg base CX0 1 f_w_total d_w_total ["_law_stack"] (spOf K asp_total):=by
  refine' Fun.okA T.F_w_total (sc:=?sc30) (body:=?bd30) ?hs30 ?hb30 sc_w_total ?hB30 ?hS30
  case hs30=>conv=>lhs;whnf
  case hb30=>conv=>lhs;whnf
  case hB30=>exact fun S cdv A outer s H E hr=>⟨_,(pss_one (ps_ret (pe_op o_sub (pe_op o_addW (pe_callB (c_sum rfl) (by rfl) T.n_sum (by decide +kernel) (pa_cons (pe_comp (ts:=["_law_one"]) (frs':=[]) (cl:=[]) rfl ⟨rfl,rfl,(by decide +kernel),(by decide +kernel),(fun _ z=>nomatch z),(noFree_has rfl rfl),(fun _ z=>nomatch z)⟩ (pj_seq (pv 0)) (fun _ _ _ _=>pg_name (i:=0) nd1 rfl (Or.inl rfl) (.inr rfl)) (fun _ _ _ _=>pifs_nil) (fun _ _ _ _=>by exact (pe_ix (k_ix K rfl) (pv 0) pe_int (fun _ _=>rfl)))) pa_nil)) (pe_callB c_len (by rfl) T.n_len (by decide +kernel) (pa_cons (pv 0) pa_nil))) pe_int))),(ab_ret (ab_op ab_sub (ab_op ab_add (ab_cb ab_sum (ab_cons (ab_comp (ab_jof ab_yseq ab_var) ab_name ab_true (ab_op ab_ix ab_var ab_int)) ab_nil)) (ab_cb ab_len (ab_cons ab_var ab_nil))) ab_int))⟩
  rintro us A Q ⟨a,ws,rfl,ha,hl,q⟩
  refine ⟨rfl,?_⟩
  walk_at "qs"
  walk_at "qd"
  refine ⟨⟨_,ha⟩,fun l hl2=>?_⟩
  walk_at "qc"
  refine cl_map (ws.map stU) (ws.map fun r=>U.int r.size) (by rw [List.length_map,List.length_map]) hl2 (by rw [List.length_map];lia) (fun k A2 _ e2=>⟨_,e2 _ _ ha,rfl⟩) (fun k u y A2 hu hy e2 Cy hC=>?_) ?_
  . rw [List.getElem?_map] at hu hy
    obtain ⟨r,hr,rfl⟩:=Option.map_eq_some_iff.mp hu
    rw [hr] at hy
    cases hy
    walk_at "qd"
    rw [q_st1]
    exact hC
  . walk_at "qd"
    refine ⟨ws.map fun r=>(r.size:Int),by rw [updA_same,List.map_map];rfl,_,Ext.new hl2 _ _ ha,?_⟩
    walk_at "qd"
    rw [List.length_map,show ((ws.map fun r=>(r.size:Int)).sum + (ws.length:Int) - 1)=(totR ws:Int) - 1 from by rw [sum_cast];unfold totR;lia]
    exact fgx (Ext.new hl2) q
theorem ok_op:FnOk P w K mg base CX0 3 f_w_op d_w_op ["_law_stack","_law_cell_here"] (spOf K asp_op):=by
  have G_w_word:=ok_word (P:=P) (w:=w) (base:=base) T
  refine' Fun.okA T.F_w_op (sc:=?sc31) (body:=?bd31) ?hs31 ?hb31 sc_w_op ?hB31 ?hS31
  case hs31=>conv=>lhs;whnf
  case hb31=>conv=>lhs;whnf
  case hB31=>exact fun S cdv A outer s H E hr=>⟨_,(pss_cons (ps_set (i:=2) S.nd rfl (Or.inl rfl) (pe_op o_mod (pv 1) pe_int))
      (pss_cons (ps_set (i:=3) S.nd rfl (Or.inl rfl) (pe_op o_fdiv (pv 1) pe_int))
      (pss_one (ps_if ((pw_and (pt_cmpR o_gt (pv 2) pe_int (nomark _)) (pw_and (pt_cmpR o_gt (pe_callB c_len (by rfl) T.n_len (by decide +kernel) (pa_cons (pv 0) pa_nil)) (pe_op o_mod (pv 2) pe_int) (nomark _)) (pw_and (pt_cmpR o_lt (pv 2) pe_int (nomark _)) (pw_and1 (pt_cmpR o_gt (pe_callB c_len (by rfl) T.n_len (by decide +kernel) (pa_cons (pv 0) pa_nil)) pe_int (nomark _))))))).pt (pss_cons (ps_set (i:=4) S.nd rfl (Or.inl rfl) (pe_bm0 PySem.F.plainAttrs_list PySem.F.slot_list_pop PySem.F.type_list_pop mt_pop (pv 0)))
      (pss_cons (ps_set (i:=5) S.nd rfl (Or.inl rfl) (pe_bm0 PySem.F.plainAttrs_list PySem.F.slot_list_pop PySem.F.type_list_pop mt_pop (pv 0)))
      (pss_cons (ps_set (i:=6) S.nd rfl (Or.inl rfl) (pe_op o_addW pe_int (pe_callB (c_maxA rfl) (by rfl) T.n_max (by decide +kernel) (pa_cons (pe_ix o_ix (pv 5) pe_int (fun _ _=>rfl)) (pa_cons (pe_ix o_ix (pv 4) pe_int (fun _ _=>rfl)) pa_nil)))))
      (pss_one (ps_expr (pe_bm PySem.F.plainAttrs_list PySem.F.slot_list_append PySem.F.type_list_append mt_append (pv 0) (pa_cons (pe_tup (pa_cons (pe_tup (pa_cons (pe_ix o_ix (pe_lst (pa_cons pe_str (pa_cons pe_str pa_nil))) (pe_op o_sub (pv 2) pe_int) (fun _ _=>rfl)) (pa_cons (pe_ix o_ix (pv 5) pe_int (fun _ _=>rfl)) (pa_cons (pe_ix o_ix (pv 4) pe_int (fun _ _=>rfl)) pa_nil)))) (pa_cons (pe_op o_addW (pe_op o_addW (pe_ix o_ix (pv 5) pe_int (fun _ _=>rfl)) (pe_ix o_ix (pv 4) pe_int (fun _ _=>rfl))) pe_int) (pa_cons (pv 6) pa_nil)))) pa_nil))))))) (pss_one (ps_if ((pw_and (pt_cmpR o_gt (pv 2) pe_int (nomark _)) (pw_and1 (pt_cmpR o_gt (pe_callB c_len (by rfl) T.n_len (by decide +kernel) (pa_cons (pv 0) pa_nil)) pe_int (nomark _))))).pt (pss_cons (ps_set (i:=7) S.nd rfl (Or.inl rfl) (pe_bm0 PySem.F.plainAttrs_list PySem.F.slot_list_pop PySem.F.type_list_pop mt_pop (pv 0)))
      (pss_one (ps_expr (pe_bm PySem.F.plainAttrs_list PySem.F.slot_list_append PySem.F.type_list_append mt_append (pv 0) (pa_cons (pe_tup (pa_cons (pe_tup (pa_cons (pe_ix o_ix (pe_lst (pa_strs (xs:=["row","bag","choice","ring"]) rfl)) (pe_op o_sub (pv 2) pe_int) (fun _ _=>rfl)) (pa_cons (pe_ix o_ix (pv 7) pe_int (fun _ _=>rfl)) pa_nil))) (pa_cons (pe_op o_addW (pe_ix o_ix (pv 7) pe_int (fun _ _=>rfl)) pe_int) (pa_cons (pe_op o_addW (pe_ix o_ix (pv 7) pe_int (fun _ _=>rfl)) pe_int) pa_nil)))) pa_nil))))) (pss_one (ps_if (pt_cmpR (o_eqD hr) (pv 2) pe_int (nomark _)) (pss_one (ps_expr (pe_bm PySem.F.plainAttrs_list PySem.F.slot_list_append PySem.F.type_list_append mt_append (pv 0) (pa_cons (pe_tup (pa_cons (pe_tup (pa_cons pe_str pa_nil)) (pa_cons pe_int (pa_cons pe_int pa_nil)))) pa_nil)))) (pss_one (ps_if (pt_cmpR o_lt (pv 2) pe_int (nomark _)) (pss_one (ps_expr (pe_bm PySem.F.plainAttrs_list PySem.F.slot_list_append PySem.F.type_list_append mt_append (pv 0) (pa_cons (pe_tup (pa_cons (pe_tup (pa_cons pe_str (pa_cons (pe_call (G_w_word.mono (by first | decide | lia)) hr (by rfl) T.M_w_word T.F_w_word.kp T.B_w_word .nil pass0 (pa_cons (pv 3) pa_nil)) pa_nil))) (pa_cons pe_int (pa_cons pe_int pa_nil)))) pa_nil)))) (pss_one (ps_expr (pe_bm PySem.F.plainAttrs_list PySem.F.slot_list_append PySem.F.type_list_append mt_append (pv 0) (pa_cons (pe_tup (pa_cons (pe_tup (pa_cons pe_str (pa_cons (pe_call (G_w_word.mono (by first | decide | lia)) hr (by rfl) T.M_w_word T.F_w_word.kp T.B_w_word .nil pass0 (pa_cons (pv 3) pa_nil)) pa_nil))) (pa_cons pe_int (pa_cons pe_int pa_nil)))) pa_nil)))))))))))))),(ab_seq (ab_asg (ab_op ab_mod ab_var ab_int) ab_name)
      (ab_seq (ab_asg (ab_op ab_div ab_var ab_int) ab_name)
      (ab_ifH (ab_and (ab_test (ab_op ab_gt ab_var ab_int)) (ab_and (ab_test (ab_op ab_gt (ab_cb ab_len (ab_cons ab_var ab_nil)) (ab_op ab_mod ab_var ab_int))) (ab_and (ab_test (ab_op ab_lt ab_var ab_int)) (ab_test (ab_op ab_gt (ab_cb ab_len (ab_cons ab_var ab_nil)) ab_int))))) (ab_seq (ab_asg (ab_bm0 ab_isLst ab_mpop ab_var) ab_name)
      (ab_seq (ab_asg (ab_bm0 ab_isLst ab_mpop ab_var) ab_name)
      (ab_seq (ab_asg (ab_op ab_add ab_int (ab_cb ab_max (ab_cons (ab_op ab_ix ab_var ab_int) (ab_cons (ab_op ab_ix ab_var ab_int) ab_nil)))) ab_name)
      (ab_drop (ab_bm ab_isLst ab_mapp ab_var (ab_cons (ab_tup (ab_cons (ab_tup (ab_cons (ab_op ab_ix (ab_lst (ab_cons ab_str (ab_cons ab_str ab_nil))) (ab_op ab_sub ab_var ab_int)) (ab_cons (ab_op ab_ix ab_var ab_int) (ab_cons (ab_op ab_ix ab_var ab_int) ab_nil)))) (ab_cons (ab_op ab_add (ab_op ab_add (ab_op ab_ix ab_var ab_int) (ab_op ab_ix ab_var ab_int)) ab_int) (ab_cons ab_var ab_nil)))) ab_nil)))))) (ab_ifH (ab_and (ab_test (ab_op ab_gt ab_var ab_int)) (ab_test (ab_op ab_gt (ab_cb ab_len (ab_cons ab_var ab_nil)) ab_int))) (ab_seq (ab_asg (ab_bm0 ab_isLst ab_mpop ab_var) ab_name)
      (ab_drop (ab_bm ab_isLst ab_mapp ab_var (ab_cons (ab_tup (ab_cons (ab_tup (ab_cons (ab_op ab_ix (ab_lst ab_strs) (ab_op ab_sub ab_var ab_int)) (ab_cons (ab_op ab_ix ab_var ab_int) ab_nil))) (ab_cons (ab_op ab_add (ab_op ab_ix ab_var ab_int) ab_int) (ab_cons (ab_op ab_add (ab_op ab_ix ab_var ab_int) ab_int) ab_nil)))) ab_nil)))) (ab_ifH (ab_test (ab_op ab_eq ab_var ab_int)) (ab_drop (ab_bm ab_isLst ab_mapp ab_var (ab_cons (ab_tup (ab_cons (ab_tup (ab_cons ab_str ab_nil)) (ab_cons ab_int (ab_cons ab_int ab_nil)))) ab_nil))) (ab_ifH (ab_test (ab_op ab_lt ab_var ab_int)) (ab_drop (ab_bm ab_isLst ab_mapp ab_var (ab_cons (ab_tup (ab_cons (ab_tup (ab_cons ab_str (ab_cons (ab_call (ab_cons ab_var ab_nil)) ab_nil))) (ab_cons ab_int (ab_cons ab_int ab_nil)))) ab_nil))) (ab_drop (ab_bm ab_isLst ab_mapp ab_var (ab_cons (ab_tup (ab_cons (ab_tup (ab_cons ab_str (ab_cons (ab_call (ab_cons ab_var ab_nil)) ab_nil))) (ab_cons ab_int (ab_cons ab_int ab_nil)))) ab_nil)))))))))⟩
  rintro us A Q ⟨a,z,ws,rfl,ha,hw,hl,q⟩
  refine ⟨rfl,?_⟩
  walk_at "qs"
  walk_at "qd"
  have hk:0<=z % 12/\z % 12 < 12:=⟨Int.emod_nonneg _ (by decide),Int.emod_lt_of_pos _ (by decide)⟩
  refine ⟨(show (0:Int) < 12 by decide),⟨by decide,by decide⟩,?_⟩
  generalize z % 12=k at hk ⊢
  generalize z / 12=t
  have hlm:(ws.map stU).length=ws.length:=List.length_map _
  by_cases h1:(k=6\/k=7)/\1 < ws.length
  . refine if_yes (fun B hB=>?_) ?_
    . walk_at "qd"
      refine iteTt (decide_eq_true (by lia)) ⟨_,ha,by decide,iteTt (decide_eq_true (by lia)) (iteTt (decide_eq_true (by lia)) ⟨_,ha,?_⟩)⟩
      rw [decide_eq_true (by lia)]
      exact hB
    . walk_at "qd"
      obtain ⟨ws0,x,y,rfl⟩:=last2 h1.2
      obtain ⟨zz,r,hz,hr,hrw⟩:=op_at h1.1 (x:=x) (y:=y)
      refine ⟨⟨_,ha⟩,(ws0++[x]).map stU,stU y,by rw [ha,List.map_append];rfl,⟨_,updA_same⟩,ws0.map stU,stU x,by rw [updA_same,List.map_append];rfl,?_⟩
      rw [updA_updA]
      simp only [q_st0,q_st1,q_st2]
      walk_at "qd"
      refine ⟨⟨_,updA_same⟩,by decide,fun p hp=>⟨_,_,updA_same,hz,?_⟩⟩
      walk_at "qd"
      obtain ⟨hp0,ho,hg⟩:=upd_ov (u:=.lst [.str "or",.str "by"]) (v:=.lst (ws0.map stU++[stU r])) hp
      refine ⟨tup3,tup3,_,hg,line1000' (by rw [List.length_map];simp only [List.length_append,List.length_cons,List.length_nil] at hl;lia),?_⟩
      rw [hr,ho]
      have:=q ws0 r ⟨[x,y],by simp⟩ (by rw [hrw,hw x (by simp),hw y (by simp)];rfl) (fun z=>by simp at z)
      rw [List.map_append] at this
      exact fgx (Ext.new hp0).put this
  . refine if_no (fun B hB=>?_) ?_
    . walk_at "qd"
      refine iteB (fun g1=>⟨_,ha,by decide,iteB (fun g2=>iteB (fun g3=>⟨_,ha,?_⟩) fun _=>hB) fun _=>hB⟩) fun _=>hB
      have g1:=of_decide_eq_true g1
      have g3:=of_decide_eq_true g3
      rw [decide_eq_false (by lia)]
      exact hB
    by_cases h2:7 < k/\0 < ws.length
    . refine if_yes (fun B hB=>?_) ?_
      . walk_at "qd"
        refine iteTt (decide_eq_true h2.1) ⟨_,ha,?_⟩
        rw [decide_eq_true (by lia)]
        exact hB
      . walk_at "qd"
        obtain ⟨ws0,x,rfl⟩:=last1 h2.2
        obtain ⟨j,hj⟩:=mn_atI (k:=k - 8) (by lia) (by lia)
        refine ⟨⟨_,ha⟩,ws0.map stU,stU x,by rw [ha,List.map_append];rfl,?_⟩
        walk_at "qd"
        refine ⟨⟨_,updA_same⟩,by decide,fun p hp=>⟨_,_,updA_same,hj,?_⟩⟩
        simp only [q_st0,q_st1,q_st2]
        walk_at "qd"
        obtain ⟨hp0,ho,hg⟩:=upd_ov (u:=.lst [.str "row",.str "bag",.str "choice",.str "ring"]) (v:=.lst (ws0.map stU++[stU (.hold j x)])) hp
        refine ⟨tup2,tup3,_,hg,line1000' (by rw [List.length_map];simp only [List.length_append,List.length_cons,List.length_nil] at hl;lia),?_⟩
        rw [stU_hold,ho]
        have:=q ws0 (.hold j x) ⟨[x],rfl⟩ (hw x (by simp)) (fun z=>by simp at z)
        rw [List.map_append] at this
        exact fgx (Ext.new hp0).put this
    . refine if_no (fun B hB=>?_) ?_
      . walk_at "qd"
        refine iteB (fun g1=>⟨_,ha,?_⟩) fun _=>hB
        have g1:=of_decide_eq_true g1
        rw [decide_eq_false (by lia)]
        exact hB
      have fin:∀ (A3:AHp) (r:Rl),Ext A A3->r.wd=true->r.size=1->r.dep=1->Fg Q .non (updA A3 a (.lst (ws.map stU++[stU r]))):=fun A3 r e h1 h2 h3=>by
        have:=q ws r List.prefix_rfl h1 (fun _=>⟨h2,h3⟩)
        rw [List.map_append] at this
        exact fgx e.put this
      by_cases h3:k=0
      . refine if_yes (fun B hB=>?_) ?_
        . walk_at "qd"
          rw [decide_eq_true h3]
          exact hB
        . walk_at "qd"
          exact ⟨⟨_,ha⟩,tup1,tup3,_,ha,line1000' (by lia),fin A .nothing (Ext.refl A) rfl rfl rfl⟩
      . refine if_no (fun B hB=>?_) ?_
        . walk_at "qd"
          rw [decide_eq_false h3]
          exact hB
        refine if_open (decide (k < 4)) (fun B hB=>?_) ?_
        . walk_at "qd"
          exact hB
        refine iteB (fun _=>?_) fun _=>?_
        . walk_at "qd"
          exact ⟨⟨_,ha⟩,t,rfl,fun x hx=>⟨tup2,tup3,_,ha,line1000' (by lia),fin A (.bead x) (Ext.refl A) hx rfl rfl⟩⟩
        . walk_at "qd"
          exact ⟨⟨_,ha⟩,t,rfl,fun x hx=>⟨tup2,tup3,_,ha,line1000' (by lia),fin A (.named x) (Ext.refl A) hx rfl rfl⟩⟩
end
theorem op_at2 {m:Int} (h:m=0\/m=1) {x y:Rl}:∃ (z:Str) (r:Rl),atI [U.str "or",U.str "by"] m=some (.str z)/\U.tup [.tup [.str z,x.toU,y.toU],.int ((x.size:Int) + (y.size:Int) + 1),.int (1 + max (x.dep:Int) (y.dep:Int))]=stU r/\r.wd=(x.wd && y.wd)/\r.size=x.size + y.size + 1/\r.dep=1 + max x.dep y.dep:=by
  rcases h with rfl | rfl
  . exact ⟨_,_,rfl,stU_or,rfl,rfl,rfl⟩
  . exact ⟨_,_,rfl,stU_by,rfl,rfl,rfl⟩
theorem tot_pre {ws0 ws:List Rl} (h:ws0 <+: ws):totR ws0<=totR ws:=by
  obtain ⟨t,rfl⟩:=h
  rw [totR_app];lia
section
include T
theorem ok_tree:FnOk P w K mg base CX0 5 f_w_tree d_w_tree ["_law_cells"] (spOf K asp_tree):=by
  have G_w_op:=ok_op (P:=P) (w:=w) (base:=base) T
  have G_w_total:=ok_total (P:=P) (w:=w) (base:=base) T
  refine' Fun.okA T.F_w_tree (sc:=?sc32) (body:=?bd32) ?hs32 ?hb32 sc_w_tree ?hB32 ?hS32
  case hs32=>conv=>lhs;whnf
  case hb32=>conv=>lhs;whnf
  case hB32=>exact fun S cdv A outer s H E hr=>⟨_,(pss_cons (ps_set (i:=1) S.nd rfl (Or.inl rfl) (pe_lst pa_nil))
      (pss_cons (ps_for PassesOwn.never rfl (pj_seq (pv 0)) (pg_name (i:=2) S.nd rfl (Or.inl rfl))
      (pss_cons (ps_set (i:=3) S.nd rfl (Or.inl rfl) (pe_callTy c_list (by rfl) T.n_list (by decide +kernel) (pa_cons (pv 1) pa_nil)))
      (pss_cons (ps_expr (pe_call (G_w_op.mono (by first | decide | lia)) hr (by rfl) T.M_w_op T.F_w_op.kp T.B_w_op .nil pass0 (pa_cons (pv 3) (pa_cons (pv 2) pa_nil))))
      (pss_one (ps_if ((pw_and (pt_cmpR o_le (pe_call (G_w_total.mono (by first | decide | lia)) hr (by rfl) T.M_w_total T.F_w_total.kp T.B_w_total .nil pass0 (pa_cons (pv 3) pa_nil)) pe_int (nomark _)) (pw_and1 (pt_cmpR o_le (pe_ix o_ix (pe_ix o_ix (pv 3) (pe_un un_neg pe_int) (fun _ _=>rfl)) pe_int (fun _ _=>rfl)) pe_int (nomark _))))).pt (pss_one (ps_set (i:=1) S.nd rfl (Or.inl rfl) (pv 3))) pss_nil)))))
      (pss_cons (ps_set (i:=4) S.nd rfl (Or.inl rfl) (pe_ix o_ix (pv 1) pe_int (fun _ _=>rfl)))
      (pss_cons (ps_for PassesOwn.never rfl (pj_enumS (by rfl) T.n_enumerate (pa_cons (pe_slice o_slW (pv 1) (po_some pe_int) po_none) pa_nil)) (pg_tup (n:=2) rfl (pgs_cons (pg_name (i:=5) S.nd rfl (Or.inl rfl)) (pgs_cons (pg_name (i:=6) S.nd rfl (Or.inl rfl)) pgs_nil)))
      (pss_cons (ps_set (i:=7) S.nd rfl (Or.inl rfl) (pe_op o_addW pe_int (pe_callB (c_maxA rfl) (by rfl) T.n_max (by decide +kernel) (pa_cons (pe_ix o_ix (pv 4) pe_int (fun _ _=>rfl)) (pa_cons (pe_ix o_ix (pv 6) pe_int (fun _ _=>rfl)) pa_nil)))))
      (pss_one (ps_if (pt_cmpR o_le (pv 7) pe_int (nomark _)) (pss_one (ps_set (i:=4) S.nd rfl (Or.inl rfl) (pe_tup (pa_cons (pe_tup (pa_cons (pe_ix o_ix (pe_lst (pa_cons pe_str (pa_cons pe_str pa_nil))) (pe_op o_mod (pv 5) pe_int) (fun _ _=>rfl)) (pa_cons (pe_ix o_ix (pv 4) pe_int (fun _ _=>rfl)) (pa_cons (pe_ix o_ix (pv 6) pe_int (fun _ _=>rfl)) pa_nil)))) (pa_cons (pe_op o_addW (pe_op o_addW (pe_ix o_ix (pv 4) pe_int (fun _ _=>rfl)) (pe_ix o_ix (pv 6) pe_int (fun _ _=>rfl))) pe_int) (pa_cons (pv 7) pa_nil)))))) pss_nil))))
      (pss_one (ps_ret (pe_ix o_ix (pv 4) pe_int (fun _ _=>rfl)))))))),(ab_seq (ab_asg (ab_lst ab_nil) ab_name)
      (ab_seq (ab_for (ab_jof ab_yseq ab_var) ab_name
      (ab_seq (ab_asg (ab_cb ab_listof (ab_cons ab_var ab_nil)) ab_name)
      (ab_seq (ab_drop (ab_call (ab_cons ab_var (ab_cons ab_var ab_nil))))
      (ab_ifH (ab_and (ab_test (ab_op ab_le (ab_call (ab_cons ab_var ab_nil)) ab_int)) (ab_test (ab_op ab_le (ab_op ab_ix (ab_op ab_ix ab_var (ab_un ab_neg ab_int)) ab_int) ab_int))) (ab_asg ab_var ab_name) ab_next))))
      (ab_seq (ab_asg (ab_op ab_ix ab_var ab_int) ab_name)
      (ab_seq (ab_for (ab_jargs ab_yenumS (ab_cons (ab_sl ab_xsl ab_var (ab_part ab_int) ab_nopart) ab_nil)) (ab_gtup (ab_gcons ab_name (ab_gcons ab_name ab_gnil)))
      (ab_seq (ab_asg (ab_op ab_add ab_int (ab_cb ab_max (ab_cons (ab_op ab_ix ab_var ab_int) (ab_cons (ab_op ab_ix ab_var ab_int) ab_nil)))) ab_name)
      (ab_ifH (ab_test (ab_op ab_le ab_var ab_int)) (ab_asg (ab_tup (ab_cons (ab_tup (ab_cons (ab_op ab_ix (ab_lst (ab_cons ab_str (ab_cons ab_str ab_nil))) (ab_op ab_mod ab_var ab_int)) (ab_cons (ab_op ab_ix ab_var ab_int) (ab_cons (ab_op ab_ix ab_var ab_int) ab_nil)))) (ab_cons (ab_op ab_add (ab_op ab_add (ab_op ab_ix ab_var ab_int) (ab_op ab_ix ab_var ab_int)) ab_int) (ab_cons ab_var ab_nil)))) ab_name) ab_next)))
      (ab_ret (ab_op ab_ix ab_var ab_int))))))⟩
  rintro us A Q ⟨a,ns,rfl,ha,h1,h60,q⟩
  refine ⟨rfl,?_⟩
  walk_at "qs"
  walk_at "qd"
  refine ⟨by decide,fun p hp=>⟨⟨_,by rw [updA_ne (neA ha hp)];exact ha⟩,?_⟩⟩
  refine for_lst (ns.map U.int) (fun k ρ A2=>∃ (ws:List Rl) (s:Addr) (x2 x3:Option U),ρ=[some (.ref a),some (.ref s),x2,x3,none,none,none,none]/\Ext A A2/\A2 s=some (.lst (ws.map stU))/\wdR ws/\(∀ r∈ws,r.dep<=30)/\totR ws<=61/\(0 < k->ws≠[])) ⟨[],p,_,_,rfl,Ext.new hp,updA_same,fun _ h=>(by cases h),fun _ h=>(by cases h),by decide,fun h=>absurd h (by decide)⟩ (fun k ρ A2 _ ⟨ws,s,_,_,_,e,_⟩=>e _ _ ha) ?_ ?_
  . rintro k u ρ A2 hu ⟨ws,s,x2,x3,rfl,e2,hs,hw,hd,ht,hne⟩
    obtain ⟨n,_,rfl⟩:=map_get hu
    have hlt:=len_tot ws
    walk_at "qd"
    refine ⟨_,hs,fun l hl=>⟨l,n,ws,rfl,updA_same,hw,by lia,fun ws0 r hp hr h1=>?_⟩⟩
    have hpl:=hp.length_le
    have hpt:=tot_pre hp
    rw [updA_updA]
    have eT:totR (ws0++[r])=totR ws0 + (r.size + 1):=by rw [totR_app,totR_one]
    refine if_open (decide ((totR (ws0++[r]):Int) - 1<=60) && decide (r.dep<=30)) (fun B hB=>?_) ?_
    . walk_at "qd"
      refine ⟨l,ws0++[r],rfl,updA_same,by rw [List.length_append,List.length_cons,List.length_nil];lia,?_⟩
      walk_at "qd"
      by_cases g1:(totR (ws0++[r]):Int) - 1<=60
      . refine iteTt (decide_eq_true g1) ⟨_,_,updA_same,by rw [List.map_append];exact atI_last _ _,?_⟩
        rw [q_st2]
        walk_at "qd"
        rw [decide_eq_true g1,Bool.true_and] at hB
        rw [show decide ((r.dep:Int)<=30)=decide (r.dep<=30) from decide_eq_decide.mpr (by lia)]
        exact hB
      . rw [decide_eq_false g1] at hB
        exact iteFf (decide_eq_false g1) hB
    . refine iteB (fun h=>?_) fun h=>?_
      . rw [Bool.and_eq_true,decide_eq_true_eq,decide_eq_true_eq] at h
        walk_at "qd"
        refine ⟨ws0++[r],l,_,_,rfl,e2.trans (Ext.new hl),updA_same,?_,?_,by lia,fun _=>by simp⟩
        . intro x hx
          rcases List.mem_append.mp hx with hx | hx
          . exact hw x (hp.subset hx)
          . rw [List.mem_singleton.mp hx];exact hr
        . intro x hx
          rcases List.mem_append.mp hx with hx | hx
          . exact hd x (hp.subset hx)
          . rw [List.mem_singleton.mp hx];exact h.2
      . walk_at "qd"
        refine ⟨ws,s,_,_,rfl,e2.trans (Ext.new hl),Ext.new hl _ _ hs,hw,hd,ht,fun _ e=>?_⟩
        obtain ⟨g1,g2⟩:=h1 e
        subst e
        have:ws0=[]:=List.prefix_nil.mp hp
        subst this
        rw [eT,g1,g2] at h
        exact absurd h (by decide)
  . rintro ρ A2 ⟨ws,s,x2,x3,rfl,e2,hs,hw,hd,ht,hne⟩
    have hne:=hne (by rw [List.length_map];lia)
    obtain ⟨w0,ws1,rfl⟩:=List.exists_cons_of_ne_nil hne
    have hlt:=len_tot (w0::ws1)
    walk_at "qd"
    refine ⟨_,_,hs,atI_nat (j:=0) rfl,?_⟩
    walk_at "qd"
    refine ⟨_,hs,fun p2 hp2=>?_⟩
    rw [List.map_cons,cutU_tail]
    have t0:totR (w0::ws1)=w0.size + 1 + totR ws1:=by rw [<- totR_one,<- totR_app];rfl
    refine ⟨⟨_,updA_same⟩,?_⟩
    refine for_enumA (ws1.map stU) (fun k ρ A3=>∃ (r:Rl) (x5 x6 x7:Option U),ρ=[some (.ref a),some (.ref s),x2,x3,some (stU r),x5,x6,x7]/\Ext (updA A2 p2 (.lst (ws1.map stU))) A3/\r.wd=true/\r.dep<=30/\r.size + totR (ws1.drop k)<=60) ⟨w0,_,_,_,rfl,Ext.refl _,hw w0 (by simp),hd w0 (by simp),by rw [List.drop_zero];lia⟩ (fun k ρ A3 _ ⟨r,_,_,_,_,e,_⟩=>e _ _ updA_same) ?_ ?_
    . rintro k u ρ A3 hu ⟨r,x5,x6,x7,rfl,e3,hrw,hrd,hrs⟩
      obtain ⟨y,hy,rfl⟩:=map_get hu
      have hyk:=(List.getElem?_eq_some_iff.mp hy).1
      have hdk:totR (ws1.drop k)=y.size + 1 + totR (ws1.drop (k + 1)):=by
        rw [List.drop_eq_getElem_cons hyk,<- totR_one,<- totR_app]
        have:ws1[k]=y:=by rw [List.getElem?_eq_getElem hyk] at hy;injection hy
        rw [this];rfl
      have hym:y∈w0::ws1:=List.mem_cons_of_mem _ (List.mem_of_getElem? hy)
      walk_at "qd"
      simp only [q_st0,q_st1,q_st2]
      walk_at "qd"
      have hm:(k:Int) % 2=0\/(k:Int) % 2=1:=by lia
      obtain ⟨zz,r2,hz,hr2,hw2,hs2,hd2⟩:=op_at2 hm (x:=r) (y:=y)
      refine ⟨rfl,?_⟩
      refine if_open (decide (1 + max (r.dep:Int) (y.dep:Int)<=30)) (fun B hB=>?_) ?_
      . walk_at "qd"
        exact hB
      refine iteB (fun h=>?_) fun h=>?_
      . have h:=of_decide_eq_true h
        walk_at "qd"
        refine ⟨by decide,fun p3 hp3=>⟨by decide,_,_,updA_same,hz,?_⟩⟩
        simp only [q_st0,q_st1,q_st2]
        walk_at "qd"
        refine ⟨tup3,tup3,r2,_,_,_,by rw [<- hr2],e3.trans (Ext.new hp3),by rw [hw2,hrw,hw y hym];rfl,by lia,by lia⟩
      . walk_at "qd"
        exact ⟨r,_,_,_,rfl,e3,hrw,hrd,by lia⟩
    . rintro ρ A3 ⟨r,x5,x6,x7,rfl,e3,hrw,hrd,hrs⟩
      walk_at "qd"
      rw [q_st0]
      exact fgx ((e2.trans (Ext.new hp2)).trans e3) (q r hrw hrd (by lia))
end
noncomputable def T3 (t:Str):Prop:=(t.length<=9/\32 ∉ t.cps.toList)\/t="( "
noncomputable def opB (t:Str):Bool:=decide (t="("\/t="( ")
noncomputable def pz (ts:List Str):Nat:=ts.countP opB
theorem pz_app {a b:List Str}:pz (a++b)=pz a + pz b:=List.countP_append
theorem pz_one {x:Str}:pz [x]<=1:=List.countP_le_length
theorem pz_td {ts:List Str} {j k:Nat} (h:j<=k):pz (ts.take j) + pz (ts.drop k)<=pz ts:=by
  have h1:pz ts=pz (ts.take j) + pz (ts.drop j):=by rw [<- pz_app,List.take_append_drop]
  have h2:pz (ts.drop k)<=pz (ts.drop j):=by
    obtain ⟨m,rfl⟩:=Nat.exists_eq_add_of_le h
    rw [<- List.drop_drop]
    exact List.Sublist.countP_le (List.drop_sublist _ _)
  lia
theorem pz_c1 {ts:List Str} {x:Str} {j k:Nat} (h:j<=k):pz (ts.take j++[x]++ts.drop k)<=pz ts + 1:=by
  rw [pz_app,pz_app];have:=pz_td (ts:=ts) h;have:=pz_one (x:=x);lia
theorem pz_c2 {ts:List Str} {j k:Nat} (h:j<=k):pz (ts.take j++ts.drop k)<=pz ts + 1:=by
  rw [pz_app];have:=pz_td (ts:=ts) h;lia
theorem pz_c3 {ts:List Str} {j:Nat}:pz (ts.take j)<=pz ts + 1:=by
  have:=pz_td (ts:=ts) (Nat.le_refl j);lia
noncomputable def ex3 (t:Str):List Str:=if t="( " then [("(":Str),""] else [t]
theorem ex3_join (t:Str):Txt.join blk (ex3 t)=t:=by
  unfold ex3
  split
  . next h=>rw [h];decide +kernel
  . exact join_one
theorem ex3_cnt (t:Str):(ex3 t).count ("(":Str)=pz [t]:=by
  unfold ex3 pz
  by_cases h:t="( "
  . rw [if_pos h,h];decide +kernel
  . rw [if_neg h]
    by_cases h2:t="("
    . rw [h2];decide +kernel
    . rw [List.count_cons_of_ne (by exact h2),List.countP_cons_of_neg (by unfold opB;simp [h,h2])]
      rfl
theorem sp_ok3 {ts:List Str} (hk:ts.length<=300) (h:∀ t∈ts,T3 t):JoinOk blk ts=true/\(Txt.join blk ts).length<=4000/\∃ ts',Txt.split (Txt.join blk ts) blk=ts'/\ts'.length<=1000/\(∀ t∈ts',t.length<=10000)/\par ts' 0<=pz ts:=by
  have h9:∀ t∈ts,t.length<=9:=fun t ht=>by
    rcases h t ht with h | h
    . exact h.1
    . rw [h];decide +kernel
  refine ⟨?_,?_,?_⟩
  . have e1:(ts.map (·.length)).sum<=ts.length * 9:=StrLaws.sumLen_le ts h9
    unfold JoinOk
    rw [StrLaws.joinTotal,show (blk:Str).length=1 from by decide +kernel]
    unfold PySem.Builtin.Str.tooLong
    rw [decide_eq_false]
    . rfl
    . have:(5000:Nat)<=sizeLine:=by decide
      lia
  . have:=join_len h9
    lia
  . by_cases h0:ts=[]
    . subst h0
      exact ⟨[""],by decide +kernel,by decide,by decide +kernel,by decide +kernel⟩
    . have hj:Txt.join blk ts=Txt.join blk (ts.map ex3).flatten:=by
        rw [<- join_join (ts.map ex3) (fun ys hy=>by obtain ⟨t,_,rfl⟩:=List.mem_map.mp hy;unfold ex3;split <;> simp),List.map_map]
        rw [show (Txt.join blk ∘ ex3)=id from funext ex3_join,List.map_id]
      have hm:∀ t∈(ts.map ex3).flatten,32 ∉ t.cps.toList/\t.length<=9:=fun t ht=>by
        rw [List.mem_flatten] at ht
        obtain ⟨ys,hy,ht⟩:=ht
        obtain ⟨s,hs,rfl⟩:=List.mem_map.mp hy
        unfold ex3 at ht
        split at ht
        . have key:∀ t∈([("(":Str),""]:List Str),32 ∉ t.cps.toList/\t.length<=9:=by decide +kernel
          exact key t ht
        . next hn =>
          rw [List.mem_singleton] at ht
          subst ht
          rcases h t hs with h | h
          . exact ⟨h.2,h.1⟩
          . exact absurd h hn
      have hl:∀ us:List Str,((us.map ex3).flatten).length<=2 * us.length/\((us.map ex3).flatten).count ("(":Str)=pz us/\(us≠[]->(us.map ex3).flatten≠[]):=fun us=>by
        induction us with
        | nil=>exact ⟨Nat.le_refl _,rfl,fun h=>absurd rfl h⟩
        | cons u us ih =>
          have e1:(ex3 u).length<=2/\ex3 u≠[]:=by unfold ex3;split <;> simp
          rw [List.map_cons,List.flatten_cons,List.length_append,List.count_append,ex3_cnt,ih.2.1,<- pz_app]
          exact ⟨by simp only [List.length_cons];lia,rfl,fun _ z=>e1.2 (List.append_eq_nil_iff.mp z).1⟩
      obtain ⟨l1,l2,l3⟩:=hl ts
      refine ⟨(ts.map ex3).flatten,by rw [hj];exact split_join (l3 h0) fun t ht=>(hm t ht).1,by lia,fun t ht=>by have:=(hm t ht).2;lia,?_⟩
      unfold par
      rw [List.drop_zero,l2]
      exact Nat.le_refl _
noncomputable def asp_lisw:ASp:=fun us A Q=>∃ x:Str,us=[.str x]/\x.length<=10000/\Q (.bl (wdB x)) A
noncomputable def asp_newword:ASp:=fun us A Q=>∃ c:Int,us=[.int c]/\∀ x:Str,T3 x->Q (.str x) A
noncomputable def asp_changed:ASp:=fun us A Q=>∃ (l:Addr) (ts:List Str) (c:Int),us=[.ref l,.int c]/\A l=some (.lst (ts.map U.str))/\ts.length<=1000/\(∀ t∈ts,T3 t)/\∀ (l2:Addr) (ts2:List Str) (A':AHp),Ext A A'->A' l2=some (.lst (ts2.map U.str))->ts2.length<=ts.length + 1->pz ts2<=pz ts + 1->(∀ t∈ts2,T3 t)->Q (.ref l2) A'
noncomputable def br3:List Str:=["(",")","((","]","","red","nothings","Bead","a1","abcdefghi","( ","or"]
theorem all3:∀ x∈keptsL++br3,T3 x:=by unfold T3;decide +kernel
section
include T
theorem ok_lisw:FnOk P w K mg base CX0 2 f_w_is_word d_w_is_word ["_law_text_here"] (spOf K asp_lisw):=by
  have G_w_kept:=ok_kept (P:=P) (w:=w) (base:=base) T
  refine' Fun.okA T.F_w_is_word (sc:=?sc33) (body:=?bd33) ?hs33 ?hb33 sc_w_is_word ?hB33 ?hS33
  case hs33=>conv=>lhs;whnf
  case hb33=>conv=>lhs;whnf
  case hB33=>exact fun S cdv A outer s H E hr=>⟨_,(pss_cons (ps_for PassesOwn.never rfl (pj_str (pv 0)) (pg_name (i:=1) S.nd rfl (Or.inl rfl))
      (pss_one (ps_if (pt_cmpR o_nin (pv 1) pe_str (by with_unfolding_all rfl)) (pss_one (ps_ret pe_bl)) pss_nil)))
      (pss_one (ps_ret (pe_and (pe_chain o_le o_le pe_int (pe_callB c_len (by rfl) T.n_len (by decide +kernel) (pa_cons (pv 0) pa_nil)) pe_int) (pe_one (pe_cmpR o_nin (pv 0) (pe_call0 (G_w_kept.mono (by first | decide | lia)) hr (by rfl) T.M_w_kept T.F_w_kept.kp T.B_w_kept .nil pass0) (by with_unfolding_all rfl))))))),(ab_seq (ab_for (ab_jof ab_ystr ab_var) ab_name
      (ab_ifs (ab_test (ab_op ab_nin ab_var ab_str)) (ab_ret ab_bl) ab_next))
      (ab_ret (ab_andv (ab_chain ab_le ab_le ab_int (ab_cb ab_len (ab_cons ab_var ab_nil)) ab_int) (ab_op ab_nin ab_var (ab_call ab_nil)))))⟩
  rintro us A Q ⟨x,rfl,hx,q⟩
  refine ⟨rfl,?_⟩
  walk_at "qs"
  walk_at "qd"
  have hxl:x.cps.toList.length=x.length:=by simp [Str.length]
  refine for_fix (us:=x.cps.toList.map fun c=>U.str ⟨#[c]⟩) (fun k ρ A2=>A2=A/\(∃ r,ρ=[some (.str x),r])/\∀ c∈x.cps.toList.take k,c∈lettersL.cps.toList) ⟨rfl,⟨_,rfl⟩,fun c h=>(by simp at h)⟩ (fun k u ρ A2 hu h=>?_) (fun ρ A2 h=>?_)
  . obtain ⟨rfl,⟨r,rfl⟩,hall⟩:=h
    obtain ⟨c,hc,rfl⟩:=map_get hu
    walk_at "qd"
    have ho:occ (Str.ofString "abcdefghijklmnopqrstuvwxyz") ⟨#[c]⟩=decide (c∈lettersL.cps.toList):=by
      unfold occ
      rw [StrLaws.found_one]
      rfl
    rw [ho]
    by_cases hm:c∈lettersL.cps.toList
    . refine iteFf (by simp [hm]) ⟨trivial,⟨_,rfl⟩,fun d hd=>?_⟩
      rw [List.take_succ,hc] at hd
      rcases List.mem_append.mp hd with h | h
      . exact hall d h
      . have:d=c:=by simpa using h
        rw [this];exact hm
    . refine iteTt (by simp [hm]) (fg ?_)
      have : wdB x=false:=by
        unfold wdB
        rw [show x.cps.toList.all (fun c=>decide (c∈lettersL.cps.toList))=false from by
          rw [List.all_eq_false]
          exact ⟨c,List.mem_of_getElem? hc,by simp [hm]⟩]
        rfl
      rw [this] at q
      exact q
  . obtain ⟨rfl,⟨r,rfl⟩,hall⟩:=h
    rw [List.length_map,List.take_length] at hall
    walk_at "qd"
    have hw:wdB x=((decide (1<=x.length) && decide (x.length<=8)) && !keptsL.contains x):=by
      unfold wdB
      rw [show x.cps.toList.all (fun c=>decide (c∈lettersL.cps.toList))=true from by
        rw [List.all_eq_true]
        exact fun c hc=>by simp [hall c hc]]
      rfl
    rw [hw] at q
    refine ⟨line1000 (by lia),?_⟩
    by_cases h1:1<=x.length
    . refine iteTt (by simp;lia) ?_
      by_cases h8:x.length<=8
      . refine iteTt (by simp;lia) ⟨rfl,fun l hl=>?_⟩
        refine ⟨_,updA_same,rfl,by decide,fgx (Ext.new hl) ?_⟩
        rw [decide_eq_true h1,decide_eq_true h8,Bool.and_self,Bool.true_and] at q
        by_cases hk:x∈keptsL
        . rw [inU_yes hk]
          rw [show keptsL.contains x=true from by simpa using hk] at q
          exact q
        . rw [inU_strs hk]
          rw [show keptsL.contains x=false from by simpa using hk] at q
          exact q
      . refine iteFf (by simp;lia) (fg ?_)
        rw [decide_eq_false h8,Bool.and_false,Bool.false_and] at q
        exact q
    . refine iteFf (by simp;lia) (iteFf rfl (fg ?_))
      rw [decide_eq_false h1,Bool.false_and,Bool.false_and] at q
      exact q
theorem ok_newword:FnOk P w K mg base CX0 3 f_w_new_word d_w_new_word ["_law_cell_here"] (spOf K asp_newword):=by
  have G_w_kept:=ok_kept (P:=P) (w:=w) (base:=base) T
  have G_w_word:=ok_word (P:=P) (w:=w) (base:=base) T
  refine' Fun.okA T.F_w_new_word (sc:=?sc34) (body:=?bd34) ?hs34 ?hb34 sc_w_new_word ?hB34 ?hS34
  case hs34=>conv=>lhs;whnf
  case hb34=>conv=>lhs;whnf
  case hB34=>exact fun S cdv A outer s H E hr=>⟨_,(pss_cons (ps_set (i:=1) S.nd rfl (Or.inl rfl) (pe_op o_addW (pe_call0 (G_w_kept.mono (by first | decide | lia)) hr (by rfl) T.M_w_kept T.F_w_kept.kp T.B_w_kept .nil pass0) (pe_lst (pa_strs (xs:=["(",")","((","]","","red","nothings","Bead","a1","abcdefghi","( ","or"]) rfl))))
      (pss_cons (ps_if (pt_cmpR (o_eqD hr) (pe_op o_mod (pv 0) pe_int) pe_int (nomark _)) (pss_one (ps_ret (pe_call (G_w_word.mono (by first | decide | lia)) hr (by rfl) T.M_w_word T.F_w_word.kp T.B_w_word .nil pass0 (pa_cons (pe_op o_fdiv (pv 0) pe_int) pa_nil)))) pss_nil)
      (pss_one (ps_ret (pe_ix o_ix (pv 1) (pe_op o_mod (pe_op o_fdiv (pv 0) pe_int) pe_int) (fun _ _=>rfl)))))),(ab_seq (ab_asg (ab_op ab_add (ab_call ab_nil) (ab_lst ab_strs)) ab_name)
      (ab_seq (ab_ifs (ab_test (ab_op ab_eq (ab_op ab_mod ab_var ab_int) ab_int)) (ab_ret (ab_call (ab_cons (ab_op ab_div ab_var ab_int) ab_nil))) ab_next)
      (ab_ret (ab_op ab_ix ab_var (ab_op ab_mod (ab_op ab_div ab_var ab_int) ab_int)))))⟩
  rintro us A Q ⟨c,rfl,q⟩
  refine ⟨rfl,?_⟩
  walk_at "qs"
  walk_at "qd"
  refine ⟨rfl,fun l1 hl1=>⟨by decide,fun l2 hl2=>?_⟩⟩
  have e1:=Ext.new (o:=.lst (keptsL.map U.str)) hl1
  have b1:(updA A l1 (.lst (keptsL.map U.str))) l1=some (.lst (keptsL.map U.str)):=updA_same
  generalize updA A l1 (.lst (keptsL.map U.str))=A1 at e1 b1 hl2 ⊢
  have e2:=Ext.new (o:=.lst (br3.map U.str)) hl2
  have b2:(updA A1 l2 (.lst (br3.map U.str))) l2=some (.lst (br3.map U.str)):=updA_same
  have b1':=e2 _ _ b1
  change xAdd (.ref l1) (.ref l2) (updA A1 l2 (.lst (br3.map U.str))) _
  generalize updA A1 l2 (.lst (br3.map U.str))=A2 at e2 b2 b1' ⊢
  walk_at "qd"
  refine ⟨_,_,b1',b2,by decide,fun l3 hl3=>?_⟩
  rw [<- List.map_append]
  have e3:=Ext.new (o:=.lst ((keptsL++br3).map U.str)) hl3
  have b3:(updA A2 l3 (.lst ((keptsL++br3).map U.str))) l3=some (.lst ((keptsL++br3).map U.str)):=updA_same
  generalize updA A2 l3 (.lst ((keptsL++br3).map U.str))=A3 at e3 b3 ⊢
  have eA:=e1.trans (e2.trans e3)
  refine ⟨by decide,iteB (fun _=>?_) fun _=>?_⟩
  . refine ⟨⟨by decide,by decide⟩,_,rfl,fun x hx=>fgx eA (q x (.inl ?_))⟩
    have h1:=wdB_of hx
    exact ⟨by lia,fun h=>by have:=h1.1 32 h;lia⟩
  . refine ⟨⟨by decide,by decide⟩,by decide,?_⟩
    have h23:((keptsL++br3).map U.str).length=23:=by decide
    obtain ⟨v,hv,hv2⟩:=atI_lt (xs:=(keptsL++br3).map U.str) (i:=c / 4 % 23) (Int.emod_nonneg _ (by decide)) (by rw [h23];exact Int.emod_lt_of_pos _ (by decide))
    obtain ⟨x,hx,rfl⟩:=map_get hv2
    walk_at "qd"
    exact ⟨_,_,b3,hv,fgx eA (q x (all3 x (List.mem_of_getElem? hx)))⟩
end
theorem cutF {xs:List U} {k:Nat} (h:k<=xs.length):cutU xs (some (k:Int)) none=xs.drop k:=by
  unfold cutU
  rw [HT.sIx_nat,HT.sIx_none,Nat.min_eq_left h,List.take_of_length_le (by rw [List.length_drop];lia)]
theorem cutT {xs:List U} {k:Nat} (h:k<=xs.length):cutU xs none (some (k:Int))=xs.take k:=by
  unfold cutU
  rw [HT.sIx_nat,HT.sIx_none,Nat.min_eq_left h,List.drop_zero,Nat.sub_zero]
section
include T
theorem ok_changed:FnOk P w K mg base CX0 4 f_w_changed d_w_changed ["_law_words","_law_cell_here"] (spOf K asp_changed):=by
  have G_w_new_word:=ok_newword (P:=P) (w:=w) (base:=base) T
  refine' Fun.okA T.F_w_changed (sc:=?sc35) (body:=?bd35) ?hs35 ?hb35 sc_w_changed ?hB35 ?hS35
  case hs35=>conv=>lhs;whnf
  case hb35=>conv=>lhs;whnf
  case hB35=>exact fun S cdv A outer s H E hr=>⟨_,(pss_cons (ps_set (i:=2) S.nd rfl (Or.inl rfl) (pe_op o_mod (pe_op o_fdiv (pv 1) pe_int) (pe_op o_addW (pe_callB c_len (by rfl) T.n_len (by decide +kernel) (pa_cons (pv 0) pa_nil)) pe_int)))
      (pss_cons (ps_set (i:=3) S.nd rfl (Or.inl rfl) (pe_call (G_w_new_word.mono (by first | decide | lia)) hr (by rfl) T.M_w_new_word T.F_w_new_word.kp T.B_w_new_word .nil pass0 (pa_cons (pe_op o_fdiv (pv 1) pe_int) pa_nil)))
      (pss_cons (ps_if (pt_cmpR (o_eqD hr) (pe_op o_mod (pv 1) pe_int) pe_int (nomark _)) (pss_one (ps_ret (pe_op o_addW (pe_op o_addW (pe_slice o_slW (pv 0) po_none (po_some (pv 2))) (pe_lst (pa_cons (pv 3) pa_nil))) (pe_slice o_slW (pv 0) (po_some (pv 2)) po_none)))) pss_nil)
      (pss_cons (ps_if (pt_cmpR (o_eqD hr) (pe_op o_mod (pv 1) pe_int) pe_int (nomark _)) (pss_one (ps_ret (pe_op o_addW (pe_slice o_slW (pv 0) po_none (po_some (pv 2))) (pe_slice o_slW (pv 0) (po_some (pe_op o_addW (pv 2) pe_int)) po_none)))) pss_nil)
      (pss_cons (ps_if (pt_cmpR (o_eqD hr) (pe_op o_mod (pv 1) pe_int) pe_int (nomark _)) (pss_one (ps_ret (pe_op o_addW (pe_op o_addW (pe_slice o_slW (pv 0) po_none (po_some (pv 2))) (pe_lst (pa_cons (pv 3) pa_nil))) (pe_slice o_slW (pv 0) (po_some (pe_op o_addW (pv 2) pe_int)) po_none)))) pss_nil)
      (pss_cons (ps_if (pt_cmpR (o_eqD hr) (pe_op o_mod (pv 1) pe_int) pe_int (nomark _)) (pss_one (ps_ret (pe_slice o_slW (pv 0) po_none (po_some (pv 2))))) pss_nil)
      (pss_one (ps_ret (pv 0))))))))),(ab_seq (ab_asg (ab_op ab_mod (ab_op ab_div ab_var ab_int) (ab_op ab_add (ab_cb ab_len (ab_cons ab_var ab_nil)) ab_int)) ab_name)
      (ab_seq (ab_asg (ab_call (ab_cons (ab_op ab_div ab_var ab_int) ab_nil)) ab_name)
      (ab_seq (ab_ifH (ab_test (ab_op ab_eq (ab_op ab_mod ab_var ab_int) ab_int)) (ab_ret (ab_op ab_add (ab_op ab_add (ab_sl ab_xsl ab_var ab_nopart (ab_part ab_var)) (ab_lst (ab_cons ab_var ab_nil))) (ab_sl ab_xsl ab_var (ab_part ab_var) ab_nopart))) ab_next)
      (ab_seq (ab_ifH (ab_test (ab_op ab_eq (ab_op ab_mod ab_var ab_int) ab_int)) (ab_ret (ab_op ab_add (ab_sl ab_xsl ab_var ab_nopart (ab_part ab_var)) (ab_sl ab_xsl ab_var (ab_part (ab_op ab_add ab_var ab_int)) ab_nopart))) ab_next)
      (ab_seq (ab_ifH (ab_test (ab_op ab_eq (ab_op ab_mod ab_var ab_int) ab_int)) (ab_ret (ab_op ab_add (ab_op ab_add (ab_sl ab_xsl ab_var ab_nopart (ab_part ab_var)) (ab_lst (ab_cons ab_var ab_nil))) (ab_sl ab_xsl ab_var (ab_part (ab_op ab_add ab_var ab_int)) ab_nopart))) ab_next)
      (ab_seq (ab_ifH (ab_test (ab_op ab_eq (ab_op ab_mod ab_var ab_int) ab_int)) (ab_ret (ab_sl ab_xsl ab_var ab_nopart (ab_part ab_var))) ab_next)
      (ab_ret ab_var)))))))⟩
  rintro us A Q ⟨l,ts,c,rfl,hl,hn,h9,q⟩
  refine ⟨rfl,?_⟩
  walk_at "qs"
  walk_at "qd"
  refine ⟨⟨by decide,by decide⟩,_,hl,by lia,⟨by decide,by decide⟩,_,rfl,fun x hx=>?_⟩
  dsimp only
  have hj0:0<=c / 5 % (((ts.map U.str).length:Int) + 1):=Int.emod_nonneg _ (by lia)
  have hj1:c / 5 % (((ts.map U.str).length:Int) + 1) < ((ts.map U.str).length:Int) + 1:=Int.emod_lt_of_pos _ (by lia)
  rw [List.length_map] at hj0 hj1 ⊢
  obtain ⟨j,hj⟩:=Int.eq_ofNat_of_zero_le hj0
  rw [hj] at hj1 ⊢
  have hjl:j<=ts.length:=by lia
  have cT:cutU (ts.map U.str) none (some (j:Int))=(ts.take j).map U.str:=by rw [cutT (by rw [List.length_map];exact hjl),List.map_take]
  have cD:cutU (ts.map U.str) (some (j:Int)) none=(ts.drop j).map U.str:=by rw [cutF (by rw [List.length_map];exact hjl),List.map_drop]
  have cD1:∃ k,cutU (ts.map U.str) (some ((j:Int) + 1)) none=(ts.drop k).map U.str/\j<=k:=by
    by_cases h:j < ts.length
    . exact ⟨j + 1,by rw [show (j:Int) + 1=((j + 1:Nat):Int) from rfl,cutF (by rw [List.length_map];lia),List.map_drop],by lia⟩
    . refine ⟨ts.length,?_,hjl⟩
      unfold cutU
      rw [show (j:Int) + 1=((j + 1:Nat):Int) from rfl,HT.sIx_nat,HT.sIx_none,List.length_map,Nat.min_eq_right (by lia),Nat.sub_self,List.take_zero,List.drop_length,List.map_nil]
  obtain ⟨k,cD1,hjk⟩:=cD1
  have o1:∀ t∈ts.take j,T3 t:=fun t h=>h9 t (List.mem_of_mem_take h)
  have o2:∀ i,∀ t∈ts.drop i,T3 t:=fun i t h=>h9 t (List.mem_of_mem_drop h)
  have l1:(ts.take j).length<=j:=by rw [List.length_take];lia
  have c5:c % 5=0\/c % 5=1\/c % 5=2\/c % 5=3\/c % 5=4:=by lia
  rcases c5 with h | h | h | h | h
  . skip
    refine if_yes (fun B hB=>?_) ?_
    . walk_at "qd"
      exact ⟨by decide,by rw [decide_eq_true (by lia)];exact hB⟩
    . walk_at "qd"
      refine ⟨_,hl,fun p1 hp1=>?_⟩
      rw [cT]
      have e1:=Ext.new (o:=.lst ((ts.take j).map U.str)) hp1
      have bA1:=e1 _ _ hl
      have b1:(updA A p1 (.lst ((ts.take j).map U.str))) p1=some (.lst ((ts.take j).map U.str)):=updA_same
      generalize updA A p1 (.lst ((ts.take j).map U.str))=A1 at e1 bA1 b1 ⊢
      refine ⟨tup1,fun p2 hp2=>?_⟩
      have e2':=Ext.new (o:=.lst [U.str x]) hp2
      have b1':=e2' _ _ b1
      have bA1':=e2' _ _ bA1
      have b2:(updA A1 p2 (.lst [U.str x])) p2=some (.lst [U.str x]):=updA_same
      generalize updA A1 p2 (.lst [U.str x])=A1' at e2' b1' bA1' b2 ⊢
      refine ⟨_,_,b1',b2,line1000 (by rw [List.length_map,List.length_take];show _ + 1<=_;lia),fun p3 hp3=>?_⟩
      rw [show (ts.take j).map U.str++[U.str x]=(ts.take j++[x]).map U.str from by rw [List.map_append];rfl]
      have e3:=Ext.new (o:=.lst ((ts.take j++[x]).map U.str)) hp3
      have bA2:=e3 _ _ bA1'
      have b3:(updA A1' p3 (.lst ((ts.take j++[x]).map U.str))) p3=some (.lst ((ts.take j++[x]).map U.str)):=updA_same
      generalize updA A1' p3 (.lst ((ts.take j++[x]).map U.str))=A3 at e3 bA2 b3 ⊢
      have e2:=e2'
      refine ⟨_,bA2,fun p4 hp4=>?_⟩
      rw [cD]
      have e4:=Ext.new (o:=.lst ((ts.drop j).map U.str)) hp4
      have b4:=e4 _ _ b3
      have b4':(updA A3 p4 (.lst ((ts.drop j).map U.str))) p4=some (.lst ((ts.drop j).map U.str)):=updA_same
      generalize updA A3 p4 (.lst ((ts.drop j).map U.str))=A4 at e4 b4 b4' ⊢
      refine ⟨_,_,b4,b4',line1000 (by rw [List.length_map,List.length_map,List.length_append,List.length_singleton,List.length_drop];lia),fun p5 hp5=>fg (q p5 (ts.take j++[x]++ts.drop j) _ (e1.trans (e2.trans (e3.trans (e4.trans (Ext.new hp5))))) (by rw [updA_same,<- List.map_append]) (by rw [List.length_append,List.length_append,List.length_singleton,List.length_drop];lia) (pz_c1 (Nat.le_refl _)) fun t ht=>?_)⟩
      rcases List.mem_append.mp ht with ht | ht
      . rcases List.mem_append.mp ht with ht | ht
        . exact o1 t ht
        . rw [List.mem_singleton.mp ht];exact hx
      . exact o2 _ t ht
  . skip
    refine if_no (fun B hB=>?_) ?_
    . walk_at "qd"
      exact ⟨by decide,by rw [decide_eq_false (by lia)];exact hB⟩
    simp only [↓q_next,↓q_seq]
    refine if_yes (fun B hB=>?_) ?_
    . walk_at "qd"
      exact ⟨by decide,by rw [decide_eq_true (by lia)];exact hB⟩
    . walk_at "qd"
      refine ⟨_,hl,fun p1 hp1=>?_⟩
      rw [cT]
      have e1:=Ext.new (o:=.lst ((ts.take j).map U.str)) hp1
      have bA1:=e1 _ _ hl
      have b1:(updA A p1 (.lst ((ts.take j).map U.str))) p1=some (.lst ((ts.take j).map U.str)):=updA_same
      generalize updA A p1 (.lst ((ts.take j).map U.str))=A1 at e1 bA1 b1 ⊢
      refine ⟨_,bA1,fun p4 hp4=>?_⟩
      rw [cD1]
      have e4:=Ext.new (o:=.lst ((ts.drop k).map U.str)) hp4
      have b4:=e4 _ _ b1
      have b4':(updA A1 p4 (.lst ((ts.drop k).map U.str))) p4=some (.lst ((ts.drop k).map U.str)):=updA_same
      generalize updA A1 p4 (.lst ((ts.drop k).map U.str))=A4 at e4 b4 b4' ⊢
      refine ⟨_,_,b4,b4',line1000 (by rw [List.length_map,List.length_map,List.length_drop];lia),fun p5 hp5=>fg (q p5 (ts.take j++ts.drop k) _ (e1.trans (e4.trans (Ext.new hp5))) (by rw [updA_same,<- List.map_append]) (by rw [List.length_append,List.length_drop];lia) (pz_c2 hjk) fun t ht=>(List.mem_append.mp ht).elim (o1 t) (o2 _ t))⟩
  . skip
    refine if_no (fun B hB=>?_) ?_
    . walk_at "qd"
      exact ⟨by decide,by rw [decide_eq_false (by lia)];exact hB⟩
    simp only [↓q_next,↓q_seq]
    refine if_no (fun B hB=>?_) ?_
    . walk_at "qd"
      exact ⟨by decide,by rw [decide_eq_false (by lia)];exact hB⟩
    simp only [↓q_next,↓q_seq]
    refine if_yes (fun B hB=>?_) ?_
    . walk_at "qd"
      exact ⟨by decide,by rw [decide_eq_true (by lia)];exact hB⟩
    . walk_at "qd"
      refine ⟨_,hl,fun p1 hp1=>?_⟩
      rw [cT]
      have e1:=Ext.new (o:=.lst ((ts.take j).map U.str)) hp1
      have bA1:=e1 _ _ hl
      have b1:(updA A p1 (.lst ((ts.take j).map U.str))) p1=some (.lst ((ts.take j).map U.str)):=updA_same
      generalize updA A p1 (.lst ((ts.take j).map U.str))=A1 at e1 bA1 b1 ⊢
      refine ⟨tup1,fun p2 hp2=>?_⟩
      have e2':=Ext.new (o:=.lst [U.str x]) hp2
      have b1':=e2' _ _ b1
      have bA1':=e2' _ _ bA1
      have b2:(updA A1 p2 (.lst [U.str x])) p2=some (.lst [U.str x]):=updA_same
      generalize updA A1 p2 (.lst [U.str x])=A1' at e2' b1' bA1' b2 ⊢
      refine ⟨_,_,b1',b2,line1000 (by rw [List.length_map,List.length_take];show _ + 1<=_;lia),fun p3 hp3=>?_⟩
      rw [show (ts.take j).map U.str++[U.str x]=(ts.take j++[x]).map U.str from by rw [List.map_append];rfl]
      have e3:=Ext.new (o:=.lst ((ts.take j++[x]).map U.str)) hp3
      have bA2:=e3 _ _ bA1'
      have b3:(updA A1' p3 (.lst ((ts.take j++[x]).map U.str))) p3=some (.lst ((ts.take j++[x]).map U.str)):=updA_same
      generalize updA A1' p3 (.lst ((ts.take j++[x]).map U.str))=A3 at e3 bA2 b3 ⊢
      have e2:=e2'
      refine ⟨_,bA2,fun p4 hp4=>?_⟩
      rw [cD1]
      have e4:=Ext.new (o:=.lst ((ts.drop k).map U.str)) hp4
      have b4:=e4 _ _ b3
      have b4':(updA A3 p4 (.lst ((ts.drop k).map U.str))) p4=some (.lst ((ts.drop k).map U.str)):=updA_same
      generalize updA A3 p4 (.lst ((ts.drop k).map U.str))=A4 at e4 b4 b4' ⊢
      refine ⟨_,_,b4,b4',line1000 (by rw [List.length_map,List.length_map,List.length_append,List.length_singleton,List.length_drop];lia),fun p5 hp5=>fg (q p5 (ts.take j++[x]++ts.drop k) _ (e1.trans (e2.trans (e3.trans (e4.trans (Ext.new hp5))))) (by rw [updA_same,<- List.map_append]) (by rw [List.length_append,List.length_append,List.length_singleton,List.length_drop];lia) (pz_c1 hjk) fun t ht=>?_)⟩
      rcases List.mem_append.mp ht with ht | ht
      . rcases List.mem_append.mp ht with ht | ht
        . exact o1 t ht
        . rw [List.mem_singleton.mp ht];exact hx
      . exact o2 _ t ht
  . skip
    refine if_no (fun B hB=>?_) ?_
    . walk_at "qd"
      exact ⟨by decide,by rw [decide_eq_false (by lia)];exact hB⟩
    simp only [↓q_next,↓q_seq]
    refine if_no (fun B hB=>?_) ?_
    . walk_at "qd"
      exact ⟨by decide,by rw [decide_eq_false (by lia)];exact hB⟩
    simp only [↓q_next,↓q_seq]
    refine if_no (fun B hB=>?_) ?_
    . walk_at "qd"
      exact ⟨by decide,by rw [decide_eq_false (by lia)];exact hB⟩
    simp only [↓q_next,↓q_seq]
    refine if_yes (fun B hB=>?_) ?_
    . walk_at "qd"
      exact ⟨by decide,by rw [decide_eq_true (by lia)];exact hB⟩
    . walk_at "qd"
      refine ⟨_,hl,fun p1 hp1=>?_⟩
      rw [cT]
      exact fg (q p1 (ts.take j) _ (Ext.new hp1) updA_same (by lia) pz_c3 o1)
  . skip
    refine if_no (fun B hB=>?_) ?_
    . walk_at "qd"
      exact ⟨by decide,by rw [decide_eq_false (by lia)];exact hB⟩
    simp only [↓q_next,↓q_seq]
    refine if_no (fun B hB=>?_) ?_
    . walk_at "qd"
      exact ⟨by decide,by rw [decide_eq_false (by lia)];exact hB⟩
    simp only [↓q_next,↓q_seq]
    refine if_no (fun B hB=>?_) ?_
    . walk_at "qd"
      exact ⟨by decide,by rw [decide_eq_false (by lia)];exact hB⟩
    simp only [↓q_next,↓q_seq]
    refine if_no (fun B hB=>?_) ?_
    . walk_at "qd"
      exact ⟨by decide,by rw [decide_eq_false (by lia)];exact hB⟩
    simp only [↓q_next,↓q_seq]
    walk_at "qd"
    exact fg (q l ts A (Ext.refl A) hl (by lia) (Nat.le_succ _) h9)
end
noncomputable def wn:Want->Str
  | .fac=>"factor"
  | .of=>"of"
  | .col=>"colour"
  | .more=>"more"
noncomputable def stU3 (s:Want) (D:Nat):U:=.tup [.str (wn s),.int D]
noncomputable def optS:Option (Want × Nat)->U
  | none=>.non
  | some p=>stU3 p.1 p.2
noncomputable def asp_lstep:ASp:=fun us A Q=>∃ (s:Want) (D:Nat) (t:Str),us=[stU3 s D,.str t]/\t.length<=10000/\Q (optS (step3 s D t)) A
theorem wn_fac {s:Want}:decide (wn s=Str.ofString "factor")=decide (s=.fac):=by cases s <;> decide +kernel
theorem wn_of {s:Want}:decide (wn s=Str.ofString "of")=decide (s=.of):=by cases s <;> decide +kernel
theorem wn_more {s:Want}:decide (wn s=Str.ofString "more")=decide (s=.more):=by cases s <;> decide +kernel
theorem wn_c2 {s:Want}:inU (.str (wn s)) [.str "factor",.str "colour"]=decide (s=.fac\/s=.col):=by cases s <;> decide +kernel
theorem inU_dec {x:Str} (ts:List Str):inU (.str x) (ts.map U.str)=decide (x∈ts):=by
  by_cases h:x∈ts
  . rw [inU_strs' h,decide_eq_true h]
  . rw [inU_strs h,decide_eq_false h]
noncomputable def ob2:List Str:=["(","bead"]
noncomputable def oy2:List Str:=["or","by"]
theorem in_ob {t:Str} (h:t∈ob2):t="("\/t="bead":=by simpa [ob2] using h
theorem in_oy {t:Str} (h:t∈oy2):t="or"\/t="by":=by simpa [oy2] using h
theorem st_non {s:Want} {D:Nat} {t:Str} (h1:(decide (s=.fac) && decide (t∈hold4))=false) (h2:(decide (s=.fac) && decide (t∈ob2))=false) (h3:((decide (s=.fac) && decide (t="nothing")) || (decide (s=.fac\/s=.col) && wdB t))=false) (h4:((decide (s=.of) && decide (t="of")) || (decide (s=.more) && decide (t∈oy2)))=false) (h5:(decide (s=.more) && (decide (t=")") && decide (0 < D)))=false):step3 s D t=none:=by
  cases s with
  | fac =>
    have g1:t ∉ hold4:=by simpa using h1
    have g2:t ∉ ob2:=by simpa using h2
    have g3:¬ t="nothing"/\wdB t=false:=by simpa using h3
    exact st_bad g1 (fun e=>g2 (by rw [e];decide +kernel)) (fun e=>g2 (by rw [e];decide +kernel)) g3.1 g3.2
  | of=>exact st_ofN (by simpa using h4)
  | col=>exact st_colN (by simpa using h3)
  | more =>
    have g4:t ∉ oy2:=by simpa using h4
    have g5:t=")"->D=0:=by simpa using h5
    refine st_more (fun e=>g4 (by rw [e];decide +kernel)) (fun e=>g4 (by rw [e];decide +kernel)) ?_
    by_cases e:t=")"
    . exact .inr (g5 e)
    . exact .inl e
section
include T
theorem ok_lstep:FnOk P w K mg base CX0 4 f_w_step d_w_step ["_law_state","_law_word_here"] (spOf K asp_lstep):=by
  have G_w_is_word:=ok_lisw (P:=P) (w:=w) (base:=base) T
  refine' Fun.okA T.F_w_step (sc:=?sc36) (body:=?bd36) ?hs36 ?hb36 sc_w_step ?hB36 ?hS36
  case hs36=>conv=>lhs;whnf
  case hb36=>conv=>lhs;whnf
  case hB36=>exact fun S cdv A outer s H E hr=>⟨_,(pss_cons (ps_set (i:=2) S.nd rfl (Or.inl rfl) (pe_ix o_ix (pv 0) pe_int (fun _ _=>rfl)))
      (pss_cons (ps_set (i:=3) S.nd rfl (Or.inl rfl) (pe_ix o_ix (pv 0) pe_int (fun _ _=>rfl)))
      (pss_cons (ps_if ((pw_and (pt_cmpR (o_eqD hr) (pv 2) pe_str (nomark _)) (pw_and1 (pt_cmpR o_in (pv 1) (pe_tup (pa_strs (xs:=["row","bag","choice","ring"]) rfl)) (by with_unfolding_all rfl))))).pt (pss_one (ps_ret (pe_tup (pa_cons pe_str (pa_cons (pv 3) pa_nil))))) pss_nil)
      (pss_cons (ps_if ((pw_and (pt_cmpR (o_eqD hr) (pv 2) pe_str (nomark _)) (pw_and1 (pt_cmpR o_in (pv 1) (pe_tup (pa_cons pe_str (pa_cons pe_str pa_nil))) (by with_unfolding_all rfl))))).pt (pss_one (ps_ret (pe_ix o_ix (pe_lst (pa_cons (pe_tup (pa_cons pe_str (pa_cons (pv 3) pa_nil))) (pa_cons (pe_tup (pa_cons pe_str (pa_cons (pe_op o_addW (pv 3) pe_int) pa_nil))) pa_nil))) (pe_callTy c_int (by rfl) T.n_int (by decide +kernel) (pa_cons (pe_cmpR (o_eqD hr) (pv 1) pe_str (nomark _)) pa_nil)) (fun _ _=>rfl)))) pss_nil)
      (pss_cons (ps_if ((pw_or ((pw_and (pt_cmpR (o_eqD hr) (pv 2) pe_str (nomark _)) (pw_and1 (pt_cmpR (o_eqD hr) (pv 1) pe_str (nomark _))))).pt (pw_or1 ((pw_and (pt_cmpR o_in (pv 2) (pe_tup (pa_cons pe_str (pa_cons pe_str pa_nil))) (by with_unfolding_all rfl)) (pw_and1 (pt_val (pe_call (G_w_is_word.mono (by first | decide | lia)) hr (by rfl) T.M_w_is_word T.F_w_is_word.kp T.B_w_is_word .nil pass0 (pa_cons (pv 1) pa_nil)))))).pt))).pt (pss_one (ps_ret (pe_tup (pa_cons pe_str (pa_cons (pv 3) pa_nil))))) pss_nil)
      (pss_cons (ps_if ((pw_or ((pw_and (pt_cmpR (o_eqD hr) (pv 2) pe_str (nomark _)) (pw_and1 (pt_cmpR (o_eqD hr) (pv 1) pe_str (nomark _))))).pt (pw_or1 ((pw_and (pt_cmpR (o_eqD hr) (pv 2) pe_str (nomark _)) (pw_and1 (pt_cmpR o_in (pv 1) (pe_tup (pa_cons pe_str (pa_cons pe_str pa_nil))) (by with_unfolding_all rfl))))).pt))).pt (pss_one (ps_ret (pe_tup (pa_cons pe_str (pa_cons (pv 3) pa_nil))))) pss_nil)
      (pss_cons (ps_if ((pw_and (pt_cmpR (o_eqD hr) (pv 2) pe_str (nomark _)) (pw_and (pt_cmpR (o_eqD hr) (pv 1) pe_str (nomark _)) (pw_and1 (pt_cmpR o_gt (pv 3) pe_int (nomark _)))))).pt (pss_one (ps_ret (pe_tup (pa_cons pe_str (pa_cons (pe_op o_sub (pv 3) pe_int) pa_nil))))) pss_nil)
      (pss_one (ps_ret pe_non))))))))),(ab_seq (ab_asg (ab_op ab_ix ab_var ab_int) ab_name)
      (ab_seq (ab_asg (ab_op ab_ix ab_var ab_int) ab_name)
      (ab_seq (ab_ifH (ab_and (ab_test (ab_op ab_eq ab_var ab_str)) (ab_test (ab_op ab_in ab_var (ab_tup ab_strs)))) (ab_ret (ab_tup (ab_cons ab_str (ab_cons ab_var ab_nil)))) ab_next)
      (ab_seq (ab_ifH (ab_and (ab_test (ab_op ab_eq ab_var ab_str)) (ab_test (ab_op ab_in ab_var (ab_tup (ab_cons ab_str (ab_cons ab_str ab_nil)))))) (ab_ret (ab_op ab_ix (ab_lst (ab_cons (ab_tup (ab_cons ab_str (ab_cons ab_var ab_nil))) (ab_cons (ab_tup (ab_cons ab_str (ab_cons (ab_op ab_add ab_var ab_int) ab_nil))) ab_nil))) (ab_cb ab_xint (ab_cons (ab_op ab_eq ab_var ab_str) ab_nil)))) ab_next)
      (ab_seq (ab_ifH (ab_or (ab_and (ab_test (ab_op ab_eq ab_var ab_str)) (ab_test (ab_op ab_eq ab_var ab_str))) (ab_and (ab_test (ab_op ab_in ab_var (ab_tup (ab_cons ab_str (ab_cons ab_str ab_nil))))) (ab_tb (ab_call (ab_cons ab_var ab_nil))))) (ab_ret (ab_tup (ab_cons ab_str (ab_cons ab_var ab_nil)))) ab_next)
      (ab_seq (ab_ifH (ab_or (ab_and (ab_test (ab_op ab_eq ab_var ab_str)) (ab_test (ab_op ab_eq ab_var ab_str))) (ab_and (ab_test (ab_op ab_eq ab_var ab_str)) (ab_test (ab_op ab_in ab_var (ab_tup (ab_cons ab_str (ab_cons ab_str ab_nil))))))) (ab_ret (ab_tup (ab_cons ab_str (ab_cons ab_var ab_nil)))) ab_next)
      (ab_seq (ab_ifH (ab_and (ab_test (ab_op ab_eq ab_var ab_str)) (ab_and (ab_test (ab_op ab_eq ab_var ab_str)) (ab_test (ab_op ab_gt ab_var ab_int)))) (ab_ret (ab_tup (ab_cons ab_str (ab_cons (ab_op ab_sub ab_var ab_int) ab_nil)))) ab_next)
      (ab_ret ab_non))))))))⟩
  rintro us A Q ⟨s,D,t,rfl,ht,q⟩
  refine ⟨rfl,?_⟩
  walk_at "qs"
  unfold stU3
  walk_at "qg"
  refine if_open (decide (s=.fac) && decide (t∈hold4)) (fun B hB=>?_) ?_
  . walk_at "qd"
    rw [wn_fac,show inU (.str t) [.str "row",.str "bag",.str "choice",.str "ring"]=decide (t∈hold4) from inU_dec hold4]
    cases hb:decide (s=.fac)
    . rw [hb] at hB;exact iteFf rfl hB
    . rw [hb] at hB;exact iteTt rfl ⟨by decide,rfl,rfl,hB⟩
  refine iteB (fun h1=>?_) fun h1=>?_
  . walk_at "qd"
    obtain ⟨rfl,h⟩:s=.fac/\t∈hold4:=by simpa using h1
    rw [st_hold h] at q
    exact ⟨tup2,fg q⟩
  simp only [↓q_next,↓q_seq]
  refine if_open (decide (s=.fac) && decide (t∈ob2)) (fun B hB=>?_) ?_
  . walk_at "qd"
    rw [wn_fac,show inU (.str t) [.str "(",.str "bead"]=decide (t∈ob2) from inU_dec ob2]
    cases hb:decide (s=.fac)
    . rw [hb] at hB;exact iteFf rfl hB
    . rw [hb] at hB;exact iteTt rfl ⟨by decide,rfl,rfl,hB⟩
  refine iteB (fun h2=>?_) fun h2=>?_
  . walk_at "qd"
    obtain ⟨rfl,h⟩:s=.fac/\t∈ob2:=by simpa using h2
    refine ⟨tup2,tup2,tup2,fun p hp=>?_⟩
    rw [q_xintb]
    rcases in_ob h with rfl | rfl
    . rw [st_par] at q
      rw [decide_eq_true rfl]
      exact ⟨_,_,updA_same,rfl,fgx (Ext.new hp) q⟩
    . rw [st_bead] at q
      rw [decide_eq_false (by decide +kernel)]
      exact ⟨_,_,updA_same,rfl,fgx (Ext.new hp) q⟩
  simp only [↓q_next,↓q_seq]
  refine if_open ((decide (s=.fac) && decide (t="nothing")) || (decide (s=.fac\/s=.col) && wdB t)) (fun B hB=>?_) ?_
  . walk_at "qd"
    rw [wn_fac,wn_c2]
    have rest:∀ b:Bool,B (b && wdB t) A->if b=true then asp_lisw [.str t] A (fun x A1=>∃ c,x=U.bl c/\B c A1) else B false A:=fun b h=>by
      cases b
      . exact iteFf rfl h
      . exact iteTt rfl ⟨t,rfl,ht,_,rfl,h⟩
    cases hb:decide (s=.fac)
    . rw [hb] at hB
      exact iteFf rfl (iteFf rfl ⟨by decide,rfl,rfl,rest _ hB⟩)
    . rw [hb] at hB
      cases hn:decide (t="nothing")
      . rw [hn] at hB
        exact iteTt rfl (iteFf rfl ⟨by decide,rfl,rfl,rest _ hB⟩)
      . rw [hn] at hB
        exact iteTt rfl (iteTt rfl hB)
  refine iteB (fun h3=>?_) fun h3=>?_
  . walk_at "qd"
    have h:(s=.fac/\t="nothing")\/((s=.fac\/s=.col)/\wdB t=true):=by simpa using h3
    have:step3 s D t=some (.more,D):=by
      rcases h with ⟨rfl,rfl⟩ | ⟨rfl | rfl,h⟩
      . exact st_nothing
      . exact st_name h
      . exact st_col h
    rw [this] at q
    exact ⟨tup2,fg q⟩
  simp only [↓q_next,↓q_seq]
  refine if_open ((decide (s=.of) && decide (t="of")) || (decide (s=.more) && decide (t∈oy2))) (fun B hB=>?_) ?_
  . walk_at "qd"
    rw [wn_of,wn_more,show inU (.str t) [.str "or",.str "by"]=decide (t∈oy2) from inU_dec oy2]
    have rest:∀ b:Bool,B (b && decide (t∈oy2)) A->if b=true then [U.str (Str.ofString "or"),U.str (Str.ofString "by")].length<=sizeLine/\(U.str t).flat=true/\[U.str (Str.ofString "or"),U.str (Str.ofString "by")].all U.flat=true/\B (decide (t∈oy2)) A else B false A:=fun b h=>by
      cases b
      . exact iteFf rfl h
      . exact iteTt rfl ⟨by decide,rfl,rfl,h⟩
    cases hb:decide (s=.of)
    . rw [hb] at hB
      exact iteFf rfl (iteFf rfl (rest _ hB))
    . rw [hb] at hB
      cases hn:decide (t="of")
      . rw [hn] at hB
        exact iteTt rfl (iteFf rfl (rest _ hB))
      . rw [hn] at hB
        exact iteTt rfl (iteTt rfl hB)
  refine iteB (fun h4=>?_) fun h4=>?_
  . walk_at "qd"
    have h:(s=.of/\t="of")\/(s=.more/\t∈oy2):=by simpa using h4
    have : step3 s D t=some (.fac,D):=by
      rcases h with ⟨rfl,rfl⟩ | ⟨rfl,h⟩
      . exact st_of
      . rcases in_oy h with rfl | rfl
        . exact st_or
        . exact st_by
    rw [this] at q
    exact ⟨tup2,fg q⟩
  simp only [↓q_next,↓q_seq]
  refine if_open (decide (s=.more) && (decide (t=")") && decide (0 < D))) (fun B hB=>?_) ?_
  . walk_at "qd"
    rw [wn_more,show decide ((0:Int) < (D:Int))=decide (0 < D) from by simp]
    cases hb:decide (s=.more)
    . rw [hb] at hB;exact iteFf rfl hB
    . rw [hb] at hB
      cases hn:decide (t=")")
      . rw [hn] at hB;exact iteTt rfl (iteFf rfl hB)
      . rw [hn] at hB;exact iteTt rfl (iteTt rfl hB)
  refine iteB (fun h5=>?_) fun h5=>?_
  . walk_at "qd"
    obtain ⟨rfl,rfl,h⟩:s=.more/\t=")"/\0 < D:=by simpa using h5
    obtain ⟨D,rfl⟩:∃ D',D=D' + 1:=⟨D - 1,by lia⟩
    rw [st_close] at q
    rw [show ((D + 1:Nat):Int) - 1=(D:Int) from by lia]
    exact ⟨tup2,fg q⟩
  walk_at "qd"
  rw [st_non h1 h2 h3 h4 h5] at q
  exact fg q
end
noncomputable def optN:Option Nat->U
  | none=>.non
  | some n=>.int (n:Nat)
noncomputable def asp_fault:ASp:=fun us A Q=>∃ (l:Addr) (ts:List Str),us=[.ref l]/\A l=some (.lst (ts.map U.str))/\ts.length<=10000/\(∀ t∈ts,t.length<=10000)/\Q (optN (run3 .fac 0 ts 0)) A
noncomputable def asp_refused:ASp:=fun us A Q=>∃ (z:Str) (ts:List Str),us=[.str z]/\z.length<=10000/\Txt.split z blk=ts/\ts.length<=1000/\(∀ t∈ts,t.length<=10000)/\par ts 0 < 45/\Q (optN (run3 .fac 0 ts 0)) A
theorem end3 {s:Want} {D:Nat}:PyData.eqv (.tuple [.str (wn s),.int (D:Nat)]) (.tuple [.str "more",.int 0])=decide (s=.more/\D=0):=by
  have e:∀ x:Str,x≠"more"->PyData.eqv (.tuple [.str x,.int (D:Nat)]) (.tuple [.str "more",.int 0])=false:=fun x h=>by simp [PyData.eqv,PyData.eqvAll,h]
  cases s with
  | fac=>rw [e _ (by decide +kernel)];simp
  | of=>rw [e _ (by decide +kernel)];simp
  | col=>rw [e _ (by decide +kernel)];simp
  | more =>
    simp [PyData.eqv,PyData.eqvAll,wn]
    by_cases h:D=0
    . subst h;decide
    . rw [decide_eq_false h,beq_eq_false_iff_ne];lia
section
include T
theorem clss:∀ c∈[a_Nothing,a_Bead,a_Named,a_Or,a_By,a_Row,a_Bag,a_Choice,a_Ring],Cls K c:=by
  simp only [List.mem_cons,List.not_mem_nil,or_false,forall_eq_or_imp,forall_eq]
  exact ⟨T.L_Nothing,T.L_Bead,T.L_Named,T.L_Or,T.L_By,T.L_Row,T.L_Bag,T.L_Choice,T.L_Ring⟩
theorem ok_fault:FnOk P w K mg base CX0 6 f_w_fault d_w_fault ["_law_words"] (spOf K asp_fault):=by
  have G_w_step:=ok_lstep (P:=P) (w:=w) (base:=base) T
  refine' Fun.okA T.F_w_fault (sc:=?sc37) (body:=?bd37) ?hs37 ?hb37 sc_w_fault ?hB37 ?hS37
  case hs37=>conv=>lhs;whnf
  case hb37=>conv=>lhs;whnf
  case hB37=>exact fun S cdv A outer s H E hr=>⟨_,(pss_cons (ps_set (i:=1) S.nd rfl (Or.inl rfl) (pe_tup (pa_cons pe_str (pa_cons pe_int pa_nil))))
      (pss_cons (ps_for PassesOwn.never rfl (pj_enumS (by rfl) T.n_enumerate (pa_cons (pv 0) pa_nil)) (pg_tup (n:=2) rfl (pgs_cons (pg_name (i:=2) S.nd rfl (Or.inl rfl)) (pgs_cons (pg_name (i:=3) S.nd rfl (Or.inl rfl)) pgs_nil)))
      (pss_cons (ps_set (i:=1) S.nd rfl (Or.inl rfl) (pe_call (G_w_step.mono (by first | decide | lia)) hr (by rfl) T.M_w_step T.F_w_step.kp T.B_w_step .nil pass0 (pa_cons (pv 1) (pa_cons (pv 3) pa_nil))))
      (pss_one (ps_if (pt_cmpR op_isN (pv 1) pe_non (nomark _)) (pss_one (ps_ret (pv 2))) pss_nil))))
      (pss_cons (ps_if (pt_cmpR (o_eqD hr) (pv 1) (pe_tup (pa_cons pe_str (pa_cons pe_int pa_nil))) (nomark _)) (pss_one (ps_ret pe_non)) pss_nil)
      (pss_one (ps_ret (pe_callB c_len (by rfl) T.n_len (by decide +kernel) (pa_cons (pv 0) pa_nil))))))),(ab_seq (ab_asg (ab_tup (ab_cons ab_str (ab_cons ab_int ab_nil))) ab_name)
      (ab_seq (ab_for (ab_jargs ab_yenumS (ab_cons ab_var ab_nil)) (ab_gtup (ab_gcons ab_name (ab_gcons ab_name ab_gnil)))
      (ab_seq (ab_asg (ab_call (ab_cons ab_var (ab_cons ab_var ab_nil))) ab_name)
      (ab_ifs (ab_test (ab_op ab_isN ab_var ab_non)) (ab_ret ab_var) ab_next)))
      (ab_seq (ab_ifs (ab_test (ab_op ab_eq ab_var (ab_tup (ab_cons ab_str (ab_cons ab_int ab_nil))))) (ab_ret ab_non) ab_next)
      (ab_ret (ab_cb ab_len (ab_cons ab_var ab_nil))))))⟩
  rintro us A Q ⟨l,ts,rfl,hl,hn,htl,q⟩
  refine ⟨rfl,?_⟩
  walk_at "qs"
  walk_at "qd"
  refine ⟨tup2,⟨_,hl⟩,for_enumA (ts.map U.str) (fun k ρ A2=>∃ (s:Want) (D:Nat) (r2 r3:Option U),ρ=[some (.ref l),some (stU3 s D),r2,r3]/\A2=A/\run3 s D (ts.drop k) k=run3 .fac 0 ts 0)
    ⟨.fac,0,_,_,rfl,rfl,rfl⟩ (fun k ρ A2 _ h=>?_) (fun k u ρ A2 hu h=>?_) (fun ρ A2 h=>?_)⟩
  . obtain ⟨s,D,r2,r3,_,rfl,_⟩:=h
    exact hl
  . obtain ⟨s,D,r2,r3,rfl,rfl,hrun⟩:=h
    obtain ⟨t,ht,rfl⟩:=map_get hu
    walk_at "qd"
    refine ⟨rfl,s,D,t,rfl,htl t (List.mem_of_getElem? ht),?_⟩
    cases hs:step3 s D t with
    | none =>
      rw [<- hrun,run_bad ht hs] at q
      exact iteTt rfl (fg q)
    | some p =>
      obtain ⟨s',D'⟩:=p
      rw [run_go ht hs] at hrun
      exact iteFf rfl ⟨s',D',_,_,rfl,rfl,hrun⟩
  . obtain ⟨s,D,r2,r3,rfl,rfl,hrun⟩:=h
    rw [List.length_map,List.drop_length,run3] at hrun
    walk_at "qd"
    refine ⟨tup2,.tuple [.str (wn s),.int (D:Nat)],.tuple [.str "more",.int 0],.tup (.cons (.str _) (.cons (.int _) .nil)),.tup (.cons (.str _) (.cons (.int _) .nil)),?_,by decide +kernel,?_,?_⟩
    . cases s <;> simp [PyData.canLay0,PyData.canLayAll0,wn] <;> decide +kernel
    . simp only [PyData.depth,PyData.depthAll];lia
    . simp only [Bool.false_eq_true,if_false]
      rw [end3]
      refine ⟨_,rfl,iteB (fun h=>?_) fun h=>?_⟩
      . have h:s=.more/\D=0:=of_decide_eq_true h
        rw [<- hrun,if_pos h] at q
        exact fg q
      . have h:¬ (s=.more/\D=0):=of_decide_eq_false h
        rw [<- hrun,if_neg h] at q
        refine ⟨_,hl,?_⟩
        rw [List.length_map]
        exact fg q
theorem ok_refused:FnOk P w K mg base CX0 195 f_w_refused d_w_refused ["_law_text_here"] (spOf K asp_refused):=by
  have G_read_rule:=ok_rr (P:=P) (w:=w) (base:=base) (d:=45) T
  refine' Fun.okA T.F_w_refused (sc:=?sc38) (body:=?bd38) ?hs38 ?hb38 sc_w_refused ?hB38 ?hS38
  case hs38=>conv=>lhs;whnf
  case hb38=>conv=>lhs;whnf
  case hB38=>exact fun S cdv A outer s H E hr=>⟨_,(pss_cons (ps_set (i:=1) S.nd rfl (Or.inl rfl) pe_non)
      (pss_cons (ps_set (i:=2) S.nd rfl (Or.inl rfl) pe_non)
      (pss_cons (ps_tryA (i:=2) (j:=3) ⟨rfl,rfl⟩ S.nd rfl (Or.inl rfl) rfl rfl (pex_call (G_read_rule.mono (by first | decide | lia)) hr (by rfl) T.M_read_rule T.F_read_rule.kp T.B_read_rule (pa_cons (pv 0) pa_nil)) (by rfl) T.m_FigureError (fun _=>(pss_one (ps_set (i:=1) S.nd rfl (Or.inl rfl) (pv 3)))))
      (pss_cons (ps_if (pt_cmpR op_isN (pv 1) pe_non (nomark _)) (pss_one (ps_ret (pe_ix o_ix (pe_lst (pa_cons pe_non (pa_cons (pe_un un_neg pe_int) pa_nil))) (pe_callTy c_int (by rfl) T.n_int (by decide +kernel) (pa_cons (pe_not (pe_callB c_isC (by rfl) T.n_isinstance (by decide +kernel) (pa_cons (pv 2) (pa_cons (pe_glob (v:=.ref _) (by rfl) T.m_Rule rfl) pa_nil)))) pa_nil)) (fun _ _=>rfl)))) pss_nil)
      (pss_cons (ps_set (i:=4) S.nd rfl (Or.inl rfl) (pe_or (pe_callB c_isX (by rfl) T.n_isinstance (by decide +kernel) (pa_cons (pv 1) (pa_cons (pe_glob (v:=.ref _) (by rfl) T.m_NoClass rfl) pa_nil))) (pe_or (pe_callB c_isX (by rfl) T.n_isinstance (by decide +kernel) (pa_cons (pv 1) (pa_cons (pe_glob (v:=.ref _) (by rfl) T.m_NoLine rfl) pa_nil))) (pe_one (pe_callB c_isX (by rfl) T.n_isinstance (by decide +kernel) (pa_cons (pv 1) (pa_cons (pe_glob (v:=.ref _) (by rfl) T.m_NoStep rfl) pa_nil)))))))
      (pss_cons (ps_if ((pw_or (pt_not (pt_val (pe_callB c_isX (by rfl) T.n_isinstance (by decide +kernel) (pa_cons (pv 1) (pa_cons (pe_glob (v:=.ref _) (by rfl) T.m_NoText rfl) pa_nil))))) (pw_or (pt_not (pt_val (pe_callB c_isX (by rfl) T.n_isinstance (by decide +kernel) (pa_cons (pv 1) (pa_cons (pe_ty (T:="ValueError") (by rfl) T.n_ValueError (by decide +kernel)) pa_nil))))) (pw_or (pt_val (pv 4)) (pw_or1 (pt_val (pe_callB c_isX (by rfl) T.n_isinstance (by decide +kernel) (pa_cons (pv 1) (pa_cons (pe_glob (v:=.ref _) (by rfl) T.m_Twice rfl) pa_nil))))))))).pt (pss_one (ps_ret (pe_un un_neg pe_int))) pss_nil)
      (pss_cons (ps_if ((pw_or (pt_not (pt_val (pe_callB c_isW (by rfl) T.n_isinstance (by decide +kernel) (pa_cons (pe_xfld (pv 1) rfl) (pa_cons (pe_ty (T:="int") (by rfl) T.n_int (by decide +kernel)) pa_nil))))) (pw_or1 (pt_val (pe_callB c_isW (by rfl) T.n_isinstance (by decide +kernel) (pa_cons (pe_xfld (pv 1) rfl) (pa_cons (pe_ty (T:="bool") (by rfl) T.n_bool (by decide +kernel)) pa_nil))))))).pt (pss_one (ps_ret (pe_un un_neg pe_int))) pss_nil)
      (pss_one (ps_ret (pe_xfld (pv 1) rfl)))))))))),(ab_seq (ab_asg ab_non ab_name)
      (ab_seq (ab_asg ab_non ab_name)
      (ab_seq (ab_tryA (abx_call (ab_cons ab_var ab_nil)) (ab_asg ab_var ab_name))
      (ab_seq (ab_ifH (ab_test (ab_op ab_isN ab_var ab_non)) (ab_ret (ab_op ab_ix (ab_lst (ab_cons ab_non (ab_cons (ab_un ab_neg ab_int) ab_nil))) (ab_cb ab_xint (ab_cons (ab_notv (ab_cb ab_isC (ab_cons ab_var (ab_cons ab_ref ab_nil)))) ab_nil)))) ab_next)
      (ab_seq (ab_asg (ab_orv (ab_cb ab_isX (ab_cons ab_var (ab_cons ab_ref ab_nil))) (ab_orv (ab_cb ab_isX (ab_cons ab_var (ab_cons ab_ref ab_nil))) (ab_cb ab_isX (ab_cons ab_var (ab_cons ab_ref ab_nil))))) ab_name)
      (ab_seq (ab_ifH (ab_or (ab_not (ab_tb (ab_cb ab_isX (ab_cons ab_var (ab_cons ab_ref ab_nil))))) (ab_or (ab_not (ab_tb (ab_cb ab_isX (ab_cons ab_var (ab_cons ab_ty ab_nil))))) (ab_or (ab_tb ab_var) (ab_tb (ab_cb ab_isX (ab_cons ab_var (ab_cons ab_ref ab_nil))))))) (ab_ret (ab_un ab_neg ab_int)) ab_next)
      (ab_seq (ab_ifH (ab_or (ab_not (ab_tb (ab_cb ab_isi (ab_cons (ab_xfld ab_var) (ab_cons ab_ty ab_nil))))) (ab_tb (ab_cb ab_isi (ab_cons (ab_xfld ab_var) (ab_cons ab_ty ab_nil))))) (ab_ret (ab_un ab_neg ab_int)) ab_next)
      (ab_ret (ab_xfld ab_var)))))))))⟩
  rintro us A Q ⟨z,ts,rfl,hz,hs,hn,htl,hp,q⟩
  refine ⟨rfl,?_⟩
  walk_at "qs"
  walk_at "qd"
  refine ⟨z,ts,rfl,hz,hs,hn,htl,hp,fun B b eB hb hr=>?_,fun B n eB hr=>⟨T.Y_NoText_FigureError,fun a dx ha hd hne=>?_⟩⟩
  . rw [hr] at q
    obtain ⟨i,dxb,fsb,hi,hbb⟩:=hb
    refine if_yes (fun B' hB=>?_) ?_
    . walk_at "qd"
      exact hB
    . walk_at "qd"
      refine ⟨tup2,fun p hp'=>?_⟩
      refine ⟨b,_,dxb,fsb,_,_,rfl,Ext.new hp' _ _ hbb,T.IT.isR (clss T) hi,?_⟩
      simp only [Bool.not_true,q_xintb,Bool.false_eq_true,if_false]
      exact ⟨_,_,updA_same,rfl,fgx (eB.trans (Ext.new hp')) q⟩
  . rw [hr] at q
    have e0:Ext B (updA (updA B dx (oXd [("at",.int (n:Nat))])) a (oX a_NoText dx)):=(Ext.new hd).in ha
    have e1:(updA (updA B dx (oXd [("at",.int (n:Nat))])) a (oX a_NoText dx)) a=some (oX a_NoText dx):=updA_same
    have e2:(updA (updA B dx (oXd [("at",.int (n:Nat))])) a (oX a_NoText dx)) dx=some (oXd [("at",.int (n:Nat))]):=by rw [updA_ne hne.symm];exact updA_same
    generalize updA (updA B dx (oXd [("at",.int (n:Nat))])) a (oX a_NoText dx)=A1 at e0 e1 e2 ⊢
    refine if_no (fun B hB=>?_) ?_
    . walk_at "qd"
      exact hB
    walk_at "qd"
    refine ⟨a,a_NoText,dx,_,_,false,rfl,e1,e2,T.X_NoText,.inl ⟨_,rfl,T.XI_2⟩,_,rfl,iteFf rfl ?_⟩
    refine ⟨a,a_NoText,dx,_,_,false,rfl,e1,e2,T.X_NoText,.inl ⟨_,rfl,T.XI_3⟩,_,rfl,iteFf rfl ?_⟩
    refine ⟨a,a_NoText,dx,_,_,false,rfl,e1,e2,T.X_NoText,.inl ⟨_,rfl,T.XI_4⟩,?_⟩
    refine if_no (fun B hB=>?_) ?_
    . walk_at "qd"
      refine ⟨a,a_NoText,dx,_,_,true,rfl,e1,e2,T.X_NoText,.inl ⟨_,rfl,T.XI_0⟩,_,rfl,iteFf rfl ?_⟩
      refine ⟨a,a_NoText,dx,_,_,true,rfl,e1,e2,T.X_NoText,.inr (.inl ⟨_,rfl,T.XI_1⟩),_,rfl,iteFf rfl ?_⟩
      exact iteFf rfl ⟨a,a_NoText,dx,_,_,false,rfl,e1,e2,T.X_NoText,.inl ⟨_,rfl,T.XI_5⟩,_,rfl,hB⟩
    simp only [↓q_next,↓q_seq]
    refine if_no (fun B hB=>?_) ?_
    . walk_at "qd"
      refine ⟨a,a_NoText,dx,_,_,rfl,e1,e2,T.X_NoText,T.N_NoText_at,rfl,?_⟩
      walk_at "qd"
      exact ⟨.inl trivial,trivial,iteFf rfl ⟨a,a_NoText,dx,_,_,rfl,e1,e2,T.X_NoText,T.N_NoText_at,rfl,.inr (.inl trivial),trivial,hB⟩⟩
    walk_at "qd"
    exact ⟨a,a_NoText,dx,_,_,rfl,e1,e2,T.X_NoText,T.N_NoText_at,rfl,fgx (eB.trans e0) q⟩
end
noncomputable def asp_cellL:ASp:=fun us A Q=>∃ (l:Addr) (ns:List Int) (k:Int),us=[.ref l,.int k]/\A l=some (.lst (ns.map U.int))/\0<=k/\∀ z,Q (.int z) A
theorem parts_le (z:Str):(Builtin.Str.partsBetween z (Builtin.Str.occurrences z (Str.ofString " ") 0 z.length (z.length + 1)) (Str.ofString " ").length).length<=z.length + 2:=by
  rw [length_partsBetween]
  have:=StrLaws.occ_length_le z (Str.ofString " ") 0 z.length (z.length + 1)
  lia
theorem pz_tk {ts:List Str} (h:∀ t∈ts,tokOk t):pz ts=ts.count ("(":Str):=by
  induction ts with
  | nil=>rfl
  | cons t ts ih =>
    have ht:t≠"( ":=fun e=>by
      have:=(h t (.head _)).1
      rw [e] at this
      exact this (by decide +kernel)
    rw [show t::ts=[t]++ts from rfl,pz_app,List.count_append,ih fun s hs=>h s (.tail _ hs),<- ex3_cnt]
    unfold ex3
    rw [if_neg ht]
theorem pz_rep {x:Str} {m:Nat}:pz (List.replicate m x)<=m:=by
  have:pz (List.replicate m x)<=(List.replicate m x).length:=List.countP_le_length
  rwa [List.length_replicate] at this
theorem pz_rep0 {m:Nat}:pz (List.replicate m (")":Str))=0:=by
  unfold pz
  rw [List.countP_replicate,if_neg (by decide +kernel)]
section
include T
theorem ok_cellL:FnOk P w K mg base CX0 1 f_w_cell d_w_cell ["_law_script","_law_k"] (spOf K asp_cellL):=by
  refine' Fun.okA T.F_w_cell (sc:=?sc24) (body:=?bd24) ?hs24 ?hb24 sc_w_cell ?hB24 ?hS24
  case hs24=>conv=>lhs;whnf
  case hb24=>conv=>lhs;whnf
  case hB24=>exact fun S cdv A outer s H E hr=>⟨_,(pss_cons (ps_if (pt_cmpR o_lt (pv 1) (pe_callB c_len (by rfl) T.n_len (by decide +kernel) (pa_cons (pv 0) pa_nil)) (nomark _)) (pss_one (ps_ret (pe_ix o_ix (pv 0) (pv 1) (fun _ _=>rfl)))) pss_nil)
      (pss_one (ps_ret pe_int))),(ab_seq (ab_ifs (ab_test (ab_op ab_lt ab_var (ab_cb ab_len (ab_cons ab_var ab_nil)))) (ab_ret (ab_op ab_ix ab_var ab_var)) ab_next)
      (ab_ret ab_int))⟩
  rintro us A Q ⟨l,ns,k,rfl,hl,hk,q⟩
  refine ⟨rfl,?_⟩
  walk_at "qs"
  walk_at "qd"
  refine ⟨_,hl,?_⟩
  rw [List.length_map]
  refine iteB (fun h=>?_) fun _=>fg (q 0)
  have h':k < ns.length:=by simpa using h
  obtain ⟨z,h1,_⟩:=atI_intsU hk h'
  exact ⟨_,_,hl,h1,fg (q z)⟩
theorem ok_law:FnOk P w K mg base CX0 210 f_law d_law ["_law_script"] (spOf K aspLaw):=by
  have G_w_mixed:=ok_mixed (P:=P) (w:=w) (base:=base) T
  have G_w_cell:=ok_cellL (P:=P) (w:=w) (base:=base) T
  have G_w_tree:=ok_tree (P:=P) (w:=w) (base:=base) T
  have G_w_text:=ok_ltx (P:=P) (w:=w) (base:=base) T 30
  have G_w_changed:=ok_changed (P:=P) (w:=w) (base:=base) T
  have G_w_refused:=ok_refused (P:=P) (w:=w) (base:=base) T
  have G_w_fault:=ok_fault (P:=P) (w:=w) (base:=base) T
  refine' Fun.okA T.F_law (sc:=?sc39) (body:=?bd39) ?hs39 ?hb39 sc_law ?hB39 ?hS39
  case hs39=>conv=>lhs;whnf
  case hb39=>conv=>lhs;whnf
  case hB39=>exact fun S cdv A outer s H E hr=>⟨_,(pss_cons (ps_set (i:=0) S.nd rfl (Or.inl rfl) (pe_call (G_w_mixed.mono (by first | decide | lia)) hr (by rfl) T.M_w_mixed T.F_w_mixed.kp T.B_w_mixed .nil pass0 (pa_cons (pv 0) (pa_cons pe_int pa_nil))))
      (pss_cons (ps_set (i:=1) S.nd rfl (Or.inl rfl) (pe_bm PySem.F.plainAttrs_str PySem.F.slot_str_split PySem.F.type_str_split mt_split (pe_call (G_w_text.mono (by first | decide | lia)) hr (by rfl) T.M_w_text T.F_w_text.kp T.B_w_text .nil pass0 (pa_cons (pe_call (G_w_tree.mono (by first | decide | lia)) hr (by rfl) T.M_w_tree T.F_w_tree.kp T.B_w_tree .nil pass0 (pa_cons (pe_slice o_slW (pv 0) (po_some pe_int) (po_some pe_int)) pa_nil)) pa_nil)) (pa_cons pe_str pa_nil)))
      (pss_cons (ps_set (i:=2) S.nd rfl (Or.inl rfl) (pe_op o_mod (pe_call (G_w_cell.mono (by first | decide | lia)) hr (by rfl) T.M_w_cell T.F_w_cell.kp T.B_w_cell .nil pass0 (pa_cons (pv 0) (pa_cons pe_int pa_nil))) pe_int))
      (pss_cons (ps_set (i:=3) S.nd rfl (Or.inl rfl) (pe_callB (c_maxA rfl) (by rfl) T.n_max (by decide +kernel) (pa_cons pe_int (pa_cons (pe_op o_sub (pe_op o_addW (pv 2) (pe_op o_mod (pe_op o_fdiv (pe_call (G_w_cell.mono (by first | decide | lia)) hr (by rfl) T.M_w_cell T.F_w_cell.kp T.B_w_cell .nil pass0 (pa_cons (pv 0) (pa_cons pe_int pa_nil))) pe_int) pe_int)) pe_int) pa_nil))))
      (pss_cons (ps_if (pt_cmpR (o_eqD hr) (pe_op o_mod (pe_call (G_w_cell.mono (by first | decide | lia)) hr (by rfl) T.M_w_cell T.F_w_cell.kp T.B_w_cell .nil pass0 (pa_cons (pv 0) (pa_cons pe_int pa_nil))) pe_int) pe_int (nomark _)) (pss_one (ps_set (i:=1) S.nd rfl (Or.inl rfl) (pe_op o_addW (pe_op o_addW (pe_op o_mulB (pe_lst (pa_cons pe_str pa_nil)) (pv 2)) (pv 1)) (pe_op o_mulB (pe_lst (pa_cons pe_str pa_nil)) (pv 3))))) pss_nil)
      (pss_cons (ps_for PassesOwn.never rfl (pj_range1 rfl T.n_range (pa_cons (pe_op o_mod (pe_op o_fdiv (pe_call (G_w_cell.mono (by first | decide | lia)) hr (by rfl) T.M_w_cell T.F_w_cell.kp T.B_w_cell .nil pass0 (pa_cons (pv 0) (pa_cons pe_int pa_nil))) pe_int) pe_int) pa_nil)) (pg_name (i:=4) S.nd rfl (Or.inl rfl))
      (pss_one (ps_set (i:=1) S.nd rfl (Or.inl rfl) (pe_call (G_w_changed.mono (by first | decide | lia)) hr (by rfl) T.M_w_changed T.F_w_changed.kp T.B_w_changed .nil pass0 (pa_cons (pv 1) (pa_cons (pe_op o_mod (pe_call (G_w_cell.mono (by first | decide | lia)) hr (by rfl) T.M_w_cell T.F_w_cell.kp T.B_w_cell .nil pass0 (pa_cons (pv 0) (pa_cons (pe_op o_addW pe_int (pv 4)) pa_nil))) (pe_op o_pow pe_int pe_int)) pa_nil))))))
      (pss_cons (ps_set (i:=5) S.nd rfl (Or.inl rfl) (pe_bm PySem.F.plainAttrs_str PySem.F.slot_str_join PySem.F.type_str_join mt_join pe_str (pa_cons (pv 1) pa_nil)))
      (pss_one (ps_ret (pe_cmpR (o_eqD hr) (pe_call (G_w_refused.mono (by first | decide | lia)) hr (by rfl) T.M_w_refused T.F_w_refused.kp T.B_w_refused .nil pass0 (pa_cons (pv 5) pa_nil)) (pe_call (G_w_fault.mono (by first | decide | lia)) hr (by rfl) T.M_w_fault T.F_w_fault.kp T.B_w_fault .nil pass0 (pa_cons (pe_bm PySem.F.plainAttrs_str PySem.F.slot_str_split PySem.F.type_str_split mt_split (pv 5) (pa_cons pe_str pa_nil)) pa_nil)) (nomark _))))))))))),(ab_seq (ab_asg (ab_call (ab_cons ab_var (ab_cons ab_int ab_nil))) ab_name)
      (ab_seq (ab_asg (ab_bm ab_isStr ab_msplit (ab_call (ab_cons (ab_call (ab_cons (ab_sl ab_xsl ab_var (ab_part ab_int) (ab_part ab_int)) ab_nil)) ab_nil)) (ab_cons ab_str ab_nil)) ab_name)
      (ab_seq (ab_asg (ab_op ab_mod (ab_call (ab_cons ab_var (ab_cons ab_int ab_nil))) ab_int) ab_name)
      (ab_seq (ab_asg (ab_cb ab_max (ab_cons ab_int (ab_cons (ab_op ab_sub (ab_op ab_add ab_var (ab_op ab_mod (ab_op ab_div (ab_call (ab_cons ab_var (ab_cons ab_int ab_nil))) ab_int) ab_int)) ab_int) ab_nil))) ab_name)
      (ab_seq (ab_ifs (ab_test (ab_op ab_eq (ab_op ab_mod (ab_call (ab_cons ab_var (ab_cons ab_int ab_nil))) ab_int) ab_int)) (ab_asg (ab_op ab_add (ab_op ab_add (ab_op ab_mul (ab_lst (ab_cons ab_str ab_nil)) ab_var) ab_var) (ab_op ab_mul (ab_lst (ab_cons ab_str ab_nil)) ab_var)) ab_name) ab_next)
      (ab_seq (ab_for (ab_jrng1 (ab_cons (ab_op ab_mod (ab_op ab_div (ab_call (ab_cons ab_var (ab_cons ab_int ab_nil))) ab_int) ab_int) ab_nil)) ab_name
      (ab_asg (ab_call (ab_cons ab_var (ab_cons (ab_op ab_mod (ab_call (ab_cons ab_var (ab_cons (ab_op ab_add ab_int ab_var) ab_nil))) (ab_op ab_pow ab_int ab_int)) ab_nil))) ab_name))
      (ab_seq (ab_asg (ab_bm ab_isStr ab_mjoin ab_str (ab_cons ab_var ab_nil)) ab_name)
      (ab_ret (ab_op ab_eq (ab_call (ab_cons ab_var ab_nil)) (ab_call (ab_cons (ab_bm ab_isStr ab_msplit ab_var (ab_cons ab_str ab_nil)) ab_nil)))))))))))⟩
  rintro us A Q ⟨ns,rfl,hl,q⟩
  refine ⟨rfl,?_⟩
  walk_at "qs"
  walk_at "qd"
  refine ⟨ns,19,rfl,hl,by decide,by decide,fun l0 ms hl0 hml h19=>?_⟩
  have a0:(updA A l0 (.lst (ms.map U.int))) l0=some (.lst (ms.map U.int)):=updA_same
  generalize updA A l0 (.lst (ms.map U.int))=A0 at a0 ⊢
  walk_at "qd"
  refine ⟨_,a0,fun l1 hl1=>?_⟩
  obtain ⟨zs,ez,hz1,hz2⟩:∃ zs:List Int,cutU (ms.map U.int) (some 5) (some 19)=zs.map U.int/\zs.length<=14/\1<=zs.length:=by
    rw [cutU_map]
    refine ⟨_,rfl,?_⟩
    unfold cutL
    rw [List.length_take,List.length_drop,show HT.sIx ms.length ms.length (some 19)=min 19 ms.length from HT.sIx_nat ms.length ms.length 19,show HT.sIx ms.length 0 (some 5)=min 5 ms.length from HT.sIx_nat ms.length 0 5]
    lia
  rw [ez]
  have a1:=Ext.new (o:=.lst (zs.map U.int)) hl1 _ _ a0
  have c1:(updA A0 l1 (.lst (zs.map U.int))) l1=some (.lst (zs.map U.int)):=updA_same
  generalize updA A0 l1 (.lst (zs.map U.int))=A1 at a1 c1 ⊢
  refine ⟨l1,zs,rfl,c1,by lia,by lia,fun r hw hd hs=>?_⟩
  refine ⟨r,rfl,hd,hw,by lia,?_⟩
  have htl:=r.txt_len hw
  have hkl:=r.tk_len
  have hwk:=r.wd_tk 0 (Nat.zero_le _)
  have hpf:=r.par_few hw
  walk_at "qd"
  have hts:Txt.split r.txt (Str.ofString " ")=r.tk:=hwk.split hw
  have hp2:=parts_le r.txt
  refine ⟨trivial,by decide +kernel,line1000 (by lia),line1000 (by lia),by rw [hts];exact line1000 (by lia),fun p hp=>?_⟩
  rw [hts]
  have hz0:pz r.tk<=29:=by rw [pz_tk fun t h=>hwk.toks hw t h];split at hpf <;> lia
  have o9:∀ t∈r.tk,T3 t:=fun t h=>.inl ⟨by have:=(hwk.toks hw t h).2;lia,(hwk.toks hw t h).1⟩
  have hk:r.tk.length<=238:=by lia
  generalize r.tk=ts at hk o9 hz0 ⊢
  have e2:=Ext.new (o:=.lst (ts.map U.str)) hp
  have a2:=e2 _ _ a1
  have b2:(updA A1 p (.lst (ts.map U.str))) p=some (.lst (ts.map U.str)):=updA_same
  generalize updA A1 p (.lst (ts.map U.str))=A2 at e2 a2 b2 ⊢
  walk_at "qd"
  refine ⟨l0,ms,1,rfl,a2,by decide,fun y1=>?_⟩
  walk_at "qd"
  refine ⟨by decide,l0,ms,1,rfl,a2,by decide,fun y2=>?_⟩
  walk_at "qd"
  have d0:0<=y1 % 13:=Int.emod_nonneg _ (by decide)
  have d1:y1 % 13 < 13:=Int.emod_lt_of_pos _ (by decide)
  have f0:0<=y2 / 13 % 5:=Int.emod_nonneg _ (by decide)
  have f1:y2 / 13 % 5 < 5:=Int.emod_lt_of_pos _ (by decide)
  refine ⟨⟨by decide,by decide⟩,by decide,?_⟩
  have g0:0<=max 0 (y1 % 13 + y2 / 13 % 5 - 2)/\max 0 (y1 % 13 + y2 / 13 % 5 - 2)<=14:=by lia
  generalize max 0 (y1 % 13 + y2 / 13 % 5 - 2)=closed at g0 ⊢
  generalize y1 % 13=deep at d0 d1 ⊢
  refine ⟨l0,ms,0,rfl,a2,by decide,fun z=>?_⟩
  walk_at "qd"
  refine ⟨by decide,iteB (fun _=>?_) fun _=>?_⟩
  . obtain ⟨m,hm⟩:=Int.eq_ofNat_of_zero_le d0
    obtain ⟨c,hc⟩:=Int.eq_ofNat_of_zero_le g0.1
    subst hm hc
    refine ⟨tup1,fun p3 hp3=>?_⟩
    have e3:=Ext.new (o:=.lst [U.str "("]) hp3
    have a3:=e3 _ _ a2
    have b3:=e3 _ _ b2
    have c3:(updA A2 p3 (.lst [U.str "("])) p3=some (.lst [U.str "("]):=updA_same
    generalize updA A2 p3 (.lst [U.str "("])=A3 at e3 a3 b3 c3 ⊢
    refine ⟨_,c3,by lia,by lia,line1000 (by rw [Int.toNat_natCast];simp only [List.length_singleton];lia),fun p4 hp4=>?_⟩
    rw [show (List.replicate (m:Int).toNat [U.str "("]).flatten=(List.replicate m ("(":Str)).map U.str from by rw [Int.toNat_natCast];simp [List.map_replicate]]
    have e4:=Ext.new (o:=.lst ((List.replicate m ("(":Str)).map U.str)) hp4
    have a4:=e4 _ _ a3
    have b4:=e4 _ _ b3
    have c4:(updA A3 p4 (.lst ((List.replicate m ("(":Str)).map U.str))) p4=some (.lst ((List.replicate m ("(":Str)).map U.str)):=updA_same
    generalize updA A3 p4 (.lst ((List.replicate m ("(":Str)).map U.str))=A4 at e4 a4 b4 c4 ⊢
    refine ⟨_,_,c4,b4,line1000 (by rw [List.length_map,List.length_map,List.length_replicate];lia),fun p5 hp5=>?_⟩
    rw [<- List.map_append]
    have e5:=Ext.new (o:=.lst ((List.replicate m ("(":Str)++ts).map U.str)) hp5
    have a5:=e5 _ _ a4
    have c5:(updA A4 p5 (.lst ((List.replicate m ("(":Str)++ts).map U.str))) p5=some (.lst ((List.replicate m ("(":Str)++ts).map U.str)):=updA_same
    generalize updA A4 p5 (.lst ((List.replicate m ("(":Str)++ts).map U.str))=A5 at e5 a5 c5 ⊢
    refine ⟨tup1,fun p6 hp6=>?_⟩
    have e6':=Ext.new (o:=.lst [U.str ")"]) hp6
    have a6':=e6' _ _ a5
    have b6':=e6' _ _ c5
    have c6':(updA A5 p6 (.lst [U.str ")"])) p6=some (.lst [U.str ")"]):=updA_same
    generalize updA A5 p6 (.lst [U.str ")"])=A6 at e6' a6' b6' c6' ⊢
    refine ⟨_,c6',by lia,by lia,line1000 (by rw [Int.toNat_natCast];simp only [List.length_singleton];lia),fun p7 hp7=>?_⟩
    rw [show (List.replicate (c:Int).toNat [U.str ")"]).flatten=(List.replicate c (")":Str)).map U.str from by rw [Int.toNat_natCast];simp [List.map_replicate]]
    have e7:=Ext.new (o:=.lst ((List.replicate c (")":Str)).map U.str)) hp7
    have a7:=e7 _ _ a6'
    have b7:=e7 _ _ b6'
    have c7:(updA A6 p7 (.lst ((List.replicate c (")":Str)).map U.str))) p7=some (.lst ((List.replicate c (")":Str)).map U.str)):=updA_same
    generalize updA A6 p7 (.lst ((List.replicate c (")":Str)).map U.str))=A7 at e7 a7 b7 c7 ⊢
    refine ⟨_,_,b7,c7,line1000 (by rw [List.length_map,List.length_map,List.length_append,List.length_replicate,List.length_replicate];lia),fun p8 hp8=>?_⟩
    rw [<- List.map_append]
    have t3a:T3 "(":=by unfold T3;decide +kernel
    have t3b:T3 ")":=by unfold T3;decide +kernel
    have o9':∀ t∈List.replicate m ("(":Str)++ts++List.replicate c (")":Str),T3 t:=fun t h=>by
      rcases List.mem_append.mp h with h | h
      . rcases List.mem_append.mp h with h | h
        . rw [List.eq_of_mem_replicate h];exact t3a
        . exact o9 t h
      . rw [List.eq_of_mem_replicate h];exact t3b
    have hk':(List.replicate m ("(":Str)++ts++List.replicate c (")":Str)).length<=270:=by rw [List.length_append,List.length_append,List.length_replicate,List.length_replicate];lia
    have hz':pz (List.replicate m ("(":Str)++ts++List.replicate c (")":Str))<=41:=by
      rw [pz_app,pz_app,pz_rep0]
      have:=pz_rep (x:=("(":Str)) (m:=m)
      lia
    generalize List.replicate m ("(":Str)++ts++List.replicate c (")":Str)=ts at hk' o9' hz' ⊢
    have e8:=Ext.new (o:=.lst (ts.map U.str)) hp8
    have a6:=e8 _ _ a7
    have b6:(updA A7 p8 (.lst (ts.map U.str))) p8=some (.lst (ts.map U.str)):=updA_same
    generalize updA A7 p8 (.lst (ts.map U.str))=A8 at e8 a6 b6 ⊢
    refine ⟨l0,ms,0,rfl,a6,by decide,fun z3=>?_⟩
    walk_at "qd"
    have hn0:0<=z3 / 3 % 4:=Int.emod_nonneg _ (by decide)
    have hn1:z3 / 3 % 4 < 4:=Int.emod_lt_of_pos _ (by decide)
    refine ⟨⟨by decide,by decide⟩,by decide,by lia,by lia,?_⟩
    have hn2:(z3 / 3 % 4).toNat<=3:=by lia
    generalize (z3 / 3 % 4).toNat=n at hn2 ⊢
    refine for_rng (fun k ρ A7=>∃ (l:Addr) (ts2:List Str) (dp cd:Int) (r2:Option U),ρ=[some (.ref l0),some (.ref l),some (.int dp),some (.int cd),r2,none]/\A7 l0=some (.lst (ms.map U.int))/\A7 l=some (.lst (ts2.map U.str))/\ts2.length<=270 + k/\pz ts2<=41 + k/\∀ t∈ts2,T3 t) ⟨_,ts,_,_,_,rfl,a6,b6,hk',hz',o9'⟩ ?_ ?_
    . rintro k ρ A7 hk7 ⟨l,ts2,dp,cd,r2,rfl,a7,b7,h7,g7,o7⟩
      walk_at "qd"
      refine ⟨l0,ms,_,rfl,a7,by lia,fun z4=>?_⟩
      walk_at "qd"
      refine ⟨⟨by decide,by decide,by decide⟩,by decide,l,ts2,_,rfl,b7,by lia,o7,fun l8 ts8 A8 e8 b8 h8 g8 o8=>⟨l8,ts8,_,_,_,rfl,e8 _ _ a7,b8,by lia,by lia,o8⟩⟩
    . rintro ρ A7 ⟨l,ts2,dp,cd,r2,rfl,a7,b7,h7,g7,o7⟩
      obtain ⟨j1,j2,ts3,j3,j4,j5,j6⟩:=sp_ok3 (ts:=ts2) (by lia) o7
      walk_at "qd"
      refine ⟨trivial,ts2,b7,j1,?_⟩
      rw [show Txt.join (Str.ofString " ") ts2=Txt.join blk ts2 from rfl]
      generalize Txt.join blk ts2=zt at j2 j3 ⊢
      have hp9:=parts_le zt
      have j3:Txt.split zt (Str.ofString " ")=ts3:=j3
      refine ⟨_,ts3,rfl,by lia,j3,by lia,j5,by lia,trivial,by decide +kernel,line1000 (by lia),line1000 (by lia),by rw [j3];exact line1000 (by lia),fun p9 hp9=>?_⟩
      rw [j3]
      refine ⟨p9,ts3,rfl,updA_same,by lia,j5,?_⟩
      cases run3 .fac 0 ts3 0 with
      | none =>
        walk_at "qd"
        exact fg (q _)
      | some n =>
        show Fg Q (.bl (decide ((n:Int)=n))) _
        rw [decide_eq_true rfl]
        exact fg (q _)
  . have hk':ts.length<=270:=by lia
    have hz':pz ts<=41:=by lia
    have o9':=o9
    have a6:=a2
    have b6:=b2
    refine ⟨l0,ms,0,rfl,a6,by decide,fun z3=>?_⟩
    walk_at "qd"
    have hn0:0<=z3 / 3 % 4:=Int.emod_nonneg _ (by decide)
    have hn1:z3 / 3 % 4 < 4:=Int.emod_lt_of_pos _ (by decide)
    refine ⟨⟨by decide,by decide⟩,by decide,by lia,by lia,?_⟩
    have hn2:(z3 / 3 % 4).toNat<=3:=by lia
    generalize (z3 / 3 % 4).toNat=n at hn2 ⊢
    refine for_rng (fun k ρ A7=>∃ (l:Addr) (ts2:List Str) (dp cd:Int) (r2:Option U),ρ=[some (.ref l0),some (.ref l),some (.int dp),some (.int cd),r2,none]/\A7 l0=some (.lst (ms.map U.int))/\A7 l=some (.lst (ts2.map U.str))/\ts2.length<=270 + k/\pz ts2<=41 + k/\∀ t∈ts2,T3 t) ⟨_,ts,_,_,_,rfl,a6,b6,hk',hz',o9'⟩ ?_ ?_
    . rintro k ρ A7 hk7 ⟨l,ts2,dp,cd,r2,rfl,a7,b7,h7,g7,o7⟩
      walk_at "qd"
      refine ⟨l0,ms,_,rfl,a7,by lia,fun z4=>?_⟩
      walk_at "qd"
      refine ⟨⟨by decide,by decide,by decide⟩,by decide,l,ts2,_,rfl,b7,by lia,o7,fun l8 ts8 A8 e8 b8 h8 g8 o8=>⟨l8,ts8,_,_,_,rfl,e8 _ _ a7,b8,by lia,by lia,o8⟩⟩
    . rintro ρ A7 ⟨l,ts2,dp,cd,r2,rfl,a7,b7,h7,g7,o7⟩
      obtain ⟨j1,j2,ts3,j3,j4,j5,j6⟩:=sp_ok3 (ts:=ts2) (by lia) o7
      walk_at "qd"
      refine ⟨trivial,ts2,b7,j1,?_⟩
      rw [show Txt.join (Str.ofString " ") ts2=Txt.join blk ts2 from rfl]
      generalize Txt.join blk ts2=zt at j2 j3 ⊢
      have hp9:=parts_le zt
      have j3:Txt.split zt (Str.ofString " ")=ts3:=j3
      refine ⟨_,ts3,rfl,by lia,j3,by lia,j5,by lia,trivial,by decide +kernel,line1000 (by lia),line1000 (by lia),by rw [j3];exact line1000 (by lia),fun p9 hp9=>?_⟩
      rw [j3]
      refine ⟨p9,ts3,rfl,updA_same,by lia,j5,?_⟩
      cases run3 .fac 0 ts3 0 with
      | none =>
        walk_at "qd"
        exact fg (q _)
      | some n =>
        show Fg Q (.bl (decide ((n:Int)=n))) _
        rw [decide_eq_true rfl]
        exact fg (q _)
end
theorem all_mk {l:PySem.W.OpenLaw} {w:World} {K:PySem.W.Frag} {h:Heap} {mg:Str->Option Value} {fa:Addr} {a_Rule a_Nothing a_Bead a_Or a_By a_Row a_Bag a_Choice a_Ring a_Named a_Words a_NoText a_FigureError a_NoClass a_NoLine a_NoStep a_Twice:Addr} {f_NoText___init__ f_Bead___init__ f_Or___init__ f_By___init__ f_Row___init__ f_Bag___init__ f_Choice___init__ f_Ring___init__ f_Named___init__ f_is_word f_Words___init__ f_Words_ahead f_Words_passed f_Words_need f_Words_free_word f_Words_finish f_read_rule f_next_rule f_next_term f_next_factor f_next_plain_factor f_held f_w_cell f_w_kept f_w_word f_w_is_word f_w_total f_w_op f_w_tree f_w_binds f_w_shut f_w_text f_w_new_word f_w_changed f_w_step f_w_fault f_w_refused f_w_mixed f_law:Addr} {od_NoText___init__ an_NoText___init__ od_Bead___init__ an_Bead___init__ od_Or___init__ an_Or___init__ od_By___init__ an_By___init__ od_Row___init__ an_Row___init__ od_Bag___init__ an_Bag___init__ od_Choice___init__ an_Choice___init__ od_Ring___init__ an_Ring___init__ od_Named___init__ an_Named___init__ od_is_word an_is_word od_Words___init__ an_Words___init__ od_Words_ahead an_Words_ahead od_Words_passed an_Words_passed od_Words_need an_Words_need od_Words_free_word an_Words_free_word od_Words_finish an_Words_finish od_read_rule an_read_rule od_next_rule an_next_rule od_next_term an_next_term od_next_factor an_next_factor od_next_plain_factor an_next_plain_factor od_held an_held od_w_cell an_w_cell od_w_kept an_w_kept od_w_word an_w_word od_w_is_word an_w_is_word od_w_total an_w_total od_w_op an_w_op od_w_tree an_w_tree od_w_binds an_w_binds od_w_shut an_w_shut od_w_text an_w_text od_w_new_word an_w_new_word od_w_changed an_w_changed od_w_step an_w_step od_w_fault an_w_fault od_w_refused an_w_refused od_w_mixed an_w_mixed od_law an_law:Option Addr} {sl_NoText___init__ sl_Bead___init__ sl_Or___init__ sl_By___init__ sl_Row___init__ sl_Bag___init__ sl_Choice___init__ sl_Ring___init__ sl_Named___init__ sl_is_word sl_Words___init__ sl_Words_ahead sl_Words_passed sl_Words_need sl_Words_free_word sl_Words_finish sl_read_rule sl_next_rule sl_next_term sl_next_factor sl_next_plain_factor sl_held sl_w_cell sl_w_kept sl_w_word sl_w_is_word sl_w_total sl_w_op sl_w_tree sl_w_binds sl_w_shut sl_w_text sl_w_new_word sl_w_changed sl_w_step sl_w_fault sl_w_refused sl_w_mixed sl_law:Array (Option Value)} {oc_NoText___init__ kV_NoText___init__ dc_NoText___init__ pm_NoText___init__ ct_NoText___init__ cd_NoText___init__ oc_Bead___init__ kV_Bead___init__ dc_Bead___init__ pm_Bead___init__ ct_Bead___init__ cd_Bead___init__ oc_Or___init__ kV_Or___init__ dc_Or___init__ pm_Or___init__ ct_Or___init__ cd_Or___init__ oc_By___init__ kV_By___init__ dc_By___init__ pm_By___init__ ct_By___init__ cd_By___init__ oc_Row___init__ kV_Row___init__ dc_Row___init__ pm_Row___init__ ct_Row___init__ cd_Row___init__ oc_Bag___init__ kV_Bag___init__ dc_Bag___init__ pm_Bag___init__ ct_Bag___init__ cd_Bag___init__ oc_Choice___init__ kV_Choice___init__ dc_Choice___init__ pm_Choice___init__ ct_Choice___init__ cd_Choice___init__ oc_Ring___init__ kV_Ring___init__ dc_Ring___init__ pm_Ring___init__ ct_Ring___init__ cd_Ring___init__ oc_Named___init__ kV_Named___init__ dc_Named___init__ pm_Named___init__ ct_Named___init__ cd_Named___init__ oc_is_word kV_is_word dc_is_word pm_is_word ct_is_word cd_is_word oc_Words___init__ kV_Words___init__ dc_Words___init__ pm_Words___init__ ct_Words___init__ cd_Words___init__ oc_Words_ahead kV_Words_ahead dc_Words_ahead pm_Words_ahead ct_Words_ahead cd_Words_ahead oc_Words_passed kV_Words_passed dc_Words_passed pm_Words_passed ct_Words_passed cd_Words_passed oc_Words_need kV_Words_need dc_Words_need pm_Words_need ct_Words_need cd_Words_need oc_Words_free_word kV_Words_free_word dc_Words_free_word pm_Words_free_word ct_Words_free_word cd_Words_free_word oc_Words_finish kV_Words_finish dc_Words_finish pm_Words_finish ct_Words_finish cd_Words_finish oc_read_rule kV_read_rule dc_read_rule pm_read_rule ct_read_rule cd_read_rule oc_next_rule kV_next_rule dc_next_rule pm_next_rule ct_next_rule cd_next_rule oc_next_term kV_next_term dc_next_term pm_next_term ct_next_term cd_next_term oc_next_factor kV_next_factor dc_next_factor pm_next_factor ct_next_factor cd_next_factor oc_next_plain_factor kV_next_plain_factor dc_next_plain_factor pm_next_plain_factor ct_next_plain_factor cd_next_plain_factor oc_held kV_held dc_held pm_held ct_held cd_held oc_w_cell kV_w_cell dc_w_cell pm_w_cell ct_w_cell cd_w_cell oc_w_kept kV_w_kept dc_w_kept pm_w_kept ct_w_kept cd_w_kept oc_w_word kV_w_word dc_w_word pm_w_word ct_w_word cd_w_word oc_w_is_word kV_w_is_word dc_w_is_word pm_w_is_word ct_w_is_word cd_w_is_word oc_w_total kV_w_total dc_w_total pm_w_total ct_w_total cd_w_total oc_w_op kV_w_op dc_w_op pm_w_op ct_w_op cd_w_op oc_w_tree kV_w_tree dc_w_tree pm_w_tree ct_w_tree cd_w_tree oc_w_binds kV_w_binds dc_w_binds pm_w_binds ct_w_binds cd_w_binds oc_w_shut kV_w_shut dc_w_shut pm_w_shut ct_w_shut cd_w_shut oc_w_text kV_w_text dc_w_text pm_w_text ct_w_text cd_w_text oc_w_new_word kV_w_new_word dc_w_new_word pm_w_new_word ct_w_new_word cd_w_new_word oc_w_changed kV_w_changed dc_w_changed pm_w_changed ct_w_changed cd_w_changed oc_w_step kV_w_step dc_w_step pm_w_step ct_w_step cd_w_step oc_w_fault kV_w_fault dc_w_fault pm_w_fault ct_w_fault cd_w_fault oc_w_refused kV_w_refused dc_w_refused pm_w_refused ct_w_refused cd_w_refused oc_w_mixed kV_w_mixed dc_w_mixed pm_w_mixed ct_w_mixed cd_w_mixed oc_law kV_law dc_law pm_law ct_law cd_law:Value} {a_HOLDERS:Addr} {oc_HOLDERS:Value} {od_HOLDERS:Option Addr} {is_HOLDERS:Array Value} {sn_HOLDERS:Nat} {sl_HOLDERS:Array (Option Value)} {a_KEPT:Addr} {oc_KEPT:Value} {od_KEPT:Option Addr} {is_KEPT:Array Value} {sn_KEPT:Nat} {sl_KEPT:Array (Option Value)} {tk_LETTERS tk_LONGEST:Tok} (X:K.In h) (G:h.Ns mainGlobals mg) (hfa:mg "law"=some (.ref fa))
 (l_NoText___init__:K.lookup f_NoText___init__=some ⟨oc_NoText___init__,od_NoText___init__,.func (PySem.W.fnOf "__init__" "NoText.__init__" (defArgs s_NoText___init__) (defBody s_NoText___init__) (defScope s_NoText___init__) .none kV_NoText___init__ dc_NoText___init__ pm_NoText___init__ an_NoText___init__ cd_NoText___init__ ct_NoText___init__),sl_NoText___init__⟩) (x_NoText___init__:PySem.W.codeIn K cd_NoText___init__ "NoText.__init__"=true) (k_NoText___init__:PySem.W.keepIn K (.ref f_NoText___init__)=true) (K_NoText:XCl K a_NoText f_NoText___init__)
 (l_Bead___init__:K.lookup f_Bead___init__=some ⟨oc_Bead___init__,od_Bead___init__,.func (PySem.W.fnOf "__init__" "Bead.__init__" (defArgs s_Bead___init__) (defBody s_Bead___init__) (defScope s_Bead___init__) .none kV_Bead___init__ dc_Bead___init__ pm_Bead___init__ an_Bead___init__ cd_Bead___init__ ct_Bead___init__),sl_Bead___init__⟩) (x_Bead___init__:PySem.W.codeIn K cd_Bead___init__ "Bead.__init__"=true) (k_Bead___init__:PySem.W.keepIn K (.ref f_Bead___init__)=true) (K_Bead:Mk K a_Bead f_Bead___init__)
 (l_Or___init__:K.lookup f_Or___init__=some ⟨oc_Or___init__,od_Or___init__,.func (PySem.W.fnOf "__init__" "Or.__init__" (defArgs s_Or___init__) (defBody s_Or___init__) (defScope s_Or___init__) .none kV_Or___init__ dc_Or___init__ pm_Or___init__ an_Or___init__ cd_Or___init__ ct_Or___init__),sl_Or___init__⟩) (x_Or___init__:PySem.W.codeIn K cd_Or___init__ "Or.__init__"=true) (k_Or___init__:PySem.W.keepIn K (.ref f_Or___init__)=true) (K_Or:Mk K a_Or f_Or___init__)
 (l_By___init__:K.lookup f_By___init__=some ⟨oc_By___init__,od_By___init__,.func (PySem.W.fnOf "__init__" "By.__init__" (defArgs s_By___init__) (defBody s_By___init__) (defScope s_By___init__) .none kV_By___init__ dc_By___init__ pm_By___init__ an_By___init__ cd_By___init__ ct_By___init__),sl_By___init__⟩) (x_By___init__:PySem.W.codeIn K cd_By___init__ "By.__init__"=true) (k_By___init__:PySem.W.keepIn K (.ref f_By___init__)=true) (K_By:Mk K a_By f_By___init__)
 (l_Row___init__:K.lookup f_Row___init__=some ⟨oc_Row___init__,od_Row___init__,.func (PySem.W.fnOf "__init__" "Row.__init__" (defArgs s_Row___init__) (defBody s_Row___init__) (defScope s_Row___init__) .none kV_Row___init__ dc_Row___init__ pm_Row___init__ an_Row___init__ cd_Row___init__ ct_Row___init__),sl_Row___init__⟩) (x_Row___init__:PySem.W.codeIn K cd_Row___init__ "Row.__init__"=true) (k_Row___init__:PySem.W.keepIn K (.ref f_Row___init__)=true) (K_Row:Mk K a_Row f_Row___init__)
 (l_Bag___init__:K.lookup f_Bag___init__=some ⟨oc_Bag___init__,od_Bag___init__,.func (PySem.W.fnOf "__init__" "Bag.__init__" (defArgs s_Bag___init__) (defBody s_Bag___init__) (defScope s_Bag___init__) .none kV_Bag___init__ dc_Bag___init__ pm_Bag___init__ an_Bag___init__ cd_Bag___init__ ct_Bag___init__),sl_Bag___init__⟩) (x_Bag___init__:PySem.W.codeIn K cd_Bag___init__ "Bag.__init__"=true) (k_Bag___init__:PySem.W.keepIn K (.ref f_Bag___init__)=true) (K_Bag:Mk K a_Bag f_Bag___init__)
 (l_Choice___init__:K.lookup f_Choice___init__=some ⟨oc_Choice___init__,od_Choice___init__,.func (PySem.W.fnOf "__init__" "Choice.__init__" (defArgs s_Choice___init__) (defBody s_Choice___init__) (defScope s_Choice___init__) .none kV_Choice___init__ dc_Choice___init__ pm_Choice___init__ an_Choice___init__ cd_Choice___init__ ct_Choice___init__),sl_Choice___init__⟩) (x_Choice___init__:PySem.W.codeIn K cd_Choice___init__ "Choice.__init__"=true) (k_Choice___init__:PySem.W.keepIn K (.ref f_Choice___init__)=true) (K_Choice:Mk K a_Choice f_Choice___init__)
 (l_Ring___init__:K.lookup f_Ring___init__=some ⟨oc_Ring___init__,od_Ring___init__,.func (PySem.W.fnOf "__init__" "Ring.__init__" (defArgs s_Ring___init__) (defBody s_Ring___init__) (defScope s_Ring___init__) .none kV_Ring___init__ dc_Ring___init__ pm_Ring___init__ an_Ring___init__ cd_Ring___init__ ct_Ring___init__),sl_Ring___init__⟩) (x_Ring___init__:PySem.W.codeIn K cd_Ring___init__ "Ring.__init__"=true) (k_Ring___init__:PySem.W.keepIn K (.ref f_Ring___init__)=true) (K_Ring:Mk K a_Ring f_Ring___init__)
 (l_Named___init__:K.lookup f_Named___init__=some ⟨oc_Named___init__,od_Named___init__,.func (PySem.W.fnOf "__init__" "Named.__init__" (defArgs s_Named___init__) (defBody s_Named___init__) (defScope s_Named___init__) .none kV_Named___init__ dc_Named___init__ pm_Named___init__ an_Named___init__ cd_Named___init__ ct_Named___init__),sl_Named___init__⟩) (x_Named___init__:PySem.W.codeIn K cd_Named___init__ "Named.__init__"=true) (k_Named___init__:PySem.W.keepIn K (.ref f_Named___init__)=true) (K_Named:Mk K a_Named f_Named___init__)
    (a_is_word:PySem.W.nsIn K mainGlobals "is_word"=some (some (.ref f_is_word))) (l_is_word:K.lookup f_is_word=some ⟨oc_is_word,od_is_word,.func (PySem.W.fnOf "is_word" "is_word" (defArgs s_is_word) (defBody s_is_word) (defScope s_is_word) .none kV_is_word dc_is_word pm_is_word an_is_word cd_is_word ct_is_word),sl_is_word⟩) (x_is_word:PySem.W.codeIn K cd_is_word "is_word"=true) (k_is_word:PySem.W.keepIn K (.ref f_is_word)=true)
 (l_Words___init__:K.lookup f_Words___init__=some ⟨oc_Words___init__,od_Words___init__,.func (PySem.W.fnOf "__init__" "Words.__init__" (defArgs s_Words___init__) (defBody s_Words___init__) (defScope s_Words___init__) .none kV_Words___init__ dc_Words___init__ pm_Words___init__ an_Words___init__ cd_Words___init__ ct_Words___init__),sl_Words___init__⟩) (x_Words___init__:PySem.W.codeIn K cd_Words___init__ "Words.__init__"=true) (k_Words___init__:PySem.W.keepIn K (.ref f_Words___init__)=true) (K_Words:Mk K a_Words f_Words___init__)
 (l_Words_ahead:K.lookup f_Words_ahead=some ⟨oc_Words_ahead,od_Words_ahead,.func (PySem.W.fnOf "ahead" "Words.ahead" (defArgs s_Words_ahead) (defBody s_Words_ahead) (defScope s_Words_ahead) .none kV_Words_ahead dc_Words_ahead pm_Words_ahead an_Words_ahead cd_Words_ahead ct_Words_ahead),sl_Words_ahead⟩) (x_Words_ahead:PySem.W.codeIn K cd_Words_ahead "Words.ahead"=true) (k_Words_ahead:PySem.W.keepIn K (.ref f_Words_ahead)=true) (W_Words_ahead:Meth K a_Words "ahead" f_Words_ahead)
 (l_Words_passed:K.lookup f_Words_passed=some ⟨oc_Words_passed,od_Words_passed,.func (PySem.W.fnOf "passed" "Words.passed" (defArgs s_Words_passed) (defBody s_Words_passed) (defScope s_Words_passed) .none kV_Words_passed dc_Words_passed pm_Words_passed an_Words_passed cd_Words_passed ct_Words_passed),sl_Words_passed⟩) (x_Words_passed:PySem.W.codeIn K cd_Words_passed "Words.passed"=true) (k_Words_passed:PySem.W.keepIn K (.ref f_Words_passed)=true) (W_Words_passed:Meth K a_Words "passed" f_Words_passed)
 (l_Words_need:K.lookup f_Words_need=some ⟨oc_Words_need,od_Words_need,.func (PySem.W.fnOf "need" "Words.need" (defArgs s_Words_need) (defBody s_Words_need) (defScope s_Words_need) .none kV_Words_need dc_Words_need pm_Words_need an_Words_need cd_Words_need ct_Words_need),sl_Words_need⟩) (x_Words_need:PySem.W.codeIn K cd_Words_need "Words.need"=true) (k_Words_need:PySem.W.keepIn K (.ref f_Words_need)=true) (W_Words_need:Meth K a_Words "need" f_Words_need)
 (l_Words_free_word:K.lookup f_Words_free_word=some ⟨oc_Words_free_word,od_Words_free_word,.func (PySem.W.fnOf "free_word" "Words.free_word" (defArgs s_Words_free_word) (defBody s_Words_free_word) (defScope s_Words_free_word) .none kV_Words_free_word dc_Words_free_word pm_Words_free_word an_Words_free_word cd_Words_free_word ct_Words_free_word),sl_Words_free_word⟩) (x_Words_free_word:PySem.W.codeIn K cd_Words_free_word "Words.free_word"=true) (k_Words_free_word:PySem.W.keepIn K (.ref f_Words_free_word)=true) (W_Words_free_word:Meth K a_Words "free_word" f_Words_free_word)
 (l_Words_finish:K.lookup f_Words_finish=some ⟨oc_Words_finish,od_Words_finish,.func (PySem.W.fnOf "finish" "Words.finish" (defArgs s_Words_finish) (defBody s_Words_finish) (defScope s_Words_finish) .none kV_Words_finish dc_Words_finish pm_Words_finish an_Words_finish cd_Words_finish ct_Words_finish),sl_Words_finish⟩) (x_Words_finish:PySem.W.codeIn K cd_Words_finish "Words.finish"=true) (k_Words_finish:PySem.W.keepIn K (.ref f_Words_finish)=true) (W_Words_finish:Meth K a_Words "finish" f_Words_finish)
    (a_read_rule:PySem.W.nsIn K mainGlobals "read_rule"=some (some (.ref f_read_rule))) (l_read_rule:K.lookup f_read_rule=some ⟨oc_read_rule,od_read_rule,.func (PySem.W.fnOf "read_rule" "read_rule" (defArgs s_read_rule) (defBody s_read_rule) (defScope s_read_rule) .none kV_read_rule dc_read_rule pm_read_rule an_read_rule cd_read_rule ct_read_rule),sl_read_rule⟩) (x_read_rule:PySem.W.codeIn K cd_read_rule "read_rule"=true) (k_read_rule:PySem.W.keepIn K (.ref f_read_rule)=true)
    (a_next_rule:PySem.W.nsIn K mainGlobals "next_rule"=some (some (.ref f_next_rule))) (l_next_rule:K.lookup f_next_rule=some ⟨oc_next_rule,od_next_rule,.func (PySem.W.fnOf "next_rule" "next_rule" (defArgs s_next_rule) (defBody s_next_rule) (defScope s_next_rule) .none kV_next_rule dc_next_rule pm_next_rule an_next_rule cd_next_rule ct_next_rule),sl_next_rule⟩) (x_next_rule:PySem.W.codeIn K cd_next_rule "next_rule"=true) (k_next_rule:PySem.W.keepIn K (.ref f_next_rule)=true)
    (a_next_term:PySem.W.nsIn K mainGlobals "next_term"=some (some (.ref f_next_term))) (l_next_term:K.lookup f_next_term=some ⟨oc_next_term,od_next_term,.func (PySem.W.fnOf "next_term" "next_term" (defArgs s_next_term) (defBody s_next_term) (defScope s_next_term) .none kV_next_term dc_next_term pm_next_term an_next_term cd_next_term ct_next_term),sl_next_term⟩) (x_next_term:PySem.W.codeIn K cd_next_term "next_term"=true) (k_next_term:PySem.W.keepIn K (.ref f_next_term)=true)
    (a_next_factor:PySem.W.nsIn K mainGlobals "next_factor"=some (some (.ref f_next_factor))) (l_next_factor:K.lookup f_next_factor=some ⟨oc_next_factor,od_next_factor,.func (PySem.W.fnOf "next_factor" "next_factor" (defArgs s_next_factor) (defBody s_next_factor) (defScope s_next_factor) .none kV_next_factor dc_next_factor pm_next_factor an_next_factor cd_next_factor ct_next_factor),sl_next_factor⟩) (x_next_factor:PySem.W.codeIn K cd_next_factor "next_factor"=true) (k_next_factor:PySem.W.keepIn K (.ref f_next_factor)=true)
    (a_next_plain_factor:PySem.W.nsIn K mainGlobals "next_plain_factor"=some (some (.ref f_next_plain_factor))) (l_next_plain_factor:K.lookup f_next_plain_factor=some ⟨oc_next_plain_factor,od_next_plain_factor,.func (PySem.W.fnOf "next_plain_factor" "next_plain_factor" (defArgs s_next_plain_factor) (defBody s_next_plain_factor) (defScope s_next_plain_factor) .none kV_next_plain_factor dc_next_plain_factor pm_next_plain_factor an_next_plain_factor cd_next_plain_factor ct_next_plain_factor),sl_next_plain_factor⟩) (x_next_plain_factor:PySem.W.codeIn K cd_next_plain_factor "next_plain_factor"=true) (k_next_plain_factor:PySem.W.keepIn K (.ref f_next_plain_factor)=true)
    (a_held:PySem.W.nsIn K mainGlobals "held"=some (some (.ref f_held))) (l_held:K.lookup f_held=some ⟨oc_held,od_held,.func (PySem.W.fnOf "held" "held" (defArgs s_held) (defBody s_held) (defScope s_held) .none kV_held dc_held pm_held an_held cd_held ct_held),sl_held⟩) (x_held:PySem.W.codeIn K cd_held "held"=true) (k_held:PySem.W.keepIn K (.ref f_held)=true)
    (a_w_cell:PySem.W.nsIn K mainGlobals "_law_cell"=some (some (.ref f_w_cell))) (l_w_cell:K.lookup f_w_cell=some ⟨oc_w_cell,od_w_cell,.func (PySem.W.fnOf "_law_cell" "_law_cell" (defArgs s_w_cell) (defBody s_w_cell) (defScope s_w_cell) .none kV_w_cell dc_w_cell pm_w_cell an_w_cell cd_w_cell ct_w_cell),sl_w_cell⟩) (x_w_cell:PySem.W.codeIn K cd_w_cell "_law_cell"=true) (k_w_cell:PySem.W.keepIn K (.ref f_w_cell)=true)
    (a_w_kept:PySem.W.nsIn K mainGlobals "_law_kept"=some (some (.ref f_w_kept))) (l_w_kept:K.lookup f_w_kept=some ⟨oc_w_kept,od_w_kept,.func (PySem.W.fnOf "_law_kept" "_law_kept" (defArgs s_w_kept) (defBody s_w_kept) (defScope s_w_kept) .none kV_w_kept dc_w_kept pm_w_kept an_w_kept cd_w_kept ct_w_kept),sl_w_kept⟩) (x_w_kept:PySem.W.codeIn K cd_w_kept "_law_kept"=true) (k_w_kept:PySem.W.keepIn K (.ref f_w_kept)=true)
    (a_w_word:PySem.W.nsIn K mainGlobals "_law_word"=some (some (.ref f_w_word))) (l_w_word:K.lookup f_w_word=some ⟨oc_w_word,od_w_word,.func (PySem.W.fnOf "_law_word" "_law_word" (defArgs s_w_word) (defBody s_w_word) (defScope s_w_word) .none kV_w_word dc_w_word pm_w_word an_w_word cd_w_word ct_w_word),sl_w_word⟩) (x_w_word:PySem.W.codeIn K cd_w_word "_law_word"=true) (k_w_word:PySem.W.keepIn K (.ref f_w_word)=true)
    (a_w_is_word:PySem.W.nsIn K mainGlobals "_law_is_word"=some (some (.ref f_w_is_word))) (l_w_is_word:K.lookup f_w_is_word=some ⟨oc_w_is_word,od_w_is_word,.func (PySem.W.fnOf "_law_is_word" "_law_is_word" (defArgs s_w_is_word) (defBody s_w_is_word) (defScope s_w_is_word) .none kV_w_is_word dc_w_is_word pm_w_is_word an_w_is_word cd_w_is_word ct_w_is_word),sl_w_is_word⟩) (x_w_is_word:PySem.W.codeIn K cd_w_is_word "_law_is_word"=true) (k_w_is_word:PySem.W.keepIn K (.ref f_w_is_word)=true)
    (a_w_total:PySem.W.nsIn K mainGlobals "_law_total"=some (some (.ref f_w_total))) (l_w_total:K.lookup f_w_total=some ⟨oc_w_total,od_w_total,.func (PySem.W.fnOf "_law_total" "_law_total" (defArgs s_w_total) (defBody s_w_total) (defScope s_w_total) .none kV_w_total dc_w_total pm_w_total an_w_total cd_w_total ct_w_total),sl_w_total⟩) (x_w_total:PySem.W.codeIn K cd_w_total "_law_total"=true) (k_w_total:PySem.W.keepIn K (.ref f_w_total)=true)
    (a_w_op:PySem.W.nsIn K mainGlobals "_law_op"=some (some (.ref f_w_op))) (l_w_op:K.lookup f_w_op=some ⟨oc_w_op,od_w_op,.func (PySem.W.fnOf "_law_op" "_law_op" (defArgs s_w_op) (defBody s_w_op) (defScope s_w_op) .none kV_w_op dc_w_op pm_w_op an_w_op cd_w_op ct_w_op),sl_w_op⟩) (x_w_op:PySem.W.codeIn K cd_w_op "_law_op"=true) (k_w_op:PySem.W.keepIn K (.ref f_w_op)=true)
    (a_w_tree:PySem.W.nsIn K mainGlobals "_law_tree"=some (some (.ref f_w_tree))) (l_w_tree:K.lookup f_w_tree=some ⟨oc_w_tree,od_w_tree,.func (PySem.W.fnOf "_law_tree" "_law_tree" (defArgs s_w_tree) (defBody s_w_tree) (defScope s_w_tree) .none kV_w_tree dc_w_tree pm_w_tree an_w_tree cd_w_tree ct_w_tree),sl_w_tree⟩) (x_w_tree:PySem.W.codeIn K cd_w_tree "_law_tree"=true) (k_w_tree:PySem.W.keepIn K (.ref f_w_tree)=true)
    (a_w_binds:PySem.W.nsIn K mainGlobals "_law_binds"=some (some (.ref f_w_binds))) (l_w_binds:K.lookup f_w_binds=some ⟨oc_w_binds,od_w_binds,.func (PySem.W.fnOf "_law_binds" "_law_binds" (defArgs s_w_binds) (defBody s_w_binds) (defScope s_w_binds) .none kV_w_binds dc_w_binds pm_w_binds an_w_binds cd_w_binds ct_w_binds),sl_w_binds⟩) (x_w_binds:PySem.W.codeIn K cd_w_binds "_law_binds"=true) (k_w_binds:PySem.W.keepIn K (.ref f_w_binds)=true)
    (a_w_shut:PySem.W.nsIn K mainGlobals "_law_shut"=some (some (.ref f_w_shut))) (l_w_shut:K.lookup f_w_shut=some ⟨oc_w_shut,od_w_shut,.func (PySem.W.fnOf "_law_shut" "_law_shut" (defArgs s_w_shut) (defBody s_w_shut) (defScope s_w_shut) .none kV_w_shut dc_w_shut pm_w_shut an_w_shut cd_w_shut ct_w_shut),sl_w_shut⟩) (x_w_shut:PySem.W.codeIn K cd_w_shut "_law_shut"=true) (k_w_shut:PySem.W.keepIn K (.ref f_w_shut)=true)
    (a_w_text:PySem.W.nsIn K mainGlobals "_law_text"=some (some (.ref f_w_text))) (l_w_text:K.lookup f_w_text=some ⟨oc_w_text,od_w_text,.func (PySem.W.fnOf "_law_text" "_law_text" (defArgs s_w_text) (defBody s_w_text) (defScope s_w_text) .none kV_w_text dc_w_text pm_w_text an_w_text cd_w_text ct_w_text),sl_w_text⟩) (x_w_text:PySem.W.codeIn K cd_w_text "_law_text"=true) (k_w_text:PySem.W.keepIn K (.ref f_w_text)=true)
    (a_w_new_word:PySem.W.nsIn K mainGlobals "_law_new_word"=some (some (.ref f_w_new_word))) (l_w_new_word:K.lookup f_w_new_word=some ⟨oc_w_new_word,od_w_new_word,.func (PySem.W.fnOf "_law_new_word" "_law_new_word" (defArgs s_w_new_word) (defBody s_w_new_word) (defScope s_w_new_word) .none kV_w_new_word dc_w_new_word pm_w_new_word an_w_new_word cd_w_new_word ct_w_new_word),sl_w_new_word⟩) (x_w_new_word:PySem.W.codeIn K cd_w_new_word "_law_new_word"=true) (k_w_new_word:PySem.W.keepIn K (.ref f_w_new_word)=true)
    (a_w_changed:PySem.W.nsIn K mainGlobals "_law_changed"=some (some (.ref f_w_changed))) (l_w_changed:K.lookup f_w_changed=some ⟨oc_w_changed,od_w_changed,.func (PySem.W.fnOf "_law_changed" "_law_changed" (defArgs s_w_changed) (defBody s_w_changed) (defScope s_w_changed) .none kV_w_changed dc_w_changed pm_w_changed an_w_changed cd_w_changed ct_w_changed),sl_w_changed⟩) (x_w_changed:PySem.W.codeIn K cd_w_changed "_law_changed"=true) (k_w_changed:PySem.W.keepIn K (.ref f_w_changed)=true)
    (a_w_step:PySem.W.nsIn K mainGlobals "_law_step"=some (some (.ref f_w_step))) (l_w_step:K.lookup f_w_step=some ⟨oc_w_step,od_w_step,.func (PySem.W.fnOf "_law_step" "_law_step" (defArgs s_w_step) (defBody s_w_step) (defScope s_w_step) .none kV_w_step dc_w_step pm_w_step an_w_step cd_w_step ct_w_step),sl_w_step⟩) (x_w_step:PySem.W.codeIn K cd_w_step "_law_step"=true) (k_w_step:PySem.W.keepIn K (.ref f_w_step)=true)
    (a_w_fault:PySem.W.nsIn K mainGlobals "_law_fault"=some (some (.ref f_w_fault))) (l_w_fault:K.lookup f_w_fault=some ⟨oc_w_fault,od_w_fault,.func (PySem.W.fnOf "_law_fault" "_law_fault" (defArgs s_w_fault) (defBody s_w_fault) (defScope s_w_fault) .none kV_w_fault dc_w_fault pm_w_fault an_w_fault cd_w_fault ct_w_fault),sl_w_fault⟩) (x_w_fault:PySem.W.codeIn K cd_w_fault "_law_fault"=true) (k_w_fault:PySem.W.keepIn K (.ref f_w_fault)=true)
    (a_w_refused:PySem.W.nsIn K mainGlobals "_law_refused"=some (some (.ref f_w_refused))) (l_w_refused:K.lookup f_w_refused=some ⟨oc_w_refused,od_w_refused,.func (PySem.W.fnOf "_law_refused" "_law_refused" (defArgs s_w_refused) (defBody s_w_refused) (defScope s_w_refused) .none kV_w_refused dc_w_refused pm_w_refused an_w_refused cd_w_refused ct_w_refused),sl_w_refused⟩) (x_w_refused:PySem.W.codeIn K cd_w_refused "_law_refused"=true) (k_w_refused:PySem.W.keepIn K (.ref f_w_refused)=true)
    (a_w_mixed:PySem.W.nsIn K mainGlobals "_law_mixed"=some (some (.ref f_w_mixed))) (l_w_mixed:K.lookup f_w_mixed=some ⟨oc_w_mixed,od_w_mixed,.func (PySem.W.fnOf "_law_mixed" "_law_mixed" (defArgs s_w_mixed) (defBody s_w_mixed) (defScope s_w_mixed) .none kV_w_mixed dc_w_mixed pm_w_mixed an_w_mixed cd_w_mixed ct_w_mixed),sl_w_mixed⟩) (x_w_mixed:PySem.W.codeIn K cd_w_mixed "_law_mixed"=true) (k_w_mixed:PySem.W.keepIn K (.ref f_w_mixed)=true)
    (a_law:PySem.W.nsIn K mainGlobals "law"=some (some (.ref f_law))) (l_law:K.lookup f_law=some ⟨oc_law,od_law,.func (PySem.W.fnOf "law" "law" (defArgs s_law) (defBody s_law) (defScope s_law) .none kV_law dc_law pm_law an_law cd_law ct_law),sl_law⟩) (x_law:PySem.W.codeIn K cd_law "law"=true) (k_law:PySem.W.keepIn K (.ref f_law)=true)
    (m_Rule:PySem.W.nsIn K mainGlobals "Rule"=some (some (.ref a_Rule))) (L_Rule:Cls K a_Rule) (K_Rule:Mk0 K a_Rule)
    (m_Nothing:PySem.W.nsIn K mainGlobals "Nothing"=some (some (.ref a_Nothing))) (L_Nothing:Cls K a_Nothing) (K_Nothing:Mk0 K a_Nothing)
    (m_Bead:PySem.W.nsIn K mainGlobals "Bead"=some (some (.ref a_Bead))) (L_Bead:Cls K a_Bead) (N_Bead_colour:NoAttr K a_Bead "colour")
    (m_Or:PySem.W.nsIn K mainGlobals "Or"=some (some (.ref a_Or))) (L_Or:Cls K a_Or) (N_Or_one:NoAttr K a_Or "one") (N_Or_other:NoAttr K a_Or "other")
    (m_By:PySem.W.nsIn K mainGlobals "By"=some (some (.ref a_By))) (L_By:Cls K a_By) (N_By_one:NoAttr K a_By "one") (N_By_other:NoAttr K a_By "other")
    (m_Row:PySem.W.nsIn K mainGlobals "Row"=some (some (.ref a_Row))) (L_Row:Cls K a_Row) (N_Row_part:NoAttr K a_Row "part")
    (m_Bag:PySem.W.nsIn K mainGlobals "Bag"=some (some (.ref a_Bag))) (L_Bag:Cls K a_Bag) (N_Bag_part:NoAttr K a_Bag "part")
    (m_Choice:PySem.W.nsIn K mainGlobals "Choice"=some (some (.ref a_Choice))) (L_Choice:Cls K a_Choice) (N_Choice_part:NoAttr K a_Choice "part")
    (m_Ring:PySem.W.nsIn K mainGlobals "Ring"=some (some (.ref a_Ring))) (L_Ring:Cls K a_Ring) (N_Ring_part:NoAttr K a_Ring "part")
    (m_Named:PySem.W.nsIn K mainGlobals "Named"=some (some (.ref a_Named))) (L_Named:Cls K a_Named) (N_Named_name:NoAttr K a_Named "name")
    (m_Words:PySem.W.nsIn K mainGlobals "Words"=some (some (.ref a_Words))) (L_Words:Cls K a_Words) (N_Words_words:NoAttr K a_Words "words") (N_Words_at:NoAttr K a_Words "at")
    (m_NoText:PySem.W.nsIn K mainGlobals "NoText"=some (some (.ref a_NoText)))
    (m_FigureError:PySem.W.nsIn K mainGlobals "FigureError"=some (some (.ref a_FigureError)))
    (m_NoClass:PySem.W.nsIn K mainGlobals "NoClass"=some (some (.ref a_NoClass)))
    (m_NoLine:PySem.W.nsIn K mainGlobals "NoLine"=some (some (.ref a_NoLine)))
    (m_NoStep:PySem.W.nsIn K mainGlobals "NoStep"=some (some (.ref a_NoStep)))
    (m_Twice:PySem.W.nsIn K mainGlobals "Twice"=some (some (.ref a_Twice)))
    (XB:XBase K a_FigureError)
    (N_NoText_at:NoAttr K a_NoText "at")
    (Y_NoText_FigureError:CatchIn K a_NoText a_FigureError true)
    (X_NoText:XGet K a_NoText)
    (XI_0:PySem.W.kitOne K (.ref a_NoText) (.ref a_NoText)=some true)
    (XI_1:PySem.W.kitOne K (.ref a_NoText) (.type "ValueError")=some true)
    (XI_2:PySem.W.kitOne K (.ref a_NoText) (.ref a_NoClass)=some false)
    (XI_3:PySem.W.kitOne K (.ref a_NoText) (.ref a_NoLine)=some false)
    (XI_4:PySem.W.kitOne K (.ref a_NoText) (.ref a_NoStep)=some false)
    (XI_5:PySem.W.kitOne K (.ref a_NoText) (.ref a_Twice)=some false)
    (IT:IsTab K [a_Nothing,a_Bead,a_Named,a_Or,a_By,a_Row,a_Bag,a_Choice,a_Ring] a_Rule)
    (n_ValueError:PySem.W.nsIn K mainGlobals "ValueError"=some none)
    (n_all:PySem.W.nsIn K mainGlobals "all"=some none)
    (n_any:PySem.W.nsIn K mainGlobals "any"=some none)
    (n_bool:PySem.W.nsIn K mainGlobals "bool"=some none)
    (n_enumerate:PySem.W.nsIn K mainGlobals "enumerate"=some none)
    (n_int:PySem.W.nsIn K mainGlobals "int"=some none)
    (n_isinstance:PySem.W.nsIn K mainGlobals "isinstance"=some none)
    (n_len:PySem.W.nsIn K mainGlobals "len"=some none)
    (n_list:PySem.W.nsIn K mainGlobals "list"=some none)
    (n_max:PySem.W.nsIn K mainGlobals "max"=some none)
    (n_min:PySem.W.nsIn K mainGlobals "min"=some none)
    (n_range:PySem.W.nsIn K mainGlobals "range"=some none)
    (n_reversed:PySem.W.nsIn K mainGlobals "reversed"=some none)
    (n_sorted:PySem.W.nsIn K mainGlobals "sorted"=some none)
    (n_str:PySem.W.nsIn K mainGlobals "str"=some none)
    (n_sum:PySem.W.nsIn K mainGlobals "sum"=some none)
    (n_tuple:PySem.W.nsIn K mainGlobals "tuple"=some none)
    (n_zip:PySem.W.nsIn K mainGlobals "zip"=some none)
    (c_HOLDERS:PySem.W.nsIn K mainGlobals "HOLDERS"=some (some (.ref a_HOLDERS))) (o_HOLDERS:K.lookup a_HOLDERS=some ⟨oc_HOLDERS,od_HOLDERS,.seq is_HOLDERS sn_HOLDERS,sl_HOLDERS⟩) (t_HOLDERS:(oc_HOLDERS == .type "tuple")=true/\(od_HOLDERS == none)=true) (i_HOLDERS:is_HOLDERS.toList.map absV=[(.str "row":V),(.str "bag":V),(.str "choice":V),(.str "ring":V)].map some)
    (c_KEPT:PySem.W.nsIn K mainGlobals "KEPT"=some (some (.ref a_KEPT))) (o_KEPT:K.lookup a_KEPT=some ⟨oc_KEPT,od_KEPT,.seq is_KEPT sn_KEPT,sl_KEPT⟩) (t_KEPT:(oc_KEPT == .type "tuple")=true/\(od_KEPT == none)=true) (i_KEPT:is_KEPT.toList.map absV=[(.str "nothing":V),(.str "bead":V),(.str "or":V),(.str "by":V),(.str "row":V),(.str "bag":V),(.str "choice":V),(.str "ring":V),(.str "of":V),(.str "left":V),(.str "right":V)].map some)
    (c_LETTERS:PySem.W.nsIn K mainGlobals "LETTERS"=some (some (.str "abcdefghijklmnopqrstuvwxyz" tk_LETTERS)))
    (c_LONGEST:PySem.W.nsIn K mainGlobals "LONGEST"=some (some (.int 8 tk_LONGEST))) :
    ∃ fd:FuncData,(∀ (s:Shared) (v:Value),BindsTo s fd ⟨[v],[]⟩ [("_law_script",v)])/\∀ base:Heap,K.In base->base.Ns mainGlobals mg->FnOk l.prog w K mg base CX0 210 fa fd ["_law_script"] (spOf K aspLaw):=by
  have e:=hfa.symm.trans (PySem.W.mg_of X G a_law)
  cases e
  have F_NoText___init__:=fun_mk (st:=s_NoText___init__) l_NoText___init__ x_NoText___init__ k_NoText___init__
  have B_NoText___init__:=F_NoText___init__.binds (ps:=["self","at"]) fun _ _ _ _ _ _=>by refine len2 ?_;intros;rfl
  have F_Bead___init__:=fun_mk (st:=s_Bead___init__) l_Bead___init__ x_Bead___init__ k_Bead___init__
  have B_Bead___init__:=F_Bead___init__.binds (ps:=["self","colour"]) fun _ _ _ _ _ _=>by refine len2 ?_;intros;rfl
  have F_Or___init__:=fun_mk (st:=s_Or___init__) l_Or___init__ x_Or___init__ k_Or___init__
  have B_Or___init__:=F_Or___init__.binds (ps:=["self","one","other"]) fun _ _ _ _ _ _=>by refine len3 ?_;intros;rfl
  have F_By___init__:=fun_mk (st:=s_By___init__) l_By___init__ x_By___init__ k_By___init__
  have B_By___init__:=F_By___init__.binds (ps:=["self","one","other"]) fun _ _ _ _ _ _=>by refine len3 ?_;intros;rfl
  have F_Row___init__:=fun_mk (st:=s_Row___init__) l_Row___init__ x_Row___init__ k_Row___init__
  have B_Row___init__:=F_Row___init__.binds (ps:=["self","part"]) fun _ _ _ _ _ _=>by refine len2 ?_;intros;rfl
  have F_Bag___init__:=fun_mk (st:=s_Bag___init__) l_Bag___init__ x_Bag___init__ k_Bag___init__
  have B_Bag___init__:=F_Bag___init__.binds (ps:=["self","part"]) fun _ _ _ _ _ _=>by refine len2 ?_;intros;rfl
  have F_Choice___init__:=fun_mk (st:=s_Choice___init__) l_Choice___init__ x_Choice___init__ k_Choice___init__
  have B_Choice___init__:=F_Choice___init__.binds (ps:=["self","part"]) fun _ _ _ _ _ _=>by refine len2 ?_;intros;rfl
  have F_Ring___init__:=fun_mk (st:=s_Ring___init__) l_Ring___init__ x_Ring___init__ k_Ring___init__
  have B_Ring___init__:=F_Ring___init__.binds (ps:=["self","part"]) fun _ _ _ _ _ _=>by refine len2 ?_;intros;rfl
  have F_Named___init__:=fun_mk (st:=s_Named___init__) l_Named___init__ x_Named___init__ k_Named___init__
  have B_Named___init__:=F_Named___init__.binds (ps:=["self","name"]) fun _ _ _ _ _ _=>by refine len2 ?_;intros;rfl
  have F_is_word:=fun_mk (st:=s_is_word) l_is_word x_is_word k_is_word
  have B_is_word:=F_is_word.binds (ps:=["text"]) fun _ _ _ _ _ _=>by refine len1 ?_;intros;rfl
  have F_Words___init__:=fun_mk (st:=s_Words___init__) l_Words___init__ x_Words___init__ k_Words___init__
  have B_Words___init__:=F_Words___init__.binds (ps:=["self","text"]) fun _ _ _ _ _ _=>by refine len2 ?_;intros;rfl
  have F_Words_ahead:=fun_mk (st:=s_Words_ahead) l_Words_ahead x_Words_ahead k_Words_ahead
  have B_Words_ahead:=F_Words_ahead.binds (ps:=["self"]) fun _ _ _ _ _ _=>by refine len1 ?_;intros;rfl
  have F_Words_passed:=fun_mk (st:=s_Words_passed) l_Words_passed x_Words_passed k_Words_passed
  have B_Words_passed:=F_Words_passed.binds (ps:=["self","word"]) fun _ _ _ _ _ _=>by refine len2 ?_;intros;rfl
  have F_Words_need:=fun_mk (st:=s_Words_need) l_Words_need x_Words_need k_Words_need
  have B_Words_need:=F_Words_need.binds (ps:=["self","word"]) fun _ _ _ _ _ _=>by refine len2 ?_;intros;rfl
  have F_Words_free_word:=fun_mk (st:=s_Words_free_word) l_Words_free_word x_Words_free_word k_Words_free_word
  have B_Words_free_word:=F_Words_free_word.binds (ps:=["self"]) fun _ _ _ _ _ _=>by refine len1 ?_;intros;rfl
  have F_Words_finish:=fun_mk (st:=s_Words_finish) l_Words_finish x_Words_finish k_Words_finish
  have B_Words_finish:=F_Words_finish.binds (ps:=["self"]) fun _ _ _ _ _ _=>by refine len1 ?_;intros;rfl
  have F_read_rule:=fun_mk (st:=s_read_rule) l_read_rule x_read_rule k_read_rule
  have B_read_rule:=F_read_rule.binds (ps:=["text"]) fun _ _ _ _ _ _=>by refine len1 ?_;intros;rfl
  have F_next_rule:=fun_mk (st:=s_next_rule) l_next_rule x_next_rule k_next_rule
  have B_next_rule:=F_next_rule.binds (ps:=["words"]) fun _ _ _ _ _ _=>by refine len1 ?_;intros;rfl
  have F_next_term:=fun_mk (st:=s_next_term) l_next_term x_next_term k_next_term
  have B_next_term:=F_next_term.binds (ps:=["words"]) fun _ _ _ _ _ _=>by refine len1 ?_;intros;rfl
  have F_next_factor:=fun_mk (st:=s_next_factor) l_next_factor x_next_factor k_next_factor
  have B_next_factor:=F_next_factor.binds (ps:=["words"]) fun _ _ _ _ _ _=>by refine len1 ?_;intros;rfl
  have F_next_plain_factor:=fun_mk (st:=s_next_plain_factor) l_next_plain_factor x_next_plain_factor k_next_plain_factor
  have B_next_plain_factor:=F_next_plain_factor.binds (ps:=["words"]) fun _ _ _ _ _ _=>by refine len1 ?_;intros;rfl
  have F_held:=fun_mk (st:=s_held) l_held x_held k_held
  have B_held:=F_held.binds (ps:=["holder","part"]) fun _ _ _ _ _ _=>by refine len2 ?_;intros;rfl
  have F_w_cell:=fun_mk (st:=s_w_cell) l_w_cell x_w_cell k_w_cell
  have B_w_cell:=F_w_cell.binds (ps:=["_law_script","_law_k"]) fun _ _ _ _ _ _=>by refine len2 ?_;intros;rfl
  have F_w_kept:=fun_mk (st:=s_w_kept) l_w_kept x_w_kept k_w_kept
  have B_w_kept:=F_w_kept.binds (ps:=[]) fun _ _ _ _ _ _=>by refine len0 ?_;intros;rfl
  have F_w_word:=fun_mk (st:=s_w_word) l_w_word x_w_word k_w_word
  have B_w_word:=F_w_word.binds (ps:=["_law_cell_here"]) fun _ _ _ _ _ _=>by refine len1 ?_;intros;rfl
  have F_w_is_word:=fun_mk (st:=s_w_is_word) l_w_is_word x_w_is_word k_w_is_word
  have B_w_is_word:=F_w_is_word.binds (ps:=["_law_text_here"]) fun _ _ _ _ _ _=>by refine len1 ?_;intros;rfl
  have F_w_total:=fun_mk (st:=s_w_total) l_w_total x_w_total k_w_total
  have B_w_total:=F_w_total.binds (ps:=["_law_stack"]) fun _ _ _ _ _ _=>by refine len1 ?_;intros;rfl
  have F_w_op:=fun_mk (st:=s_w_op) l_w_op x_w_op k_w_op
  have B_w_op:=F_w_op.binds (ps:=["_law_stack","_law_cell_here"]) fun _ _ _ _ _ _=>by refine len2 ?_;intros;rfl
  have F_w_tree:=fun_mk (st:=s_w_tree) l_w_tree x_w_tree k_w_tree
  have B_w_tree:=F_w_tree.binds (ps:=["_law_cells"]) fun _ _ _ _ _ _=>by refine len1 ?_;intros;rfl
  have F_w_binds:=fun_mk (st:=s_w_binds) l_w_binds x_w_binds k_w_binds
  have B_w_binds:=F_w_binds.binds (ps:=["_law_tree_here"]) fun _ _ _ _ _ _=>by refine len1 ?_;intros;rfl
  have F_w_shut:=fun_mk (st:=s_w_shut) l_w_shut x_w_shut k_w_shut
  have B_w_shut:=F_w_shut.binds (ps:=["_law_tree_here","_law_least"]) fun _ _ _ _ _ _=>by refine len2 ?_;intros;rfl
  have F_w_text:=fun_mk (st:=s_w_text) l_w_text x_w_text k_w_text
  have B_w_text:=F_w_text.binds (ps:=["_law_tree_here"]) fun _ _ _ _ _ _=>by refine len1 ?_;intros;rfl
  have F_w_new_word:=fun_mk (st:=s_w_new_word) l_w_new_word x_w_new_word k_w_new_word
  have B_w_new_word:=F_w_new_word.binds (ps:=["_law_cell_here"]) fun _ _ _ _ _ _=>by refine len1 ?_;intros;rfl
  have F_w_changed:=fun_mk (st:=s_w_changed) l_w_changed x_w_changed k_w_changed
  have B_w_changed:=F_w_changed.binds (ps:=["_law_words","_law_cell_here"]) fun _ _ _ _ _ _=>by refine len2 ?_;intros;rfl
  have F_w_step:=fun_mk (st:=s_w_step) l_w_step x_w_step k_w_step
  have B_w_step:=F_w_step.binds (ps:=["_law_state","_law_word_here"]) fun _ _ _ _ _ _=>by refine len2 ?_;intros;rfl
  have F_w_fault:=fun_mk (st:=s_w_fault) l_w_fault x_w_fault k_w_fault
  have B_w_fault:=F_w_fault.binds (ps:=["_law_words"]) fun _ _ _ _ _ _=>by refine len1 ?_;intros;rfl
  have F_w_refused:=fun_mk (st:=s_w_refused) l_w_refused x_w_refused k_w_refused
  have B_w_refused:=F_w_refused.binds (ps:=["_law_text_here"]) fun _ _ _ _ _ _=>by refine len1 ?_;intros;rfl
  have F_w_mixed:=fun_mk (st:=s_w_mixed) l_w_mixed x_w_mixed k_w_mixed
  have B_w_mixed:=F_w_mixed.binds (ps:=["_law_script","_law_few"]) fun _ _ _ _ _ _=>by refine len2 ?_;intros;rfl
  have F_law:=fun_mk (st:=s_law) l_law x_law k_law
  have B_law:=F_law.binds (ps:=["_law_script"]) fun _ _ _ _ _ _=>by refine len1 ?_;intros;rfl
  have T:TX K mg _ _ _ _ _ _ _ _ _ _ _ _ _ _ _ _ _ _ _ _ _ _ _ _ _ _ _ _ _ _ _ _ _ _ _ _ _ _ _ _ _ _ _ _ _ _ _ _ _ _ _ _ _ _ _ _ _ _ _ _ _ _ _ _ _ _ _ _ _ _ _ _ _ _ _ _ _ _ _ _ _ _ _ _ _ _ _ _ _ _ _ _ _ _ _ _ _:=⟨F_NoText___init__,B_NoText___init__,K_NoText,F_Bead___init__,B_Bead___init__,K_Bead,F_Or___init__,B_Or___init__,K_Or,F_By___init__,B_By___init__,K_By,F_Row___init__,B_Row___init__,K_Row,F_Bag___init__,B_Bag___init__,K_Bag,F_Choice___init__,B_Choice___init__,K_Choice,F_Ring___init__,B_Ring___init__,K_Ring,F_Named___init__,B_Named___init__,K_Named,F_is_word,B_is_word,PySem.W.mg_of X G a_is_word,F_Words___init__,B_Words___init__,K_Words,F_Words_ahead,B_Words_ahead,W_Words_ahead,F_Words_passed,B_Words_passed,W_Words_passed,F_Words_need,B_Words_need,W_Words_need,F_Words_free_word,B_Words_free_word,W_Words_free_word,F_Words_finish,B_Words_finish,W_Words_finish,F_read_rule,B_read_rule,PySem.W.mg_of X G a_read_rule,F_next_rule,B_next_rule,PySem.W.mg_of X G a_next_rule,F_next_term,B_next_term,PySem.W.mg_of X G a_next_term,F_next_factor,B_next_factor,PySem.W.mg_of X G a_next_factor,F_next_plain_factor,B_next_plain_factor,PySem.W.mg_of X G a_next_plain_factor,F_held,B_held,PySem.W.mg_of X G a_held,F_w_cell,B_w_cell,PySem.W.mg_of X G a_w_cell,F_w_kept,B_w_kept,PySem.W.mg_of X G a_w_kept,F_w_word,B_w_word,PySem.W.mg_of X G a_w_word,F_w_is_word,B_w_is_word,PySem.W.mg_of X G a_w_is_word,F_w_total,B_w_total,PySem.W.mg_of X G a_w_total,F_w_op,B_w_op,PySem.W.mg_of X G a_w_op,F_w_tree,B_w_tree,PySem.W.mg_of X G a_w_tree,F_w_binds,B_w_binds,PySem.W.mg_of X G a_w_binds,F_w_shut,B_w_shut,PySem.W.mg_of X G a_w_shut,F_w_text,B_w_text,PySem.W.mg_of X G a_w_text,F_w_new_word,B_w_new_word,PySem.W.mg_of X G a_w_new_word,F_w_changed,B_w_changed,PySem.W.mg_of X G a_w_changed,F_w_step,B_w_step,PySem.W.mg_of X G a_w_step,F_w_fault,B_w_fault,PySem.W.mg_of X G a_w_fault,F_w_refused,B_w_refused,PySem.W.mg_of X G a_w_refused,F_w_mixed,B_w_mixed,PySem.W.mg_of X G a_w_mixed,F_law,B_law,PySem.W.mg_of X G a_law,PySem.W.mg_of X G m_Rule,L_Rule,K_Rule,PySem.W.mg_of X G m_Nothing,L_Nothing,K_Nothing,PySem.W.mg_of X G m_Bead,L_Bead,N_Bead_colour,PySem.W.mg_of X G m_Or,L_Or,N_Or_one,N_Or_other,PySem.W.mg_of X G m_By,L_By,N_By_one,N_By_other,PySem.W.mg_of X G m_Row,L_Row,N_Row_part,PySem.W.mg_of X G m_Bag,L_Bag,N_Bag_part,PySem.W.mg_of X G m_Choice,L_Choice,N_Choice_part,PySem.W.mg_of X G m_Ring,L_Ring,N_Ring_part,PySem.W.mg_of X G m_Named,L_Named,N_Named_name,PySem.W.mg_of X G m_Words,L_Words,N_Words_words,N_Words_at,PySem.W.mg_of X G m_NoText,PySem.W.mg_of X G m_FigureError,PySem.W.mg_of X G m_NoClass,PySem.W.mg_of X G m_NoLine,PySem.W.mg_of X G m_NoStep,PySem.W.mg_of X G m_Twice,XB,N_NoText_at,Y_NoText_FigureError,X_NoText,XI_0,XI_1,XI_2,XI_3,XI_4,XI_5,IT,PySem.W.mg_none_of X G n_ValueError,PySem.W.mg_none_of X G n_all,PySem.W.mg_none_of X G n_any,PySem.W.mg_none_of X G n_bool,PySem.W.mg_none_of X G n_enumerate,PySem.W.mg_none_of X G n_int,PySem.W.mg_none_of X G n_isinstance,PySem.W.mg_none_of X G n_len,PySem.W.mg_none_of X G n_list,PySem.W.mg_none_of X G n_max,PySem.W.mg_none_of X G n_min,PySem.W.mg_none_of X G n_range,PySem.W.mg_none_of X G n_reversed,PySem.W.mg_none_of X G n_sorted,PySem.W.mg_none_of X G n_str,PySem.W.mg_none_of X G n_sum,PySem.W.mg_none_of X G n_tuple,PySem.W.mg_none_of X G n_zip,⟨_,PySem.W.mg_of X G c_HOLDERS,rfl⟩,sqT_const o_HOLDERS t_HOLDERS i_HOLDERS,ty_const o_HOLDERS t_HOLDERS,⟨_,PySem.W.mg_of X G c_KEPT,rfl⟩,sqT_const o_KEPT t_KEPT i_KEPT,ty_const o_KEPT t_KEPT,⟨_,PySem.W.mg_of X G c_LETTERS,⟨_,rfl⟩⟩,⟨_,PySem.W.mg_of X G c_LONGEST,⟨_,rfl⟩⟩⟩
  exact ⟨_,fun s v=>.of_eq rfl,fun base _ _=>ok_law T⟩
theorem walk {l:PySem.W.OpenLaw} {q:Program} {loose:List Str} {XP:(Str->Option Value)->Heap->Prop} {YP:World->Heap->Prop} {d:DefRec} {K:Params->PySem.W.Frag} (hn:l.most=some 63) (hdf:d.params.defaults=[])
    (hY:∀ (w:World) (h:Heap),YP w h->(K w.params).In h)
    (F : ∀ (w:World) (mg:Str->Option Value) (fa:Addr) (h:Heap),(K w.params).In h->h.Ns mainGlobals mg->mg d.name=some (.ref fa) ->
      ∃ fd:FuncData,(∀ (s:Shared) (u:Value),BindsTo s fd ⟨[u],[]⟩ [("_law_script",u)])/\∀ base:Heap,(K w.params).In base->base.Ns mainGlobals mg->FnOk l.prog w (K w.params) mg base CX0 210 fa fd ["_law_script"] (spOf (K w.params) aspLaw)) :
    PySem.W.WalkO q loose XP YP l.row.toRowW d [] (fun f vs=>PySem.call f vs) :=
  L2.walk_of (n:=63) (k:=210) (x:="_law_script") (CX:=fun _=>CX0) (sp:=fun w=>spOf (K w.params) aspLaw) hn (by decide) hdf ⟨rfl,by decide,by decide⟩ hY F (fun _ _ a ns hl hO hS=>law_in hl hO hS) fun _ _ _ _ _ z=>z
theorem pr0:(("a":String) == "a" && Nat.beq [PySem.W.boot_o_0].length 1)=true:=by k_qdec
noncomputable def hq:Program:=PySem.W.view PySem.Challenge.pw_figurebook_k03_rule_texts_refused [49]
noncomputable def hloose:List Str:=(["_wall","FigureError","NoText","Twice","NoClass","NoStep","NoLine","Rule","Nothing","Bead","Or","By","Row","Bag","Choice","Ring","Named","LETTERS","LONGEST","KEPT","HOLDERS","is_word","Words","read_rule","next_rule"]:List Str)++(["next_term","next_factor","next_plain_factor","held","_law_cell","_law_kept","_law_word","_law_is_word","_law_total","_law_op","_law_tree","_law_binds","_law_shut","_law_text","_law_new_word","_law_changed","_law_step","_law_fault","_law_refused","_law_mixed"]:List Str)
noncomputable def hKl (P:Params):List (Addr × Obj):=[(2,(Obj.mk .none none (.dict #[] 0) #[])),
  (3,hNs 55 [hEnt P "__name__" 165 (.str "law_figurebook_k03_rule_texts_refused" 855),hEnt P "__doc__" 166 .none,hEnt P "__package__" 167 .none,hEnt P "__loader__" 168 (.builtin "__main__.__loader__#opaque"),hEnt P "__spec__" 169 .none,hEnt P "__annotations__" 170 (.ref 6),hEnt P "__builtins__" 171 (.ref 4),hEnt P "__file__" 173 (.str "/claim/cut.py" 172),hEnt P "__cached__" 174 .none,hEnt P "_wall" 193 (.ref 21),hEnt P "FigureError" 213 (.ref 31),hEnt P "NoText" 238 (.ref 51),hEnt P "Twice" 263 (.ref 70),hEnt P "NoClass" 288 (.ref 89),hEnt P "NoStep" 313 (.ref 108),hEnt P "NoLine" 338 (.ref 127),hEnt P "Rule" 374 (.ref 153),hEnt P "Nothing" 397 (.ref 174),hEnt P "Bead" 429 (.ref 200),hEnt P "Or" 470 (.ref 233),hEnt P "By" 511 (.ref 266),hEnt P "Row" 550 (.ref 299),hEnt P "Bag" 589 (.ref 332),hEnt P "Choice" 628 (.ref 365),hEnt P "Ring" 667 (.ref 398),hEnt P "Named" 706 (.ref 431),hEnt P "LETTERS" 710 (.str "abcdefghijklmnopqrstuvwxyz" 709),hEnt P "LONGEST" 712 (.int 8 711),hEnt P "KEPT" 724 (.ref 434),hEnt P "HOLDERS" 729 (.ref 435),hEnt P "is_word" 735 (.ref 440),hEnt P "Words" 803 (.ref 492),hEnt P "read_rule" 812 (.ref 503),hEnt P "next_rule" 820 (.ref 510),hEnt P "next_term" 828 (.ref 517),hEnt P "next_factor" 838 (.ref 524),hEnt P "next_plain_factor" 846 (.ref 531),hEnt P "held" 854 (.ref 538),hEnt P "_law_cell" 864 (.ref 545),hEnt P "_law_kept" 870 (.ref 552),hEnt P "_law_word" 880 (.ref 559),hEnt P "_law_is_word" 888 (.ref 566),hEnt P "_law_total" 894 (.ref 571),hEnt P "_law_op" 908 (.ref 578),hEnt P "_law_tree" 922 (.ref 585),hEnt P "_law_binds" 929 (.ref 592),hEnt P "_law_shut" 937 (.ref 599),hEnt P "_law_text" 944 (.ref 606),hEnt P "_law_new_word" 952 (.ref 613),hEnt P "_law_changed" 962 (.ref 620),hEnt P "_law_step" 972 (.ref 627),hEnt P "_law_fault" 982 (.ref 634),hEnt P "_law_refused" 993 (.ref 641),hEnt P "_law_mixed" 1006 (.ref 648),hEnt P "law" 1018 (.ref 655)]),
  (30,hNs 3 [hEnt P "__module__" 203 (.str "figurebook.errors" 194),hEnt P "__firstlineno__" 207 (.int 5 206),hEnt P "__static_attributes__" 208 (.ref 29),hEnt P "__weakref__" 210 (.ref 32),hEnt P "__doc__" 211 .none]),
  (31,Obj.mk (.type "type") none (.cls (ClassData.mk "FigureError" [(.type "ValueError")] [(.ref 31),(.type "ValueError"),(.type "Exception"),(.type "BaseException"),(.type "object")] 30 "FigureError" true [] [(.ref 51),(.ref 70),(.ref 89),(.ref 108),(.ref 127)] false none false)) #[(some (.ref 22)),none,(some (.str "FigureError" 196)),(some (.str "FigureError" 204)),(some (.builtin "ValueError.__new__")),(some (.bool true))]),
  (47,hCode "__init__" "NoText.__init__" 226 9 2 3 42 43 (some 44) (some 45) 46 231 232),
  (48,hFun s_NoText___init__ "__init__" "NoText.__init__" (.str "figurebook.errors" 194) 47),
  (50,hNs 2 [hEnt P "__module__" 221 (.str "figurebook.errors" 194),hEnt P "__firstlineno__" 225 (.int 7 224),hEnt P "__init__" 233 (.ref 48),hEnt P "__static_attributes__" 235 (.ref 49),hEnt P "__doc__" 236 .none]),
  (51,Obj.mk (.type "type") none (.cls (ClassData.mk "NoText" [(.ref 31)] [(.ref 51),(.ref 31),(.type "ValueError"),(.type "Exception"),(.type "BaseException"),(.type "object")] 50 "NoText" true [] [] false none false)) #[(some (.ref 35)),none,(some (.str "NoText" 214)),(some (.str "NoText" 222)),(some (.builtin "ValueError.__new__")),(some (.bool true))]),
  (66,hCode "__init__" "Twice.__init__" 251 14 2 3 61 62 (some 63) (some 64) 65 256 257),
  (67,hFun s_Twice___init__ "__init__" "Twice.__init__" (.str "figurebook.errors" 194) 66),
  (69,hNs 2 [hEnt P "__module__" 246 (.str "figurebook.errors" 194),hEnt P "__firstlineno__" 250 (.int 12 249),hEnt P "__init__" 258 (.ref 67),hEnt P "__static_attributes__" 260 (.ref 68),hEnt P "__doc__" 261 .none]),
  (70,Obj.mk (.type "type") none (.cls (ClassData.mk "Twice" [(.ref 31)] [(.ref 70),(.ref 31),(.type "ValueError"),(.type "Exception"),(.type "BaseException"),(.type "object")] 69 "Twice" true [] [] false none false)) #[(some (.ref 54)),none,(some (.str "Twice" 239)),(some (.str "Twice" 247)),(some (.builtin "ValueError.__new__")),(some (.bool true))]),
  (85,hCode "__init__" "NoClass.__init__" 276 19 2 3 80 81 (some 82) (some 83) 84 281 282),
  (86,hFun s_NoClass___init__ "__init__" "NoClass.__init__" (.str "figurebook.errors" 194) 85),
  (88,hNs 2 [hEnt P "__module__" 271 (.str "figurebook.errors" 194),hEnt P "__firstlineno__" 275 (.int 17 274),hEnt P "__init__" 283 (.ref 86),hEnt P "__static_attributes__" 285 (.ref 87),hEnt P "__doc__" 286 .none]),
  (89,Obj.mk (.type "type") none (.cls (ClassData.mk "NoClass" [(.ref 31)] [(.ref 89),(.ref 31),(.type "ValueError"),(.type "Exception"),(.type "BaseException"),(.type "object")] 88 "NoClass" true [] [] false none false)) #[(some (.ref 73)),none,(some (.str "NoClass" 264)),(some (.str "NoClass" 272)),(some (.builtin "ValueError.__new__")),(some (.bool true))]),
  (104,hCode "__init__" "NoStep.__init__" 301 24 2 3 99 100 (some 101) (some 102) 103 306 307),
  (105,hFun s_NoStep___init__ "__init__" "NoStep.__init__" (.str "figurebook.errors" 194) 104),
  (107,hNs 2 [hEnt P "__module__" 296 (.str "figurebook.errors" 194),hEnt P "__firstlineno__" 300 (.int 22 299),hEnt P "__init__" 308 (.ref 105),hEnt P "__static_attributes__" 310 (.ref 106),hEnt P "__doc__" 311 .none]),
  (108,Obj.mk (.type "type") none (.cls (ClassData.mk "NoStep" [(.ref 31)] [(.ref 108),(.ref 31),(.type "ValueError"),(.type "Exception"),(.type "BaseException"),(.type "object")] 107 "NoStep" true [] [] false none false)) #[(some (.ref 92)),none,(some (.str "NoStep" 289)),(some (.str "NoStep" 297)),(some (.builtin "ValueError.__new__")),(some (.bool true))]),
  (123,hCode "__init__" "NoLine.__init__" 326 29 2 3 118 119 (some 120) (some 121) 122 331 332),
  (124,hFun s_NoLine___init__ "__init__" "NoLine.__init__" (.str "figurebook.errors" 194) 123),
  (126,hNs 2 [hEnt P "__module__" 321 (.str "figurebook.errors" 194),hEnt P "__firstlineno__" 325 (.int 27 324),hEnt P "__init__" 333 (.ref 124),hEnt P "__static_attributes__" 335 (.ref 125),hEnt P "__doc__" 336 .none]),
  (127,Obj.mk (.type "type") none (.cls (ClassData.mk "NoLine" [(.ref 31)] [(.ref 127),(.ref 31),(.type "ValueError"),(.type "Exception"),(.type "BaseException"),(.type "object")] 126 "NoLine" true [] [] false none false)) #[(some (.ref 111)),none,(some (.str "NoLine" 314)),(some (.str "NoLine" 322)),(some (.builtin "ValueError.__new__")),(some (.bool true))]),
  (152,hNs 4 [hEnt P "__module__" 348 (.str "figurebook.rules" 339),hEnt P "__firstlineno__" 352 (.int 33 351),hEnt P "inside" 359 (.ref 143),hEnt P "names" 366 (.ref 150),hEnt P "__static_attributes__" 367 (.ref 151),hEnt P "__dict__" 369 (.ref 154),hEnt P "__weakref__" 371 (.ref 155),hEnt P "__doc__" 372 .none]),
  (153,Obj.mk (.type "type") none (.cls (ClassData.mk "Rule" [(.type "object")] [(.ref 153),(.type "object")] 152 "Rule" true [] [(.ref 174),(.ref 200),(.ref 233),(.ref 266),(.ref 299),(.ref 332),(.ref 365),(.ref 398),(.ref 431)] false none false)) #[none,none,(some (.str "Rule" 341)),(some (.str "Rule" 349)),(some (.builtin "object.__new__")),(some (.bool true))]),
  (173,hNs 2 [hEnt P "__module__" 382 (.str "figurebook.rules" 339),hEnt P "__firstlineno__" 386 (.int 40 385),hEnt P "told" 393 (.ref 171),hEnt P "__static_attributes__" 394 (.ref 172),hEnt P "__doc__" 395 .none]),
  (174,Obj.mk (.type "type") none (.cls (ClassData.mk "Nothing" [(.ref 153)] [(.ref 174),(.ref 153),(.type "object")] 173 "Nothing" true [] [] false none false)) #[(some (.ref 158)),none,(some (.str "Nothing" 375)),(some (.str "Nothing" 383)),(some (.builtin "object.__new__")),(some (.bool true))]),
  (189,hCode "__init__" "Bead.__init__" 410 46 2 3 184 185 (some 186) (some 187) 188 415 416),
  (190,hFun s_Bead___init__ "__init__" "Bead.__init__" (.str "figurebook.rules" 339) 189),
  (199,hNs 2 [hEnt P "__module__" 405 (.str "figurebook.rules" 339),hEnt P "__firstlineno__" 409 (.int 44 408),hEnt P "__init__" 417 (.ref 190),hEnt P "told" 424 (.ref 197),hEnt P "__static_attributes__" 426 (.ref 198),hEnt P "__doc__" 427 .none]),
  (200,Obj.mk (.type "type") none (.cls (ClassData.mk "Bead" [(.ref 153)] [(.ref 200),(.ref 153),(.type "object")] 199 "Bead" true [] [] false none false)) #[(some (.ref 177)),none,(some (.str "Bead" 398)),(some (.str "Bead" 406)),(some (.builtin "object.__new__")),(some (.bool true))]),
  (215,hCode "__init__" "Or.__init__" 442 53 3 3 210 211 (some 212) (some 213) 214 448 449),
  (216,hFun s_Or___init__ "__init__" "Or.__init__" (.str "figurebook.rules" 339) 215),
  (232,hNs 2 [hEnt P "__module__" 437 (.str "figurebook.rules" 339),hEnt P "__firstlineno__" 441 (.int 51 440),hEnt P "__init__" 450 (.ref 216),hEnt P "inside" 457 (.ref 223),hEnt P "told" 464 (.ref 230),hEnt P "__static_attributes__" 467 (.ref 231),hEnt P "__doc__" 468 .none]),
  (233,Obj.mk (.type "type") none (.cls (ClassData.mk "Or" [(.ref 153)] [(.ref 233),(.ref 153),(.type "object")] 232 "Or" true [] [] false none false)) #[(some (.ref 203)),none,(some (.str "Or" 430)),(some (.str "Or" 438)),(some (.builtin "object.__new__")),(some (.bool true))]),
  (248,hCode "__init__" "By.__init__" 483 64 3 3 243 244 (some 245) (some 246) 247 489 490),
  (249,hFun s_By___init__ "__init__" "By.__init__" (.str "figurebook.rules" 339) 248),
  (265,hNs 2 [hEnt P "__module__" 478 (.str "figurebook.rules" 339),hEnt P "__firstlineno__" 482 (.int 62 481),hEnt P "__init__" 491 (.ref 249),hEnt P "inside" 498 (.ref 256),hEnt P "told" 505 (.ref 263),hEnt P "__static_attributes__" 508 (.ref 264),hEnt P "__doc__" 509 .none]),
  (266,Obj.mk (.type "type") none (.cls (ClassData.mk "By" [(.ref 153)] [(.ref 266),(.ref 153),(.type "object")] 265 "By" true [] [] false none false)) #[(some (.ref 236)),none,(some (.str "By" 471)),(some (.str "By" 479)),(some (.builtin "object.__new__")),(some (.bool true))]),
  (281,hCode "__init__" "Row.__init__" 524 75 2 3 276 277 (some 278) (some 279) 280 529 530),
  (282,hFun s_Row___init__ "__init__" "Row.__init__" (.str "figurebook.rules" 339) 281),
  (298,hNs 2 [hEnt P "__module__" 519 (.str "figurebook.rules" 339),hEnt P "__firstlineno__" 523 (.int 73 522),hEnt P "__init__" 531 (.ref 282),hEnt P "inside" 538 (.ref 289),hEnt P "told" 545 (.ref 296),hEnt P "__static_attributes__" 547 (.ref 297),hEnt P "__doc__" 548 .none]),
  (299,Obj.mk (.type "type") none (.cls (ClassData.mk "Row" [(.ref 153)] [(.ref 299),(.ref 153),(.type "object")] 298 "Row" true [] [] false none false)) #[(some (.ref 269)),none,(some (.str "Row" 512)),(some (.str "Row" 520)),(some (.builtin "object.__new__")),(some (.bool true))]),
  (314,hCode "__init__" "Bag.__init__" 563 85 2 3 309 310 (some 311) (some 312) 313 568 569),
  (315,hFun s_Bag___init__ "__init__" "Bag.__init__" (.str "figurebook.rules" 339) 314),
  (331,hNs 2 [hEnt P "__module__" 558 (.str "figurebook.rules" 339),hEnt P "__firstlineno__" 562 (.int 83 561),hEnt P "__init__" 570 (.ref 315),hEnt P "inside" 577 (.ref 322),hEnt P "told" 584 (.ref 329),hEnt P "__static_attributes__" 586 (.ref 330),hEnt P "__doc__" 587 .none]),
  (332,Obj.mk (.type "type") none (.cls (ClassData.mk "Bag" [(.ref 153)] [(.ref 332),(.ref 153),(.type "object")] 331 "Bag" true [] [] false none false)) #[(some (.ref 302)),none,(some (.str "Bag" 551)),(some (.str "Bag" 559)),(some (.builtin "object.__new__")),(some (.bool true))]),
  (347,hCode "__init__" "Choice.__init__" 602 95 2 3 342 343 (some 344) (some 345) 346 607 608),
  (348,hFun s_Choice___init__ "__init__" "Choice.__init__" (.str "figurebook.rules" 339) 347),
  (364,hNs 2 [hEnt P "__module__" 597 (.str "figurebook.rules" 339),hEnt P "__firstlineno__" 601 (.int 93 600),hEnt P "__init__" 609 (.ref 348),hEnt P "inside" 616 (.ref 355),hEnt P "told" 623 (.ref 362),hEnt P "__static_attributes__" 625 (.ref 363),hEnt P "__doc__" 626 .none]),
  (365,Obj.mk (.type "type") none (.cls (ClassData.mk "Choice" [(.ref 153)] [(.ref 365),(.ref 153),(.type "object")] 364 "Choice" true [] [] false none false)) #[(some (.ref 335)),none,(some (.str "Choice" 590)),(some (.str "Choice" 598)),(some (.builtin "object.__new__")),(some (.bool true))]),
  (380,hCode "__init__" "Ring.__init__" 641 105 2 3 375 376 (some 377) (some 378) 379 646 647),
  (381,hFun s_Ring___init__ "__init__" "Ring.__init__" (.str "figurebook.rules" 339) 380),
  (397,hNs 2 [hEnt P "__module__" 636 (.str "figurebook.rules" 339),hEnt P "__firstlineno__" 640 (.int 103 639),hEnt P "__init__" 648 (.ref 381),hEnt P "inside" 655 (.ref 388),hEnt P "told" 662 (.ref 395),hEnt P "__static_attributes__" 664 (.ref 396),hEnt P "__doc__" 665 .none]),
  (398,Obj.mk (.type "type") none (.cls (ClassData.mk "Ring" [(.ref 153)] [(.ref 398),(.ref 153),(.type "object")] 397 "Ring" true [] [] false none false)) #[(some (.ref 368)),none,(some (.str "Ring" 629)),(some (.str "Ring" 637)),(some (.builtin "object.__new__")),(some (.bool true))]),
  (413,hCode "__init__" "Named.__init__" 680 115 2 3 408 409 (some 410) (some 411) 412 685 686),
  (414,hFun s_Named___init__ "__init__" "Named.__init__" (.str "figurebook.rules" 339) 413),
  (430,hNs 2 [hEnt P "__module__" 675 (.str "figurebook.rules" 339),hEnt P "__firstlineno__" 679 (.int 113 678),hEnt P "__init__" 687 (.ref 414),hEnt P "names" 694 (.ref 421),hEnt P "told" 701 (.ref 428),hEnt P "__static_attributes__" 703 (.ref 429),hEnt P "__doc__" 704 .none]),
  (431,Obj.mk (.type "type") none (.cls (ClassData.mk "Named" [(.ref 153)] [(.ref 431),(.ref 153),(.type "object")] 430 "Named" true [] [] false none false)) #[(some (.ref 401)),none,(some (.str "Named" 668)),(some (.str "Named" 676)),(some (.builtin "object.__new__")),(some (.bool true))]),
  (434,hTup [(.str "nothing" 713),(.str "bead" 714),(.str "or" 715),(.str "by" 716),(.str "row" 717),(.str "bag" 718),(.str "choice" 719),(.str "ring" 720),(.str "of" 721),(.str "left" 722),(.str "right" 723)]),
  (435,hTup [(.str "row" 725),(.str "bag" 726),(.str "choice" 727),(.str "ring" 728)]),
  (439,hCode "is_word" "is_word" 730 128 1 3 436 437 none none 438 733 734),
  (440,hFun s_is_word "is_word" "is_word" (.str "figurebook.reading" 707) 439),
  (453,hCode "__init__" "Words.__init__" 748 134 2 3 448 449 (some 450) (some 451) 452 753 754),
  (454,hFun s_Words___init__ "__init__" "Words.__init__" (.str "figurebook.reading" 707) 453),
  (460,hCode "ahead" "Words.ahead" 756 138 1 3 455 456 (some 457) (some 458) 459 760 761),
  (461,hFun s_Words_ahead "ahead" "Words.ahead" (.str "figurebook.reading" 707) 460),
  (467,hCode "passed" "Words.passed" 763 143 2 3 462 463 (some 464) (some 465) 466 768 769),
  (468,hFun s_Words_passed "passed" "Words.passed" (.str "figurebook.reading" 707) 467),
  (474,hCode "need" "Words.need" 771 149 2 3 469 470 (some 471) (some 472) 473 776 777),
  (475,hFun s_Words_need "need" "Words.need" (.str "figurebook.reading" 707) 474),
  (481,hCode "free_word" "Words.free_word" 779 153 1 3 476 477 (some 478) (some 479) 480 784 785),
  (482,hFun s_Words_free_word "free_word" "Words.free_word" (.str "figurebook.reading" 707) 481),
  (488,hCode "finish" "Words.finish" 787 160 1 3 483 484 (some 485) (some 486) 487 791 792),
  (489,hFun s_Words_finish "finish" "Words.finish" (.str "figurebook.reading" 707) 488),
  (491,hNs 4 [hEnt P "__module__" 743 (.str "figurebook.reading" 707),hEnt P "__firstlineno__" 747 (.int 132 746),hEnt P "__init__" 755 (.ref 454),hEnt P "ahead" 762 (.ref 461),hEnt P "passed" 770 (.ref 468),hEnt P "need" 778 (.ref 475),hEnt P "free_word" 786 (.ref 482),hEnt P "finish" 793 (.ref 489),hEnt P "__static_attributes__" 796 (.ref 490),hEnt P "__dict__" 798 (.ref 493),hEnt P "__weakref__" 800 (.ref 494),hEnt P "__doc__" 801 .none]),
  (492,Obj.mk (.type "type") none (.cls (ClassData.mk "Words" [(.type "object")] [(.ref 492),(.type "object")] 491 "Words" true [] [] false none false)) #[none,none,(some (.str "Words" 736)),(some (.str "Words" 744)),(some (.builtin "object.__new__")),(some (.bool true))]),
  (502,hCode "read_rule" "read_rule" 804 163 1 3 497 498 (some 499) (some 500) 501 810 811),
  (503,hFun s_read_rule "read_rule" "read_rule" (.str "figurebook.reading" 707) 502),
  (509,hCode "next_rule" "next_rule" 813 168 1 3 504 505 (some 506) (some 507) 508 818 819),
  (510,hFun s_next_rule "next_rule" "next_rule" (.str "figurebook.reading" 707) 509),
  (516,hCode "next_term" "next_term" 821 173 1 3 511 512 (some 513) (some 514) 515 826 827),
  (517,hFun s_next_term "next_term" "next_term" (.str "figurebook.reading" 707) 516),
  (523,hCode "next_factor" "next_factor" 829 178 1 3 518 519 (some 520) (some 521) 522 836 837),
  (524,hFun s_next_factor "next_factor" "next_factor" (.str "figurebook.reading" 707) 523),
  (530,hCode "next_plain_factor" "next_plain_factor" 839 189 1 3 525 526 (some 527) (some 528) 529 844 845),
  (531,hFun s_next_plain_factor "next_plain_factor" "next_plain_factor" (.str "figurebook.reading" 707) 530),
  (537,hCode "held" "held" 847 199 2 3 532 533 (some 534) (some 535) 536 852 853),
  (538,hFun s_held "held" "held" (.str "figurebook.reading" 707) 537),
  (544,hCode "_law_cell" "_law_cell" 857 208 2 3 539 540 (some 541) (some 542) 543 862 863),
  (545,hFun s_w_cell "_law_cell" "_law_cell" (.str "law_figurebook_k03_rule_texts_refused" 855) 544),
  (551,hCode "_law_kept" "_law_kept" 865 212 0 3 546 547 (some 548) (some 549) 550 868 869),
  (552,hFun s_w_kept "_law_kept" "_law_kept" (.str "law_figurebook_k03_rule_texts_refused" 855) 551),
  (558,hCode "_law_word" "_law_word" 871 214 1 3 553 554 (some 555) (some 556) 557 878 879),
  (559,hFun s_w_word "_law_word" "_law_word" (.str "law_figurebook_k03_rule_texts_refused" 855) 558),
  (565,hCode "_law_is_word" "_law_is_word" 881 223 1 3 560 561 (some 562) (some 563) 564 886 887),
  (566,hFun s_w_is_word "_law_is_word" "_law_is_word" (.str "law_figurebook_k03_rule_texts_refused" 855) 565),
  (570,hCode "_law_total" "_law_total" 889 228 1 3 567 568 none none 569 892 893),
  (571,hFun s_w_total "_law_total" "_law_total" (.str "law_figurebook_k03_rule_texts_refused" 855) 570),
  (577,hCode "_law_op" "_law_op" 895 230 2 3 572 573 (some 574) (some 575) 576 906 907),
  (578,hFun s_w_op "_law_op" "_law_op" (.str "law_figurebook_k03_rule_texts_refused" 855) 577),
  (584,hCode "_law_tree" "_law_tree" 909 247 1 3 579 580 (some 581) (some 582) 583 920 921),
  (585,hFun s_w_tree "_law_tree" "_law_tree" (.str "law_figurebook_k03_rule_texts_refused" 855) 584),
  (591,hCode "_law_binds" "_law_binds" 923 260 1 3 586 587 (some 588) (some 589) 590 927 928),
  (592,hFun s_w_binds "_law_binds" "_law_binds" (.str "law_figurebook_k03_rule_texts_refused" 855) 591),
  (598,hCode "_law_shut" "_law_shut" 930 264 2 3 593 594 (some 595) (some 596) 597 935 936),
  (599,hFun s_w_shut "_law_shut" "_law_shut" (.str "law_figurebook_k03_rule_texts_refused" 855) 598),
  (605,hCode "_law_text" "_law_text" 938 268 1 3 600 601 (some 602) (some 603) 604 942 943),
  (606,hFun s_w_text "_law_text" "_law_text" (.str "law_figurebook_k03_rule_texts_refused" 855) 605),
  (612,hCode "_law_new_word" "_law_new_word" 945 280 1 3 607 608 (some 609) (some 610) 611 950 951),
  (613,hFun s_w_new_word "_law_new_word" "_law_new_word" (.str "law_figurebook_k03_rule_texts_refused" 855) 612),
  (619,hCode "_law_changed" "_law_changed" 953 285 2 3 614 615 (some 616) (some 617) 618 960 961),
  (620,hFun s_w_changed "_law_changed" "_law_changed" (.str "law_figurebook_k03_rule_texts_refused" 855) 619),
  (626,hCode "_law_step" "_law_step" 963 297 2 3 621 622 (some 623) (some 624) 625 970 971),
  (627,hFun s_w_step "_law_step" "_law_step" (.str "law_figurebook_k03_rule_texts_refused" 855) 626),
  (633,hCode "_law_fault" "_law_fault" 973 311 1 3 628 629 (some 630) (some 631) 632 980 981),
  (634,hFun s_w_fault "_law_fault" "_law_fault" (.str "law_figurebook_k03_rule_texts_refused" 855) 633),
  (640,hCode "_law_refused" "_law_refused" 983 320 1 3 635 636 (some 637) (some 638) 639 991 992),
  (641,hFun s_w_refused "_law_refused" "_law_refused" (.str "law_figurebook_k03_rule_texts_refused" 855) 640),
  (647,hCode "_law_mixed" "_law_mixed" 994 335 2 3 642 643 (some 644) (some 645) 646 1004 1005),
  (648,hFun s_w_mixed "_law_mixed" "_law_mixed" (.str "law_figurebook_k03_rule_texts_refused" 855) 647),
  (654,hCode "law" "law" 1007 346 1 3 649 650 (some 651) (some 652) 653 1016 1017),
  (655,hFun s_law "law" "law" (.str "law_figurebook_k03_rule_texts_refused" 855) 654)]
noncomputable def hK (P:Params):PySem.W.Frag:=hKl P
noncomputable def hAs:List Addr:=[2,3,30,31,47,48,50,51,66,67,69,70,85,86,88,89,104,105,107,108,123,124,126,127,152,153,173,174,189,190,199,200,215,216,232,233,248,249,265,266,281,282,298,299,314,315,331,332,347,348,364,365,380,381,397,398,413,414,430,431,434,435,439,440,453,454,460,461,467,468,474,475,481,482,488,489,491,492,502,503,509,510,516,517,523,524,530,531,537,538,544,545,551,552,558,559,565,566,570,571,577,578,584,585,591,592,598,599,605,606,612,613,619,620,626,627,633,634,640,641,647,648,654,655]
noncomputable def hTs:List Addr:=[]
noncomputable abbrev hH:PySem.W.Hook:=PySem.W.kmHook hK hAs (fun _=>rfl) hTs
noncomputable abbrev hXt:Shared->Bool:=fun s=>PySem.W.xlAt hq [] s && PySem.W.recOk (PySem.W.RowW.records (PySem.W.OpenRow.toRowW (PySem.W.OpenLaw.row PySem.Challenge.rw_figurebook_k03_rule_texts_refused))) s
noncomputable def hL (w:World) (os:OsState):=headT PySem.Challenge.pw_figurebook_k03_rule_texts_refused w os 11 (some (.ref 6)) 40000 (fun s=>(PySem.W.staticsOk (importedModules PySem.Challenge.pw_figurebook_k03_rule_texts_refused.main.body) (PySem.W.boot_heap w.params) s.heap && PySem.W.namesBound PySem.Challenge.pw_figurebook_k03_rule_texts_refused s.heap && PySem.W.gensDone s && PySem.W.laidKept (PySem.W.boot_heap w.params) s.heap,PySem.W.openSeen hq hloose (importedModules PySem.Challenge.pw_figurebook_k03_rule_texts_refused.main.body) hXt true s,(hAs.map s.heap.get?,hTs.map s.heap.get?)))
noncomputable def hR (w:World) (_:OsState):=some (true,PySem.W.openGood hq hloose,((hKl w.params).map fun p=>some p.2,hTs.map fun _=>some (PySem.W.tabObj #[])))
lay_quick My.hL My.hR L2.hBoot
theorem h_run (w:World) (os:OsState):hL w os=hR w os:=(congrFun (congrFun PySem.W.Fast.te13887445390003487561 w) os).trans (Eq.trans (by kernel_rfl) (congrFun (congrFun PySem.W.Fast.te6075038599416009561 w) os).symm)
theorem h_boot (w:World):hBoot w=(true,11,some (.ref 6)):=(congrFun PySem.W.Fast.te16037136179764453472 w).trans (by kernel_rfl)
theorem h_left:PySem.W.LeftO PySem.Challenge.pw_figurebook_k03_rule_texts_refused hq hloose hXt (PySem.W.Hook.obs hH) (PySem.W.Hook.val hH) 40000:=left_whole (by rfl) (by decide) (fun s=>rfl) h_boot h_run
end My
open PySem PySem.W PyProof.Rows
set_option maxRecDepth 100000 in
set_option maxHeartbeats 0 in
theorem PySem.Challenge.cw_figurebook_k03_rule_texts_refused_holds : PySem.Challenge.rw_figurebook_k03_rule_texts_refused.Holds := by
  w_on;o_law
  refine holds_open (q:=My.hq) (loose:=My.hloose) (Xt:=My.hXt) (XP:=XL My.hq []) (Yf:=Hook.obs My.hH) (Ya:=Hook.val My.hH) (YP:=Hook.says My.hH) (N:=40000) My.h_left (Hook.of My.hH) (Hook.keeps My.hH) (fun s e=>xl_of s (Bool.and_eq_true_iff.mp e).1) XL.keeps (by rfl) (by rfl) (by rfl) (fun s e=>recFacts_of (Bool.and_eq_true_iff.mp e).2) (by rfl) (by first | assumption | decide +kernel) (by decide +kernel) ⟨rfl,rfl,rfl,rfl,rfl,by decide +kernel⟩ ?hw ?hc
  case hw=>w_witness2
  k_fill
  refine My.walk (l:=PySem.Challenge.rw_figurebook_k03_rule_texts_refused) rfl rfl (fun w h Y=>PySem.W.km_in_of Y) ?F
  case F =>
    intro w mg fa h KX G hmg
    refine' My.all_mk KX G hmg ?l_NoText___init__ ?x_NoText___init__ ?k_NoText___init__ ?K_NoText ?l_Bead___init__ ?x_Bead___init__ ?k_Bead___init__ ?K_Bead ?l_Or___init__ ?x_Or___init__ ?k_Or___init__ ?K_Or ?l_By___init__ ?x_By___init__ ?k_By___init__ ?K_By ?l_Row___init__ ?x_Row___init__ ?k_Row___init__ ?K_Row ?l_Bag___init__ ?x_Bag___init__ ?k_Bag___init__ ?K_Bag ?l_Choice___init__ ?x_Choice___init__ ?k_Choice___init__ ?K_Choice ?l_Ring___init__ ?x_Ring___init__ ?k_Ring___init__ ?K_Ring ?l_Named___init__ ?x_Named___init__ ?k_Named___init__ ?K_Named ?a_is_word ?l_is_word ?x_is_word ?k_is_word ?l_Words___init__ ?x_Words___init__ ?k_Words___init__ ?K_Words ?l_Words_ahead ?x_Words_ahead ?k_Words_ahead ?W_Words_ahead ?l_Words_passed ?x_Words_passed ?k_Words_passed ?W_Words_passed ?l_Words_need ?x_Words_need ?k_Words_need ?W_Words_need ?l_Words_free_word ?x_Words_free_word ?k_Words_free_word ?W_Words_free_word ?l_Words_finish ?x_Words_finish ?k_Words_finish ?W_Words_finish ?a_read_rule ?l_read_rule ?x_read_rule ?k_read_rule ?a_next_rule ?l_next_rule ?x_next_rule ?k_next_rule ?a_next_term ?l_next_term ?x_next_term ?k_next_term ?a_next_factor ?l_next_factor ?x_next_factor ?k_next_factor ?a_next_plain_factor ?l_next_plain_factor ?x_next_plain_factor ?k_next_plain_factor ?a_held ?l_held ?x_held ?k_held ?a_w_cell ?l_w_cell ?x_w_cell ?k_w_cell ?a_w_kept ?l_w_kept ?x_w_kept ?k_w_kept ?a_w_word ?l_w_word ?x_w_word ?k_w_word ?a_w_is_word ?l_w_is_word ?x_w_is_word ?k_w_is_word ?a_w_total ?l_w_total ?x_w_total ?k_w_total ?a_w_op ?l_w_op ?x_w_op ?k_w_op ?a_w_tree ?l_w_tree ?x_w_tree ?k_w_tree ?a_w_binds ?l_w_binds ?x_w_binds ?k_w_binds ?a_w_shut ?l_w_shut ?x_w_shut ?k_w_shut ?a_w_text ?l_w_text ?x_w_text ?k_w_text ?a_w_new_word ?l_w_new_word ?x_w_new_word ?k_w_new_word ?a_w_changed ?l_w_changed ?x_w_changed ?k_w_changed ?a_w_step ?l_w_step ?x_w_step ?k_w_step ?a_w_fault ?l_w_fault ?x_w_fault ?k_w_fault ?a_w_refused ?l_w_refused ?x_w_refused ?k_w_refused ?a_w_mixed ?l_w_mixed ?x_w_mixed ?k_w_mixed ?a_law ?l_law ?x_law ?k_law ?m_Rule ?L_Rule ?K_Rule ?m_Nothing ?L_Nothing ?K_Nothing ?m_Bead ?L_Bead ?N_Bead_colour ?m_Or ?L_Or ?N_Or_one ?N_Or_other ?m_By ?L_By ?N_By_one ?N_By_other ?m_Row ?L_Row ?N_Row_part ?m_Bag ?L_Bag ?N_Bag_part ?m_Choice ?L_Choice ?N_Choice_part ?m_Ring ?L_Ring ?N_Ring_part ?m_Named ?L_Named ?N_Named_name ?m_Words ?L_Words ?N_Words_words ?N_Words_at ?m_NoText ?m_FigureError ?m_NoClass ?m_NoLine ?m_NoStep ?m_Twice ?XB ?N_NoText_at ?Y_NoText_FigureError ?X_NoText ?XI_0 ?XI_1 ?XI_2 ?XI_3 ?XI_4 ?XI_5 ?IT ?n_ValueError ?n_all ?n_any ?n_bool ?n_enumerate ?n_int ?n_isinstance ?n_len ?n_list ?n_max ?n_min ?n_range ?n_reversed ?n_sorted ?n_str ?n_sum ?n_tuple ?n_zip ?c_HOLDERS ?o_HOLDERS ?t_HOLDERS ?i_HOLDERS ?c_KEPT ?o_KEPT ?t_KEPT ?i_KEPT ?c_LETTERS ?c_LONGEST
    (case l_NoText___init__=>exact (by kernel_rfl:(My.hK w.params).lookup 48=some ⟨.type "function",none,.func (PySem.W.fnOf "__init__" "NoText.__init__" (L2.defArgs My.s_NoText___init__) (L2.defBody My.s_NoText___init__) (L2.defScope My.s_NoText___init__) .none .none .none (.str "figurebook.errors" 194) none (.ref 47) .none),#[]⟩))
    (case x_NoText___init__=>exact (by kernel_rfl:PySem.W.codeIn (My.hK w.params) (.ref 47) "NoText.__init__"=true))
    (case k_NoText___init__=>exact (by kernel_rfl:PySem.W.keepIn (My.hK w.params) (.ref 48)=true))
    (case K_NoText=>exact (⟨(by kernel_rfl),(by kernel_rfl),(by kernel_rfl),(by kernel_rfl),(by kernel_rfl),(by kernel_rfl),(by kernel_rfl),(by kernel_rfl),(by kernel_rfl),(by kernel_rfl)⟩:L2.XCl (My.hK w.params) 51 48))
    (case l_Bead___init__=>exact (by kernel_rfl:(My.hK w.params).lookup 190=some ⟨.type "function",none,.func (PySem.W.fnOf "__init__" "Bead.__init__" (L2.defArgs My.s_Bead___init__) (L2.defBody My.s_Bead___init__) (L2.defScope My.s_Bead___init__) .none .none .none (.str "figurebook.rules" 339) none (.ref 189) .none),#[]⟩))
    (case x_Bead___init__=>exact (by kernel_rfl:PySem.W.codeIn (My.hK w.params) (.ref 189) "Bead.__init__"=true))
    (case k_Bead___init__=>exact (by kernel_rfl:PySem.W.keepIn (My.hK w.params) (.ref 190)=true))
    (case K_Bead=>exact (⟨(by kernel_rfl),(by kernel_rfl),(by kernel_rfl),(by kernel_rfl)⟩:L2.Mk (My.hK w.params) 200 190))
    (case l_Or___init__=>exact (by kernel_rfl:(My.hK w.params).lookup 216=some ⟨.type "function",none,.func (PySem.W.fnOf "__init__" "Or.__init__" (L2.defArgs My.s_Or___init__) (L2.defBody My.s_Or___init__) (L2.defScope My.s_Or___init__) .none .none .none (.str "figurebook.rules" 339) none (.ref 215) .none),#[]⟩))
    (case x_Or___init__=>exact (by kernel_rfl:PySem.W.codeIn (My.hK w.params) (.ref 215) "Or.__init__"=true))
    (case k_Or___init__=>exact (by kernel_rfl:PySem.W.keepIn (My.hK w.params) (.ref 216)=true))
    (case K_Or=>exact (⟨(by kernel_rfl),(by kernel_rfl),(by kernel_rfl),(by kernel_rfl)⟩:L2.Mk (My.hK w.params) 233 216))
    (case l_By___init__=>exact (by kernel_rfl:(My.hK w.params).lookup 249=some ⟨.type "function",none,.func (PySem.W.fnOf "__init__" "By.__init__" (L2.defArgs My.s_By___init__) (L2.defBody My.s_By___init__) (L2.defScope My.s_By___init__) .none .none .none (.str "figurebook.rules" 339) none (.ref 248) .none),#[]⟩))
    (case x_By___init__=>exact (by kernel_rfl:PySem.W.codeIn (My.hK w.params) (.ref 248) "By.__init__"=true))
    (case k_By___init__=>exact (by kernel_rfl:PySem.W.keepIn (My.hK w.params) (.ref 249)=true))
    (case K_By=>exact (⟨(by kernel_rfl),(by kernel_rfl),(by kernel_rfl),(by kernel_rfl)⟩:L2.Mk (My.hK w.params) 266 249))
    (case l_Row___init__=>exact (by kernel_rfl:(My.hK w.params).lookup 282=some ⟨.type "function",none,.func (PySem.W.fnOf "__init__" "Row.__init__" (L2.defArgs My.s_Row___init__) (L2.defBody My.s_Row___init__) (L2.defScope My.s_Row___init__) .none .none .none (.str "figurebook.rules" 339) none (.ref 281) .none),#[]⟩))
    (case x_Row___init__=>exact (by kernel_rfl:PySem.W.codeIn (My.hK w.params) (.ref 281) "Row.__init__"=true))
    (case k_Row___init__=>exact (by kernel_rfl:PySem.W.keepIn (My.hK w.params) (.ref 282)=true))
    (case K_Row=>exact (⟨(by kernel_rfl),(by kernel_rfl),(by kernel_rfl),(by kernel_rfl)⟩:L2.Mk (My.hK w.params) 299 282))
    (case l_Bag___init__=>exact (by kernel_rfl:(My.hK w.params).lookup 315=some ⟨.type "function",none,.func (PySem.W.fnOf "__init__" "Bag.__init__" (L2.defArgs My.s_Bag___init__) (L2.defBody My.s_Bag___init__) (L2.defScope My.s_Bag___init__) .none .none .none (.str "figurebook.rules" 339) none (.ref 314) .none),#[]⟩))
    (case x_Bag___init__=>exact (by kernel_rfl:PySem.W.codeIn (My.hK w.params) (.ref 314) "Bag.__init__"=true))
    (case k_Bag___init__=>exact (by kernel_rfl:PySem.W.keepIn (My.hK w.params) (.ref 315)=true))
    (case K_Bag=>exact (⟨(by kernel_rfl),(by kernel_rfl),(by kernel_rfl),(by kernel_rfl)⟩:L2.Mk (My.hK w.params) 332 315))
    (case l_Choice___init__=>exact (by kernel_rfl:(My.hK w.params).lookup 348=some ⟨.type "function",none,.func (PySem.W.fnOf "__init__" "Choice.__init__" (L2.defArgs My.s_Choice___init__) (L2.defBody My.s_Choice___init__) (L2.defScope My.s_Choice___init__) .none .none .none (.str "figurebook.rules" 339) none (.ref 347) .none),#[]⟩))
    (case x_Choice___init__=>exact (by kernel_rfl:PySem.W.codeIn (My.hK w.params) (.ref 347) "Choice.__init__"=true))
    (case k_Choice___init__=>exact (by kernel_rfl:PySem.W.keepIn (My.hK w.params) (.ref 348)=true))
    (case K_Choice=>exact (⟨(by kernel_rfl),(by kernel_rfl),(by kernel_rfl),(by kernel_rfl)⟩:L2.Mk (My.hK w.params) 365 348))
    (case l_Ring___init__=>exact (by kernel_rfl:(My.hK w.params).lookup 381=some ⟨.type "function",none,.func (PySem.W.fnOf "__init__" "Ring.__init__" (L2.defArgs My.s_Ring___init__) (L2.defBody My.s_Ring___init__) (L2.defScope My.s_Ring___init__) .none .none .none (.str "figurebook.rules" 339) none (.ref 380) .none),#[]⟩))
    (case x_Ring___init__=>exact (by kernel_rfl:PySem.W.codeIn (My.hK w.params) (.ref 380) "Ring.__init__"=true))
    (case k_Ring___init__=>exact (by kernel_rfl:PySem.W.keepIn (My.hK w.params) (.ref 381)=true))
    (case K_Ring=>exact (⟨(by kernel_rfl),(by kernel_rfl),(by kernel_rfl),(by kernel_rfl)⟩:L2.Mk (My.hK w.params) 398 381))
    (case l_Named___init__=>exact (by kernel_rfl:(My.hK w.params).lookup 414=some ⟨.type "function",none,.func (PySem.W.fnOf "__init__" "Named.__init__" (L2.defArgs My.s_Named___init__) (L2.defBody My.s_Named___init__) (L2.defScope My.s_Named___init__) .none .none .none (.str "figurebook.rules" 339) none (.ref 413) .none),#[]⟩))
    (case x_Named___init__=>exact (by kernel_rfl:PySem.W.codeIn (My.hK w.params) (.ref 413) "Named.__init__"=true))
    (case k_Named___init__=>exact (by kernel_rfl:PySem.W.keepIn (My.hK w.params) (.ref 414)=true))
    (case K_Named=>exact (⟨(by kernel_rfl),(by kernel_rfl),(by kernel_rfl),(by kernel_rfl)⟩:L2.Mk (My.hK w.params) 431 414))
    (case a_is_word=>exact (by kernel_rfl:PySem.W.nsIn (My.hK w.params) mainGlobals "is_word"=some (some (.ref 440))))
    (case l_is_word=>exact (by kernel_rfl:(My.hK w.params).lookup 440=some ⟨.type "function",none,.func (PySem.W.fnOf "is_word" "is_word" (L2.defArgs My.s_is_word) (L2.defBody My.s_is_word) (L2.defScope My.s_is_word) .none .none .none (.str "figurebook.reading" 707) none (.ref 439) .none),#[]⟩))
    (case x_is_word=>exact (by kernel_rfl:PySem.W.codeIn (My.hK w.params) (.ref 439) "is_word"=true))
    (case k_is_word=>exact (by kernel_rfl:PySem.W.keepIn (My.hK w.params) (.ref 440)=true))
    (case l_Words___init__=>exact (by kernel_rfl:(My.hK w.params).lookup 454=some ⟨.type "function",none,.func (PySem.W.fnOf "__init__" "Words.__init__" (L2.defArgs My.s_Words___init__) (L2.defBody My.s_Words___init__) (L2.defScope My.s_Words___init__) .none .none .none (.str "figurebook.reading" 707) none (.ref 453) .none),#[]⟩))
    (case x_Words___init__=>exact (by kernel_rfl:PySem.W.codeIn (My.hK w.params) (.ref 453) "Words.__init__"=true))
    (case k_Words___init__=>exact (by kernel_rfl:PySem.W.keepIn (My.hK w.params) (.ref 454)=true))
    (case K_Words=>exact (⟨(by kernel_rfl),(by kernel_rfl),(by kernel_rfl),(by kernel_rfl)⟩:L2.Mk (My.hK w.params) 492 454))
    (case l_Words_ahead=>exact (by kernel_rfl:(My.hK w.params).lookup 461=some ⟨.type "function",none,.func (PySem.W.fnOf "ahead" "Words.ahead" (L2.defArgs My.s_Words_ahead) (L2.defBody My.s_Words_ahead) (L2.defScope My.s_Words_ahead) .none .none .none (.str "figurebook.reading" 707) none (.ref 460) .none),#[]⟩))
    (case x_Words_ahead=>exact (by kernel_rfl:PySem.W.codeIn (My.hK w.params) (.ref 460) "Words.ahead"=true))
    (case k_Words_ahead=>exact (by kernel_rfl:PySem.W.keepIn (My.hK w.params) (.ref 461)=true))
    (case W_Words_ahead=>exact (⟨(by kernel_rfl),(by kernel_rfl),(by kernel_rfl)⟩:L2.Meth (My.hK w.params) 492 "ahead" 461))
    (case l_Words_passed=>exact (by kernel_rfl:(My.hK w.params).lookup 468=some ⟨.type "function",none,.func (PySem.W.fnOf "passed" "Words.passed" (L2.defArgs My.s_Words_passed) (L2.defBody My.s_Words_passed) (L2.defScope My.s_Words_passed) .none .none .none (.str "figurebook.reading" 707) none (.ref 467) .none),#[]⟩))
    (case x_Words_passed=>exact (by kernel_rfl:PySem.W.codeIn (My.hK w.params) (.ref 467) "Words.passed"=true))
    (case k_Words_passed=>exact (by kernel_rfl:PySem.W.keepIn (My.hK w.params) (.ref 468)=true))
    (case W_Words_passed=>exact (⟨(by kernel_rfl),(by kernel_rfl),(by kernel_rfl)⟩:L2.Meth (My.hK w.params) 492 "passed" 468))
    (case l_Words_need=>exact (by kernel_rfl:(My.hK w.params).lookup 475=some ⟨.type "function",none,.func (PySem.W.fnOf "need" "Words.need" (L2.defArgs My.s_Words_need) (L2.defBody My.s_Words_need) (L2.defScope My.s_Words_need) .none .none .none (.str "figurebook.reading" 707) none (.ref 474) .none),#[]⟩))
    (case x_Words_need=>exact (by kernel_rfl:PySem.W.codeIn (My.hK w.params) (.ref 474) "Words.need"=true))
    (case k_Words_need=>exact (by kernel_rfl:PySem.W.keepIn (My.hK w.params) (.ref 475)=true))
    (case W_Words_need=>exact (⟨(by kernel_rfl),(by kernel_rfl),(by kernel_rfl)⟩:L2.Meth (My.hK w.params) 492 "need" 475))
    (case l_Words_free_word=>exact (by kernel_rfl:(My.hK w.params).lookup 482=some ⟨.type "function",none,.func (PySem.W.fnOf "free_word" "Words.free_word" (L2.defArgs My.s_Words_free_word) (L2.defBody My.s_Words_free_word) (L2.defScope My.s_Words_free_word) .none .none .none (.str "figurebook.reading" 707) none (.ref 481) .none),#[]⟩))
    (case x_Words_free_word=>exact (by kernel_rfl:PySem.W.codeIn (My.hK w.params) (.ref 481) "Words.free_word"=true))
    (case k_Words_free_word=>exact (by kernel_rfl:PySem.W.keepIn (My.hK w.params) (.ref 482)=true))
    (case W_Words_free_word=>exact (⟨(by kernel_rfl),(by kernel_rfl),(by kernel_rfl)⟩:L2.Meth (My.hK w.params) 492 "free_word" 482))
    (case l_Words_finish=>exact (by kernel_rfl:(My.hK w.params).lookup 489=some ⟨.type "function",none,.func (PySem.W.fnOf "finish" "Words.finish" (L2.defArgs My.s_Words_finish) (L2.defBody My.s_Words_finish) (L2.defScope My.s_Words_finish) .none .none .none (.str "figurebook.reading" 707) none (.ref 488) .none),#[]⟩))
    (case x_Words_finish=>exact (by kernel_rfl:PySem.W.codeIn (My.hK w.params) (.ref 488) "Words.finish"=true))
    (case k_Words_finish=>exact (by kernel_rfl:PySem.W.keepIn (My.hK w.params) (.ref 489)=true))
    (case W_Words_finish=>exact (⟨(by kernel_rfl),(by kernel_rfl),(by kernel_rfl)⟩:L2.Meth (My.hK w.params) 492 "finish" 489))
    (case a_read_rule=>exact (by kernel_rfl:PySem.W.nsIn (My.hK w.params) mainGlobals "read_rule"=some (some (.ref 503))))
    (case l_read_rule=>exact (by kernel_rfl:(My.hK w.params).lookup 503=some ⟨.type "function",none,.func (PySem.W.fnOf "read_rule" "read_rule" (L2.defArgs My.s_read_rule) (L2.defBody My.s_read_rule) (L2.defScope My.s_read_rule) .none .none .none (.str "figurebook.reading" 707) none (.ref 502) .none),#[]⟩))
    (case x_read_rule=>exact (by kernel_rfl:PySem.W.codeIn (My.hK w.params) (.ref 502) "read_rule"=true))
    (case k_read_rule=>exact (by kernel_rfl:PySem.W.keepIn (My.hK w.params) (.ref 503)=true))
    (case a_next_rule=>exact (by kernel_rfl:PySem.W.nsIn (My.hK w.params) mainGlobals "next_rule"=some (some (.ref 510))))
    (case l_next_rule=>exact (by kernel_rfl:(My.hK w.params).lookup 510=some ⟨.type "function",none,.func (PySem.W.fnOf "next_rule" "next_rule" (L2.defArgs My.s_next_rule) (L2.defBody My.s_next_rule) (L2.defScope My.s_next_rule) .none .none .none (.str "figurebook.reading" 707) none (.ref 509) .none),#[]⟩))
    (case x_next_rule=>exact (by kernel_rfl:PySem.W.codeIn (My.hK w.params) (.ref 509) "next_rule"=true))
    (case k_next_rule=>exact (by kernel_rfl:PySem.W.keepIn (My.hK w.params) (.ref 510)=true))
    (case a_next_term=>exact (by kernel_rfl:PySem.W.nsIn (My.hK w.params) mainGlobals "next_term"=some (some (.ref 517))))
    (case l_next_term=>exact (by kernel_rfl:(My.hK w.params).lookup 517=some ⟨.type "function",none,.func (PySem.W.fnOf "next_term" "next_term" (L2.defArgs My.s_next_term) (L2.defBody My.s_next_term) (L2.defScope My.s_next_term) .none .none .none (.str "figurebook.reading" 707) none (.ref 516) .none),#[]⟩))
    (case x_next_term=>exact (by kernel_rfl:PySem.W.codeIn (My.hK w.params) (.ref 516) "next_term"=true))
    (case k_next_term=>exact (by kernel_rfl:PySem.W.keepIn (My.hK w.params) (.ref 517)=true))
    (case a_next_factor=>exact (by kernel_rfl:PySem.W.nsIn (My.hK w.params) mainGlobals "next_factor"=some (some (.ref 524))))
    (case l_next_factor=>exact (by kernel_rfl:(My.hK w.params).lookup 524=some ⟨.type "function",none,.func (PySem.W.fnOf "next_factor" "next_factor" (L2.defArgs My.s_next_factor) (L2.defBody My.s_next_factor) (L2.defScope My.s_next_factor) .none .none .none (.str "figurebook.reading" 707) none (.ref 523) .none),#[]⟩))
    (case x_next_factor=>exact (by kernel_rfl:PySem.W.codeIn (My.hK w.params) (.ref 523) "next_factor"=true))
    (case k_next_factor=>exact (by kernel_rfl:PySem.W.keepIn (My.hK w.params) (.ref 524)=true))
    (case a_next_plain_factor=>exact (by kernel_rfl:PySem.W.nsIn (My.hK w.params) mainGlobals "next_plain_factor"=some (some (.ref 531))))
    (case l_next_plain_factor=>exact (by kernel_rfl:(My.hK w.params).lookup 531=some ⟨.type "function",none,.func (PySem.W.fnOf "next_plain_factor" "next_plain_factor" (L2.defArgs My.s_next_plain_factor) (L2.defBody My.s_next_plain_factor) (L2.defScope My.s_next_plain_factor) .none .none .none (.str "figurebook.reading" 707) none (.ref 530) .none),#[]⟩))
    (case x_next_plain_factor=>exact (by kernel_rfl:PySem.W.codeIn (My.hK w.params) (.ref 530) "next_plain_factor"=true))
    (case k_next_plain_factor=>exact (by kernel_rfl:PySem.W.keepIn (My.hK w.params) (.ref 531)=true))
    (case a_held=>exact (by kernel_rfl:PySem.W.nsIn (My.hK w.params) mainGlobals "held"=some (some (.ref 538))))
    (case l_held=>exact (by kernel_rfl:(My.hK w.params).lookup 538=some ⟨.type "function",none,.func (PySem.W.fnOf "held" "held" (L2.defArgs My.s_held) (L2.defBody My.s_held) (L2.defScope My.s_held) .none .none .none (.str "figurebook.reading" 707) none (.ref 537) .none),#[]⟩))
    (case x_held=>exact (by kernel_rfl:PySem.W.codeIn (My.hK w.params) (.ref 537) "held"=true))
    (case k_held=>exact (by kernel_rfl:PySem.W.keepIn (My.hK w.params) (.ref 538)=true))
    (case a_w_cell=>exact (by kernel_rfl:PySem.W.nsIn (My.hK w.params) mainGlobals "_law_cell"=some (some (.ref 545))))
    (case l_w_cell=>exact (by kernel_rfl:(My.hK w.params).lookup 545=some ⟨.type "function",none,.func (PySem.W.fnOf "_law_cell" "_law_cell" (L2.defArgs My.s_w_cell) (L2.defBody My.s_w_cell) (L2.defScope My.s_w_cell) .none .none .none (.str "law_figurebook_k03_rule_texts_refused" 855) none (.ref 544) .none),#[]⟩))
    (case x_w_cell=>exact (by kernel_rfl:PySem.W.codeIn (My.hK w.params) (.ref 544) "_law_cell"=true))
    (case k_w_cell=>exact (by kernel_rfl:PySem.W.keepIn (My.hK w.params) (.ref 545)=true))
    (case a_w_kept=>exact (by kernel_rfl:PySem.W.nsIn (My.hK w.params) mainGlobals "_law_kept"=some (some (.ref 552))))
    (case l_w_kept=>exact (by kernel_rfl:(My.hK w.params).lookup 552=some ⟨.type "function",none,.func (PySem.W.fnOf "_law_kept" "_law_kept" (L2.defArgs My.s_w_kept) (L2.defBody My.s_w_kept) (L2.defScope My.s_w_kept) .none .none .none (.str "law_figurebook_k03_rule_texts_refused" 855) none (.ref 551) .none),#[]⟩))
    (case x_w_kept=>exact (by kernel_rfl:PySem.W.codeIn (My.hK w.params) (.ref 551) "_law_kept"=true))
    (case k_w_kept=>exact (by kernel_rfl:PySem.W.keepIn (My.hK w.params) (.ref 552)=true))
    (case a_w_word=>exact (by kernel_rfl:PySem.W.nsIn (My.hK w.params) mainGlobals "_law_word"=some (some (.ref 559))))
    (case l_w_word=>exact (by kernel_rfl:(My.hK w.params).lookup 559=some ⟨.type "function",none,.func (PySem.W.fnOf "_law_word" "_law_word" (L2.defArgs My.s_w_word) (L2.defBody My.s_w_word) (L2.defScope My.s_w_word) .none .none .none (.str "law_figurebook_k03_rule_texts_refused" 855) none (.ref 558) .none),#[]⟩))
    (case x_w_word=>exact (by kernel_rfl:PySem.W.codeIn (My.hK w.params) (.ref 558) "_law_word"=true))
    (case k_w_word=>exact (by kernel_rfl:PySem.W.keepIn (My.hK w.params) (.ref 559)=true))
    (case a_w_is_word=>exact (by kernel_rfl:PySem.W.nsIn (My.hK w.params) mainGlobals "_law_is_word"=some (some (.ref 566))))
    (case l_w_is_word=>exact (by kernel_rfl:(My.hK w.params).lookup 566=some ⟨.type "function",none,.func (PySem.W.fnOf "_law_is_word" "_law_is_word" (L2.defArgs My.s_w_is_word) (L2.defBody My.s_w_is_word) (L2.defScope My.s_w_is_word) .none .none .none (.str "law_figurebook_k03_rule_texts_refused" 855) none (.ref 565) .none),#[]⟩))
    (case x_w_is_word=>exact (by kernel_rfl:PySem.W.codeIn (My.hK w.params) (.ref 565) "_law_is_word"=true))
    (case k_w_is_word=>exact (by kernel_rfl:PySem.W.keepIn (My.hK w.params) (.ref 566)=true))
    (case a_w_total=>exact (by kernel_rfl:PySem.W.nsIn (My.hK w.params) mainGlobals "_law_total"=some (some (.ref 571))))
    (case l_w_total=>exact (by kernel_rfl:(My.hK w.params).lookup 571=some ⟨.type "function",none,.func (PySem.W.fnOf "_law_total" "_law_total" (L2.defArgs My.s_w_total) (L2.defBody My.s_w_total) (L2.defScope My.s_w_total) .none .none .none (.str "law_figurebook_k03_rule_texts_refused" 855) none (.ref 570) .none),#[]⟩))
    (case x_w_total=>exact (by kernel_rfl:PySem.W.codeIn (My.hK w.params) (.ref 570) "_law_total"=true))
    (case k_w_total=>exact (by kernel_rfl:PySem.W.keepIn (My.hK w.params) (.ref 571)=true))
    (case a_w_op=>exact (by kernel_rfl:PySem.W.nsIn (My.hK w.params) mainGlobals "_law_op"=some (some (.ref 578))))
    (case l_w_op=>exact (by kernel_rfl:(My.hK w.params).lookup 578=some ⟨.type "function",none,.func (PySem.W.fnOf "_law_op" "_law_op" (L2.defArgs My.s_w_op) (L2.defBody My.s_w_op) (L2.defScope My.s_w_op) .none .none .none (.str "law_figurebook_k03_rule_texts_refused" 855) none (.ref 577) .none),#[]⟩))
    (case x_w_op=>exact (by kernel_rfl:PySem.W.codeIn (My.hK w.params) (.ref 577) "_law_op"=true))
    (case k_w_op=>exact (by kernel_rfl:PySem.W.keepIn (My.hK w.params) (.ref 578)=true))
    (case a_w_tree=>exact (by kernel_rfl:PySem.W.nsIn (My.hK w.params) mainGlobals "_law_tree"=some (some (.ref 585))))
    (case l_w_tree=>exact (by kernel_rfl:(My.hK w.params).lookup 585=some ⟨.type "function",none,.func (PySem.W.fnOf "_law_tree" "_law_tree" (L2.defArgs My.s_w_tree) (L2.defBody My.s_w_tree) (L2.defScope My.s_w_tree) .none .none .none (.str "law_figurebook_k03_rule_texts_refused" 855) none (.ref 584) .none),#[]⟩))
    (case x_w_tree=>exact (by kernel_rfl:PySem.W.codeIn (My.hK w.params) (.ref 584) "_law_tree"=true))
    (case k_w_tree=>exact (by kernel_rfl:PySem.W.keepIn (My.hK w.params) (.ref 585)=true))
    (case a_w_binds=>exact (by kernel_rfl:PySem.W.nsIn (My.hK w.params) mainGlobals "_law_binds"=some (some (.ref 592))))
    (case l_w_binds=>exact (by kernel_rfl:(My.hK w.params).lookup 592=some ⟨.type "function",none,.func (PySem.W.fnOf "_law_binds" "_law_binds" (L2.defArgs My.s_w_binds) (L2.defBody My.s_w_binds) (L2.defScope My.s_w_binds) .none .none .none (.str "law_figurebook_k03_rule_texts_refused" 855) none (.ref 591) .none),#[]⟩))
    (case x_w_binds=>exact (by kernel_rfl:PySem.W.codeIn (My.hK w.params) (.ref 591) "_law_binds"=true))
    (case k_w_binds=>exact (by kernel_rfl:PySem.W.keepIn (My.hK w.params) (.ref 592)=true))
    (case a_w_shut=>exact (by kernel_rfl:PySem.W.nsIn (My.hK w.params) mainGlobals "_law_shut"=some (some (.ref 599))))
    (case l_w_shut=>exact (by kernel_rfl:(My.hK w.params).lookup 599=some ⟨.type "function",none,.func (PySem.W.fnOf "_law_shut" "_law_shut" (L2.defArgs My.s_w_shut) (L2.defBody My.s_w_shut) (L2.defScope My.s_w_shut) .none .none .none (.str "law_figurebook_k03_rule_texts_refused" 855) none (.ref 598) .none),#[]⟩))
    (case x_w_shut=>exact (by kernel_rfl:PySem.W.codeIn (My.hK w.params) (.ref 598) "_law_shut"=true))
    (case k_w_shut=>exact (by kernel_rfl:PySem.W.keepIn (My.hK w.params) (.ref 599)=true))
    (case a_w_text=>exact (by kernel_rfl:PySem.W.nsIn (My.hK w.params) mainGlobals "_law_text"=some (some (.ref 606))))
    (case l_w_text=>exact (by kernel_rfl:(My.hK w.params).lookup 606=some ⟨.type "function",none,.func (PySem.W.fnOf "_law_text" "_law_text" (L2.defArgs My.s_w_text) (L2.defBody My.s_w_text) (L2.defScope My.s_w_text) .none .none .none (.str "law_figurebook_k03_rule_texts_refused" 855) none (.ref 605) .none),#[]⟩))
    (case x_w_text=>exact (by kernel_rfl:PySem.W.codeIn (My.hK w.params) (.ref 605) "_law_text"=true))
    (case k_w_text=>exact (by kernel_rfl:PySem.W.keepIn (My.hK w.params) (.ref 606)=true))
    (case a_w_new_word=>exact (by kernel_rfl:PySem.W.nsIn (My.hK w.params) mainGlobals "_law_new_word"=some (some (.ref 613))))
    (case l_w_new_word=>exact (by kernel_rfl:(My.hK w.params).lookup 613=some ⟨.type "function",none,.func (PySem.W.fnOf "_law_new_word" "_law_new_word" (L2.defArgs My.s_w_new_word) (L2.defBody My.s_w_new_word) (L2.defScope My.s_w_new_word) .none .none .none (.str "law_figurebook_k03_rule_texts_refused" 855) none (.ref 612) .none),#[]⟩))
    (case x_w_new_word=>exact (by kernel_rfl:PySem.W.codeIn (My.hK w.params) (.ref 612) "_law_new_word"=true))
    (case k_w_new_word=>exact (by kernel_rfl:PySem.W.keepIn (My.hK w.params) (.ref 613)=true))
    (case a_w_changed=>exact (by kernel_rfl:PySem.W.nsIn (My.hK w.params) mainGlobals "_law_changed"=some (some (.ref 620))))
    (case l_w_changed=>exact (by kernel_rfl:(My.hK w.params).lookup 620=some ⟨.type "function",none,.func (PySem.W.fnOf "_law_changed" "_law_changed" (L2.defArgs My.s_w_changed) (L2.defBody My.s_w_changed) (L2.defScope My.s_w_changed) .none .none .none (.str "law_figurebook_k03_rule_texts_refused" 855) none (.ref 619) .none),#[]⟩))
    (case x_w_changed=>exact (by kernel_rfl:PySem.W.codeIn (My.hK w.params) (.ref 619) "_law_changed"=true))
    (case k_w_changed=>exact (by kernel_rfl:PySem.W.keepIn (My.hK w.params) (.ref 620)=true))
    (case a_w_step=>exact (by kernel_rfl:PySem.W.nsIn (My.hK w.params) mainGlobals "_law_step"=some (some (.ref 627))))
    (case l_w_step=>exact (by kernel_rfl:(My.hK w.params).lookup 627=some ⟨.type "function",none,.func (PySem.W.fnOf "_law_step" "_law_step" (L2.defArgs My.s_w_step) (L2.defBody My.s_w_step) (L2.defScope My.s_w_step) .none .none .none (.str "law_figurebook_k03_rule_texts_refused" 855) none (.ref 626) .none),#[]⟩))
    (case x_w_step=>exact (by kernel_rfl:PySem.W.codeIn (My.hK w.params) (.ref 626) "_law_step"=true))
    (case k_w_step=>exact (by kernel_rfl:PySem.W.keepIn (My.hK w.params) (.ref 627)=true))
    (case a_w_fault=>exact (by kernel_rfl:PySem.W.nsIn (My.hK w.params) mainGlobals "_law_fault"=some (some (.ref 634))))
    (case l_w_fault=>exact (by kernel_rfl:(My.hK w.params).lookup 634=some ⟨.type "function",none,.func (PySem.W.fnOf "_law_fault" "_law_fault" (L2.defArgs My.s_w_fault) (L2.defBody My.s_w_fault) (L2.defScope My.s_w_fault) .none .none .none (.str "law_figurebook_k03_rule_texts_refused" 855) none (.ref 633) .none),#[]⟩))
    (case x_w_fault=>exact (by kernel_rfl:PySem.W.codeIn (My.hK w.params) (.ref 633) "_law_fault"=true))
    (case k_w_fault=>exact (by kernel_rfl:PySem.W.keepIn (My.hK w.params) (.ref 634)=true))
    (case a_w_refused=>exact (by kernel_rfl:PySem.W.nsIn (My.hK w.params) mainGlobals "_law_refused"=some (some (.ref 641))))
    (case l_w_refused=>exact (by kernel_rfl:(My.hK w.params).lookup 641=some ⟨.type "function",none,.func (PySem.W.fnOf "_law_refused" "_law_refused" (L2.defArgs My.s_w_refused) (L2.defBody My.s_w_refused) (L2.defScope My.s_w_refused) .none .none .none (.str "law_figurebook_k03_rule_texts_refused" 855) none (.ref 640) .none),#[]⟩))
    (case x_w_refused=>exact (by kernel_rfl:PySem.W.codeIn (My.hK w.params) (.ref 640) "_law_refused"=true))
    (case k_w_refused=>exact (by kernel_rfl:PySem.W.keepIn (My.hK w.params) (.ref 641)=true))
    (case a_w_mixed=>exact (by kernel_rfl:PySem.W.nsIn (My.hK w.params) mainGlobals "_law_mixed"=some (some (.ref 648))))
    (case l_w_mixed=>exact (by kernel_rfl:(My.hK w.params).lookup 648=some ⟨.type "function",none,.func (PySem.W.fnOf "_law_mixed" "_law_mixed" (L2.defArgs My.s_w_mixed) (L2.defBody My.s_w_mixed) (L2.defScope My.s_w_mixed) .none .none .none (.str "law_figurebook_k03_rule_texts_refused" 855) none (.ref 647) .none),#[]⟩))
    (case x_w_mixed=>exact (by kernel_rfl:PySem.W.codeIn (My.hK w.params) (.ref 647) "_law_mixed"=true))
    (case k_w_mixed=>exact (by kernel_rfl:PySem.W.keepIn (My.hK w.params) (.ref 648)=true))
    (case a_law=>exact (by kernel_rfl:PySem.W.nsIn (My.hK w.params) mainGlobals "law"=some (some (.ref 655))))
    (case l_law=>exact (by kernel_rfl:(My.hK w.params).lookup 655=some ⟨.type "function",none,.func (PySem.W.fnOf "law" "law" (L2.defArgs My.s_law) (L2.defBody My.s_law) (L2.defScope My.s_law) .none .none .none (.str "law_figurebook_k03_rule_texts_refused" 855) none (.ref 654) .none),#[]⟩))
    (case x_law=>exact (by kernel_rfl:PySem.W.codeIn (My.hK w.params) (.ref 654) "law"=true))
    (case k_law=>exact (by kernel_rfl:PySem.W.keepIn (My.hK w.params) (.ref 655)=true))
    (case m_Rule=>exact (by kernel_rfl:PySem.W.nsIn (My.hK w.params) mainGlobals "Rule"=some (some (.ref 153))))
    (case L_Rule=>exact (⟨(by kernel_rfl),(by kernel_rfl),(by kernel_rfl),(by kernel_rfl)⟩:L2.Cls (My.hK w.params) 153))
    (case K_Rule=>exact (⟨(by kernel_rfl),(by kernel_rfl),(by kernel_rfl)⟩:L2.Mk0 (My.hK w.params) 153))
    (case m_Nothing=>exact (by kernel_rfl:PySem.W.nsIn (My.hK w.params) mainGlobals "Nothing"=some (some (.ref 174))))
    (case L_Nothing=>exact (⟨(by kernel_rfl),(by kernel_rfl),(by kernel_rfl),(by kernel_rfl)⟩:L2.Cls (My.hK w.params) 174))
    (case K_Nothing=>exact (⟨(by kernel_rfl),(by kernel_rfl),(by kernel_rfl)⟩:L2.Mk0 (My.hK w.params) 174))
    (case m_Bead=>exact (by kernel_rfl:PySem.W.nsIn (My.hK w.params) mainGlobals "Bead"=some (some (.ref 200))))
    (case L_Bead=>exact (⟨(by kernel_rfl),(by kernel_rfl),(by kernel_rfl),(by kernel_rfl)⟩:L2.Cls (My.hK w.params) 200))
    (case N_Bead_colour=>exact (by kernel_rfl:PySem.W.findIn (My.hK w.params) (.ref 200) "colour"=some none))
    (case m_Or=>exact (by kernel_rfl:PySem.W.nsIn (My.hK w.params) mainGlobals "Or"=some (some (.ref 233))))
    (case L_Or=>exact (⟨(by kernel_rfl),(by kernel_rfl),(by kernel_rfl),(by kernel_rfl)⟩:L2.Cls (My.hK w.params) 233))
    (case N_Or_one=>exact (by kernel_rfl:PySem.W.findIn (My.hK w.params) (.ref 233) "one"=some none))
    (case N_Or_other=>exact (by kernel_rfl:PySem.W.findIn (My.hK w.params) (.ref 233) "other"=some none))
    (case m_By=>exact (by kernel_rfl:PySem.W.nsIn (My.hK w.params) mainGlobals "By"=some (some (.ref 266))))
    (case L_By=>exact (⟨(by kernel_rfl),(by kernel_rfl),(by kernel_rfl),(by kernel_rfl)⟩:L2.Cls (My.hK w.params) 266))
    (case N_By_one=>exact (by kernel_rfl:PySem.W.findIn (My.hK w.params) (.ref 266) "one"=some none))
    (case N_By_other=>exact (by kernel_rfl:PySem.W.findIn (My.hK w.params) (.ref 266) "other"=some none))
    (case m_Row=>exact (by kernel_rfl:PySem.W.nsIn (My.hK w.params) mainGlobals "Row"=some (some (.ref 299))))
    (case L_Row=>exact (⟨(by kernel_rfl),(by kernel_rfl),(by kernel_rfl),(by kernel_rfl)⟩:L2.Cls (My.hK w.params) 299))
    (case N_Row_part=>exact (by kernel_rfl:PySem.W.findIn (My.hK w.params) (.ref 299) "part"=some none))
    (case m_Bag=>exact (by kernel_rfl:PySem.W.nsIn (My.hK w.params) mainGlobals "Bag"=some (some (.ref 332))))
    (case L_Bag=>exact (⟨(by kernel_rfl),(by kernel_rfl),(by kernel_rfl),(by kernel_rfl)⟩:L2.Cls (My.hK w.params) 332))
    (case N_Bag_part=>exact (by kernel_rfl:PySem.W.findIn (My.hK w.params) (.ref 332) "part"=some none))
    (case m_Choice=>exact (by kernel_rfl:PySem.W.nsIn (My.hK w.params) mainGlobals "Choice"=some (some (.ref 365))))
    (case L_Choice=>exact (⟨(by kernel_rfl),(by kernel_rfl),(by kernel_rfl),(by kernel_rfl)⟩:L2.Cls (My.hK w.params) 365))
    (case N_Choice_part=>exact (by kernel_rfl:PySem.W.findIn (My.hK w.params) (.ref 365) "part"=some none))
    (case m_Ring=>exact (by kernel_rfl:PySem.W.nsIn (My.hK w.params) mainGlobals "Ring"=some (some (.ref 398))))
    (case L_Ring=>exact (⟨(by kernel_rfl),(by kernel_rfl),(by kernel_rfl),(by kernel_rfl)⟩:L2.Cls (My.hK w.params) 398))
    (case N_Ring_part=>exact (by kernel_rfl:PySem.W.findIn (My.hK w.params) (.ref 398) "part"=some none))
    (case m_Named=>exact (by kernel_rfl:PySem.W.nsIn (My.hK w.params) mainGlobals "Named"=some (some (.ref 431))))
    (case L_Named=>exact (⟨(by kernel_rfl),(by kernel_rfl),(by kernel_rfl),(by kernel_rfl)⟩:L2.Cls (My.hK w.params) 431))
    (case N_Named_name=>exact (by kernel_rfl:PySem.W.findIn (My.hK w.params) (.ref 431) "name"=some none))
    (case m_Words=>exact (by kernel_rfl:PySem.W.nsIn (My.hK w.params) mainGlobals "Words"=some (some (.ref 492))))
    (case L_Words=>exact (⟨(by kernel_rfl),(by kernel_rfl),(by kernel_rfl),(by kernel_rfl)⟩:L2.Cls (My.hK w.params) 492))
    (case N_Words_words=>exact (by kernel_rfl:PySem.W.findIn (My.hK w.params) (.ref 492) "words"=some none))
    (case N_Words_at=>exact (by kernel_rfl:PySem.W.findIn (My.hK w.params) (.ref 492) "at"=some none))
    (case m_NoText=>exact (by kernel_rfl:PySem.W.nsIn (My.hK w.params) mainGlobals "NoText"=some (some (.ref 51))))
    (case m_FigureError=>exact (by kernel_rfl:PySem.W.nsIn (My.hK w.params) mainGlobals "FigureError"=some (some (.ref 31))))
    (case m_NoClass=>exact (by kernel_rfl:PySem.W.nsIn (My.hK w.params) mainGlobals "NoClass"=some (some (.ref 89))))
    (case m_NoLine=>exact (by kernel_rfl:PySem.W.nsIn (My.hK w.params) mainGlobals "NoLine"=some (some (.ref 127))))
    (case m_NoStep=>exact (by kernel_rfl:PySem.W.nsIn (My.hK w.params) mainGlobals "NoStep"=some (some (.ref 108))))
    (case m_Twice=>exact (by kernel_rfl:PySem.W.nsIn (My.hK w.params) mainGlobals "Twice"=some (some (.ref 70))))
    (case XB=>exact (⟨(by kernel_rfl),(by kernel_rfl),(by kernel_rfl)⟩:L2.XBase (My.hK w.params) 31))
    (case N_NoText_at=>exact (by kernel_rfl:PySem.W.findIn (My.hK w.params) (.ref 51) "at"=some none))
    (case Y_NoText_FigureError=>exact (⟨(by kernel_rfl),(by kernel_rfl),(by kernel_rfl),(by kernel_rfl),(by kernel_rfl)⟩:L2.CatchIn (My.hK w.params) 51 31 true))
    (case X_NoText=>exact (⟨(by kernel_rfl),(by kernel_rfl),(by kernel_rfl),(by kernel_rfl),(by kernel_rfl),(by kernel_rfl),(by kernel_rfl),(by kernel_rfl)⟩:L2.XGet (My.hK w.params) 51))
    (case XI_0=>exact (by kernel_rfl:PySem.W.kitOne (My.hK w.params) (.ref 51) (.ref 51)=some true))
    (case XI_1=>exact (by kernel_rfl:PySem.W.kitOne (My.hK w.params) (.ref 51) (.type "ValueError")=some true))
    (case XI_2=>exact (by kernel_rfl:PySem.W.kitOne (My.hK w.params) (.ref 51) (.ref 89)=some false))
    (case XI_3=>exact (by kernel_rfl:PySem.W.kitOne (My.hK w.params) (.ref 51) (.ref 127)=some false))
    (case XI_4=>exact (by kernel_rfl:PySem.W.kitOne (My.hK w.params) (.ref 51) (.ref 108)=some false))
    (case XI_5=>exact (by kernel_rfl:PySem.W.kitOne (My.hK w.params) (.ref 51) (.ref 70)=some false))
    (case IT=>exact (⟨(by kernel_rfl),(by kernel_rfl),(by kernel_rfl),(by kernel_rfl),(by kernel_rfl),(by kernel_rfl)⟩:L2.IsTab (My.hK w.params) [174,200,431,233,266,299,332,365,398] 153))
    (case n_ValueError=>exact (by kernel_rfl:PySem.W.nsIn (My.hK w.params) mainGlobals "ValueError"=some none))
    (case n_all=>exact (by kernel_rfl:PySem.W.nsIn (My.hK w.params) mainGlobals "all"=some none))
    (case n_any=>exact (by kernel_rfl:PySem.W.nsIn (My.hK w.params) mainGlobals "any"=some none))
    (case n_bool=>exact (by kernel_rfl:PySem.W.nsIn (My.hK w.params) mainGlobals "bool"=some none))
    (case n_enumerate=>exact (by kernel_rfl:PySem.W.nsIn (My.hK w.params) mainGlobals "enumerate"=some none))
    (case n_int=>exact (by kernel_rfl:PySem.W.nsIn (My.hK w.params) mainGlobals "int"=some none))
    (case n_isinstance=>exact (by kernel_rfl:PySem.W.nsIn (My.hK w.params) mainGlobals "isinstance"=some none))
    (case n_len=>exact (by kernel_rfl:PySem.W.nsIn (My.hK w.params) mainGlobals "len"=some none))
    (case n_list=>exact (by kernel_rfl:PySem.W.nsIn (My.hK w.params) mainGlobals "list"=some none))
    (case n_max=>exact (by kernel_rfl:PySem.W.nsIn (My.hK w.params) mainGlobals "max"=some none))
    (case n_min=>exact (by kernel_rfl:PySem.W.nsIn (My.hK w.params) mainGlobals "min"=some none))
    (case n_range=>exact (by kernel_rfl:PySem.W.nsIn (My.hK w.params) mainGlobals "range"=some none))
    (case n_reversed=>exact (by kernel_rfl:PySem.W.nsIn (My.hK w.params) mainGlobals "reversed"=some none))
    (case n_sorted=>exact (by kernel_rfl:PySem.W.nsIn (My.hK w.params) mainGlobals "sorted"=some none))
    (case n_str=>exact (by kernel_rfl:PySem.W.nsIn (My.hK w.params) mainGlobals "str"=some none))
    (case n_sum=>exact (by kernel_rfl:PySem.W.nsIn (My.hK w.params) mainGlobals "sum"=some none))
    (case n_tuple=>exact (by kernel_rfl:PySem.W.nsIn (My.hK w.params) mainGlobals "tuple"=some none))
    (case n_zip=>exact (by kernel_rfl:PySem.W.nsIn (My.hK w.params) mainGlobals "zip"=some none))
    (case c_HOLDERS=>exact (by kernel_rfl:PySem.W.nsIn (My.hK w.params) mainGlobals "HOLDERS"=some (some (.ref 435))))
    (case o_HOLDERS=>exact (by kernel_rfl:(My.hK w.params).lookup 435=some ⟨.type "tuple",none,.seq #[(.str "row" 725),(.str "bag" 726),(.str "choice" 727),(.str "ring" 728)] 0,#[]⟩))
    (case t_HOLDERS=>exact ⟨rfl,rfl⟩)
    (case i_HOLDERS=>rfl)
    (case c_KEPT=>exact (by kernel_rfl:PySem.W.nsIn (My.hK w.params) mainGlobals "KEPT"=some (some (.ref 434))))
    (case o_KEPT=>exact (by kernel_rfl:(My.hK w.params).lookup 434=some ⟨.type "tuple",none,.seq #[(.str "nothing" 713),(.str "bead" 714),(.str "or" 715),(.str "by" 716),(.str "row" 717),(.str "bag" 718),(.str "choice" 719),(.str "ring" 720),(.str "of" 721),(.str "left" 722),(.str "right" 723)] 0,#[]⟩))
    (case t_KEPT=>exact ⟨rfl,rfl⟩)
    (case i_KEPT=>rfl)
    (case c_LETTERS=>exact (by kernel_rfl:PySem.W.nsIn (My.hK w.params) mainGlobals "LETTERS"=some (some (.str "abcdefghijklmnopqrstuvwxyz" 709))))
    (case c_LONGEST=>exact (by kernel_rfl:PySem.W.nsIn (My.hK w.params) mainGlobals "LONGEST"=some (some (.int 8 711))))
